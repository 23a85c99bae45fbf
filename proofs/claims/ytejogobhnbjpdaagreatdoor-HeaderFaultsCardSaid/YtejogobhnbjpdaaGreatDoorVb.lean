/- Walks: the statement HeaderFaults. -/
import Derived.Test.YtejogobhnbjpdaaGreatDoorVa
import Derived.Test.YtejogobhnbjpdaaGreatDoorRi
namespace Go.Proofs.YtejogobhnbjpdaaGreatDoor
set_option linter.unusedVariables false
set_option linter.unusedSimpArgs false
open Go.ChangeShapes Go.WideShapes Go.ChangeAt Go.RowKit

theorem lat_tk {w : World} {b off cap n_ : Nat} {l : List Tk} (h : LAt 3 tkV w (.slice (some ⟨b, off, none⟩) n_ cap) l) {i : Nat} {x : Tk} (hx : l[i]? = some x) :
    b < w.heap.size ∧ w.cell? ⟨b, off + i * 3, none⟩ = some (.int .i64 x.1) ∧ w.cell? ⟨b, off + i * 3 + 1, none⟩ = some (.string x.2.1) ∧ w.cell? ⟨b, off + i * 3 + 2, none⟩ = some (.int .i64 x.2.2) := by
  obtain ⟨k, y, p⟩ := x
  exact h.cells hx
set_option maxRecDepth 100000 in
set_option maxHeartbeats 4000000 in
theorem faults_walk (s : ByteArray) (w : World) (hs0 : s.size ≤ 140737488351232) (hTab : Tabs w) : Calls Tryz.prog 5 #[.string s] w (LawEnd w) := by
  have HA := Lib.hid (alive12_any w hTab)
  have HT := Lib.hid hTab
  clear hTab
  by_cases hbig : 2048 < s.size
  · have hbI : (2048 : Int) < (s.size : Int) := by omega
    go_enter Tryz.func5, Tryz.ntmps5
    go_wp2_with fail
    refine HA.out.mono ?_
    rintro r w1 ⟨rfl, hB⟩
    have HB := Lib.hid hB
    clear hB
    go_wp2_with fail
    go_ret
    exact ⟨rfl, HB.out⟩
  have hbI : ¬ (2048 : Int) < (s.size : Int) := by omega
  have hsz : s.size ≤ 1048576 := by omega
  have HX := Lib.hid (fun w1 (h : Below w.heap.size w w1) => parse_at s w1 hsz (tabs_below HT.out h))
  have HL := Lib.hid (fun w1 => refLex_any s w1 hsz)
  have hpl := parse_place s hsz
  have hIO := Lib.hid (imp_ok s)
  have hNO := Lib.hid (fun h => name_ok (s := s) hsz h)
  have hln := lexL_len s
  have hPB := parse_b s hsz
  have hil := hPB.il
  have hal := hPB.at_
  clear hPB
  generalize parseR s = h at *
  cases hpl with
  | ok nm bd I E hI hn h0 =>
    dsimp only at hil
    have HI := Lib.hid (show ∀ t ∈ I, ImOk s t from fun t ht => hIO.out t (by rw [← hI]; exact ht))
    have hne : nm ≠ ⟨#[]⟩ := by rw [hn]; exact hNO.out h0
    have hk := str_lit nm #[]
    rw [decide_eq_false hne] at hk
    have hkn := ne_of_eqb hk
    clear hI hn h0 hIO hNO hne HL
    go_enter Tryz.func5, Tryz.ntmps5
    go_wp2_with fail
    refine HA.out.mono ?_
    rintro r w1 ⟨rfl, hB⟩
    have HB := Lib.hid hB
    clear hB
    go_wp2_with fail
    refine (HX.out _ HB.out).mono ?_
    rintro r w2 ⟨v2, rfl, ⟨iv, ev, rfl, hi, he⟩, hB⟩
    dsimp only at hi he
    obtain ⟨pe, ce, rfl, _⟩ := lat_shape he
    obtain ⟨pi, ci, rfl, hpi⟩ := lat_shape hi
    have HB2 := Lib.hid (HB.out.trans (hB.mono HB.out.size))
    have hn1 := heap_alloc_new w2 (.cells #[.string nm, .slice pi I.length ci, .string bd, .slice pe E.length ce, .int .i64 0, .int .i64 0] 26)
    have hb3 := (Below.refl w2.heap.size w2).alloc (Nat.le_refl _) (.cells #[.string nm, .slice pi I.length ci, .string bd, .slice pe E.length ce, .int .i64 0, .int .i64 0] 26)
    have Hn := Lib.hid hn1
    have HB3 := Lib.hid (HB2.out.trans (hb3.mono HB2.out.size))
    have Hi := Lib.hid (hi.below hb3)
    have Hpi := Lib.hid hpi
    clear hB hi he hpi hn1 hb3 HB
    dsimp only
    go_upto_region 6 with fail
    generalize w2.alloc (.cells #[.string nm, .slice pi I.length ci, .string bd, .slice pe E.length ce, .int .i64 0, .int .i64 0] 26) = w3 at *
    generalize w2.heap.size = n at *
    have c4 := block_cell Hn.out 4
    have c1 := block_cell Hn.out 1
    go_wp2_with fail
    clear c4 c1
    go_loopg [5, 23] I.length (fun g _ iv wr => ∃ k : Nat, k + g = I.length ∧ iv = .int .i64 k ∧ Hid (Below w3.heap.size w3 wr))
    case atStart => exact ⟨0, by omega, rfl, Lib.hid (Below.refl _ _)⟩
    case round =>
      obtain ⟨k, hkg, rfl, HR⟩ := hrel
      have hsz3 := HR.out.size
      by_cases hlt : k < I.length
      · have hltI : (k : Int) < (I.length : Int) := by omega
        obtain ⟨g, off, rfl⟩ := Hpi.out (by omega)
        have hi2 := Hi.out.below HR.out
        obtain ⟨hgl, c0, c1, c2⟩ := im_cell hi2 (i := k) (List.getElem?_eq_getElem hlt)
        obtain ⟨o1, o2, o3⟩ := HI.out _ (List.getElem_mem hlt)
        have kp := str_lit I[k].2.1 #[]
        rw [decide_eq_false o1] at kp
        have hB4 := Lib.hid (fun o : Obj => HR.out.trans (((Below.refl wr.heap.size wr).alloc (Nat.le_refl _) o).mono HR.out.size))
        generalize I[k] = x at *
        obtain ⟨x1, x2, x3⟩ := x
        dsimp only at c0 c1 c2 o1 o2 o3 kp
        have o2I : ¬ (x3 : Int) ≤ 0 := by omega
        have o3I : ¬ (s.size : Int) ≤ (x3 : Int) := by omega
        clear hi2 o1
        go_wp2_with fail
        go_roundg (gk - 1)
        case measure => omega
        case rel => exact ⟨k + 1, by omega, by go_num, Lib.hid (hB4.out _)⟩
      have hnI : ¬ (k : Int) < (I.length : Int) := by omega
      have hx := (HR.out.block _ (lt_of_block Hn.out)).trans Hn.out
      have c0 := block_cell hx 0
      have c5 := block_cell hx 5
      have HBR := Lib.hid (HB3.out.trans (HR.out.mono HB3.out.size))
      clear hx
      go_wp2_with fail
      go_ret
      exact ⟨rfl, HBR.out⟩
  | wrong f hf x hx =>
    have hal : x.2.2 ≤ 4194304 := hal
    obtain ⟨j, hj⟩ := List.getElem?_of_mem hx
    have hjl := (List.getElem?_eq_some_iff.1 hj).1
    have Hj := Lib.hid hj
    have HS := Lib.hid (fun (iv ev : Value) w1 (hi : LAt 3 imV w1 iv []) (he : LAt 1 strV w1 ev []) => sameHdr_any (.wrong f x.2.2) (.wrong f x.2.2) (.agg #[.string ⟨#[]⟩, iv, .string ⟨#[]⟩, ev, .int .i64 f, .int .i64 x.2.2]) (.agg #[.string ⟨#[]⟩, .slice none 0 0, .string ⟨#[]⟩, .slice none 0 0, .int .i64 f, .int .i64 x.2.2]) w1 ⟨_, _, rfl, hi, he⟩ ⟨_, _, rfl, zero_lat, zero_lat⟩ (fun t ht => by cases ht) (fun t ht => by cases ht) (Nat.zero_le _) (Nat.zero_le _))
    have hsm : sameH (.wrong f x.2.2) (.wrong f x.2.2) = true := decide_eq_true ⟨rfl, rfl, rfl, rfl, rfl, rfl⟩
    rw [hsm] at HS
    clear hsm hx hj
    unfold Hdr.wrong at HX
    obtain ⟨x1, x2, a⟩ := x
    dsimp only at HX HS hal
    obtain ⟨len, hlen⟩ : ∃ len, len = (lexL s).length := ⟨_, rfl⟩
    have hll : len ≤ 4194304 := by omega
    have HLn := Lib.hid hlen
    have hjl2 : j < len := by omega
    clear hjl hlen hIO hNO hln hil
    rcases hf with rfl | rfl | rfl
    · go_enter Tryz.func5, Tryz.ntmps5
      go_wp2_with fail
      refine HA.out.mono ?_
      rintro r w1 ⟨rfl, hB⟩
      have HB := Lib.hid hB
      clear hB
      go_wp2_with fail
      refine (HX.out _ HB.out).mono ?_
      rintro r w2 ⟨v2, rfl, ⟨iv, ev, rfl, hi, he⟩, hB⟩
      dsimp only at hi he
      obtain ⟨pe, ce, rfl, _⟩ := lat_shape he
      obtain ⟨pi, ci, rfl, _⟩ := lat_shape hi
      have HB2 := Lib.hid (HB.out.trans (hB.mono HB.out.size))
      have hn1 := heap_alloc_new w2 (.cells #[.string ⟨#[]⟩, .slice pi 0 ci, .string ⟨#[]⟩, .slice pe 0 ce, .int .i64 1, .int .i64 a] 26)
      have hb3 := (Below.refl w2.heap.size w2).alloc (Nat.le_refl _) (.cells #[.string ⟨#[]⟩, .slice pi 0 ci, .string ⟨#[]⟩, .slice pe 0 ce, .int .i64 1, .int .i64 a] 26)
      have Hn := Lib.hid hn1
      have HB3 := Lib.hid (HB2.out.trans (hb3.mono HB2.out.size))
      have HSM := Lib.hid (HS.out _ _ _ (hi.below hb3) (he.below hb3))
      clear hB hi he hn1 hb3 HB
      dsimp only [List.length_nil]
      go_upto_region 6 with fail
      generalize w2.alloc (.cells #[.string ⟨#[]⟩, .slice pi 0 ci, .string ⟨#[]⟩, .slice pe 0 ce, .int .i64 1, .int .i64 a] 26) = w3 at *
      generalize w2.heap.size = n at *
      have c0 := block_cell Hn.out 0
      have c1 := block_cell Hn.out 1
      have c2 := block_cell Hn.out 2
      have c3 := block_cell Hn.out 3
      have c4 := block_cell Hn.out 4
      have c5 := block_cell Hn.out 5
      go_wp2_with fail
      refine HSM.out.mono ?_
      rintro r w4 ⟨rfl, hB⟩
      have Hn4 := Lib.hid ((hB.block _ (lt_of_block Hn.out)).trans Hn.out)
      have HB4 := Lib.hid (HB3.out.trans (hB.mono HB3.out.size))
      clear hB c0 c1 c2 c3 c4 c5
      go_wp2_with fail
      refine (HL.out _).mono ?_
      rintro r w5 ⟨v5, u5, rfl, hv, hu, hB⟩
      have hx5 := (hB.block _ (lt_of_block Hn4.out)).trans Hn4.out
      have Hn5 := Lib.hid hx5
      have HB5 := Lib.hid (HB4.out.trans (hB.mono HB4.out.size))
      obtain ⟨p1, cp1, rfl, hp1⟩ := hv.shape
      obtain ⟨p2, cp2, rfl, hp2⟩ := hu.shape
      have HV := Lib.hid hv
      have Hp := Lib.hid hp1
      have c4 := block_cell hx5 4
      clear hB hv hu hp1 hp2 hx5
      rw [← HLn.out] at HV Hp ⊢
      go_wp2_with fail
      clear c4
      go_loopg [9, 75] len (fun g _ iv wr => ∃ k : Nat, k + g = len ∧ k ≤ j ∧ iv = .int .i64 k ∧ Hid (Below w5.heap.size w5 wr))
      case atStart => exact ⟨0, by omega, by omega, rfl, Lib.hid (Below.refl _ _)⟩
      case round =>
        obtain ⟨k, hkg, hkj, rfl, HR⟩ := hrel
        have hs5 := HR.out.size
        have hltI : (k : Int) < (len : Int) := by omega
        have hkl : k < (lexL s).length := by have := HLn.out; omega
        obtain ⟨g, off, rfl⟩ := Hp.out (by omega)
        have hv6 := HV.out.below HR.out
        obtain ⟨hgl, c0, c1, c2⟩ := lat_tk hv6 (i := k) (List.getElem?_eq_getElem hkl)
        have hx6 := (HR.out.block _ (lt_of_block Hn5.out)).trans Hn5.out
        have hnl := lt_of_block hx6
        have d5 := block_cell hx6 5
        have hB6 := Lib.hid (fun o : Obj => HR.out.trans (((Below.refl wr.heap.size wr).alloc (Nat.le_refl _) o).mono HR.out.size))
        have ka := int_eqb (lexL s)[k].2.2 a
        have hkne : ¬ (lexL s)[k].2.2 = a → k ≠ j := fun h e => by
          subst e
          have := Hj.out
          rw [List.getElem?_eq_getElem hkl] at this
          injection this with this
          apply h
          rw [this]
        have Hkne := Lib.hid hkne
        clear hkne hv6 hx6
        generalize (lexL s)[k] = y at *
        obtain ⟨y1, y2, y3⟩ := y
        dsimp only at c0 c1 c2 ka
        by_cases he : y3 = a
        · rw [decide_eq_true he] at ka
          have kan := ne_of_eqb ka
          clear he
          have hne5 : n ≠ wr.heap.size := by omega
          have HBF := Lib.hid (fun o : Obj => HB5.out.trans ((hB6.out o).mono HB5.out.size))
          go_wp2_with fail
          go_ret
          exact ⟨rfl, HBF.out _⟩
        · have hkj2 : k ≠ j := Hkne.out he
          rw [decide_eq_false he] at ka
          have kan := ne_of_eqb ka
          clear he
          have hne5 : n ≠ wr.heap.size := by omega
          go_wp2_with fail
          go_roundg (gk - 1)
          case measure => omega
          case rel => exact ⟨k + 1, by omega, by omega, by go_num, Lib.hid (hB6.out _)⟩
    · go_enter Tryz.func5, Tryz.ntmps5
      go_wp2_with fail
      refine HA.out.mono ?_
      rintro r w1 ⟨rfl, hB⟩
      have HB := Lib.hid hB
      clear hB
      go_wp2_with fail
      refine (HX.out _ HB.out).mono ?_
      rintro r w2 ⟨v2, rfl, ⟨iv, ev, rfl, hi, he⟩, hB⟩
      dsimp only at hi he
      obtain ⟨pe, ce, rfl, _⟩ := lat_shape he
      obtain ⟨pi, ci, rfl, _⟩ := lat_shape hi
      have HB2 := Lib.hid (HB.out.trans (hB.mono HB.out.size))
      have hn1 := heap_alloc_new w2 (.cells #[.string ⟨#[]⟩, .slice pi 0 ci, .string ⟨#[]⟩, .slice pe 0 ce, .int .i64 2, .int .i64 a] 26)
      have hb3 := (Below.refl w2.heap.size w2).alloc (Nat.le_refl _) (.cells #[.string ⟨#[]⟩, .slice pi 0 ci, .string ⟨#[]⟩, .slice pe 0 ce, .int .i64 2, .int .i64 a] 26)
      have Hn := Lib.hid hn1
      have HB3 := Lib.hid (HB2.out.trans (hb3.mono HB2.out.size))
      have HSM := Lib.hid (HS.out _ _ _ (hi.below hb3) (he.below hb3))
      clear hB hi he hn1 hb3 HB
      dsimp only [List.length_nil]
      go_upto_region 6 with fail
      generalize w2.alloc (.cells #[.string ⟨#[]⟩, .slice pi 0 ci, .string ⟨#[]⟩, .slice pe 0 ce, .int .i64 2, .int .i64 a] 26) = w3 at *
      generalize w2.heap.size = n at *
      have c0 := block_cell Hn.out 0
      have c1 := block_cell Hn.out 1
      have c2 := block_cell Hn.out 2
      have c3 := block_cell Hn.out 3
      have c4 := block_cell Hn.out 4
      have c5 := block_cell Hn.out 5
      go_wp2_with fail
      refine HSM.out.mono ?_
      rintro r w4 ⟨rfl, hB⟩
      have Hn4 := Lib.hid ((hB.block _ (lt_of_block Hn.out)).trans Hn.out)
      have HB4 := Lib.hid (HB3.out.trans (hB.mono HB3.out.size))
      clear hB c0 c1 c2 c3 c4 c5
      go_wp2_with fail
      refine (HL.out _).mono ?_
      rintro r w5 ⟨v5, u5, rfl, hv, hu, hB⟩
      have hx5 := (hB.block _ (lt_of_block Hn4.out)).trans Hn4.out
      have Hn5 := Lib.hid hx5
      have HB5 := Lib.hid (HB4.out.trans (hB.mono HB4.out.size))
      obtain ⟨p1, cp1, rfl, hp1⟩ := hv.shape
      obtain ⟨p2, cp2, rfl, hp2⟩ := hu.shape
      have HV := Lib.hid hv
      have Hp := Lib.hid hp1
      have c4 := block_cell hx5 4
      clear hB hv hu hp1 hp2 hx5
      rw [← HLn.out] at HV Hp ⊢
      go_wp2_with fail
      clear c4
      go_loopg [9, 75] len (fun g _ iv wr => ∃ k : Nat, k + g = len ∧ k ≤ j ∧ iv = .int .i64 k ∧ Hid (Below w5.heap.size w5 wr))
      case atStart => exact ⟨0, by omega, by omega, rfl, Lib.hid (Below.refl _ _)⟩
      case round =>
        obtain ⟨k, hkg, hkj, rfl, HR⟩ := hrel
        have hs5 := HR.out.size
        have hltI : (k : Int) < (len : Int) := by omega
        have hkl : k < (lexL s).length := by have := HLn.out; omega
        obtain ⟨g, off, rfl⟩ := Hp.out (by omega)
        have hv6 := HV.out.below HR.out
        obtain ⟨hgl, c0, c1, c2⟩ := lat_tk hv6 (i := k) (List.getElem?_eq_getElem hkl)
        have hx6 := (HR.out.block _ (lt_of_block Hn5.out)).trans Hn5.out
        have hnl := lt_of_block hx6
        have d5 := block_cell hx6 5
        have hB6 := Lib.hid (fun o : Obj => HR.out.trans (((Below.refl wr.heap.size wr).alloc (Nat.le_refl _) o).mono HR.out.size))
        have ka := int_eqb (lexL s)[k].2.2 a
        have hkne : ¬ (lexL s)[k].2.2 = a → k ≠ j := fun h e => by
          subst e
          have := Hj.out
          rw [List.getElem?_eq_getElem hkl] at this
          injection this with this
          apply h
          rw [this]
        have Hkne := Lib.hid hkne
        clear hkne hv6 hx6
        generalize (lexL s)[k] = y at *
        obtain ⟨y1, y2, y3⟩ := y
        dsimp only at c0 c1 c2 ka
        by_cases he : y3 = a
        · rw [decide_eq_true he] at ka
          have kan := ne_of_eqb ka
          clear he
          have hne5 : n ≠ wr.heap.size := by omega
          have HBF := Lib.hid (fun o : Obj => HB5.out.trans ((hB6.out o).mono HB5.out.size))
          go_wp2_with fail
          go_ret
          exact ⟨rfl, HBF.out _⟩
        · have hkj2 : k ≠ j := Hkne.out he
          rw [decide_eq_false he] at ka
          have kan := ne_of_eqb ka
          clear he
          have hne5 : n ≠ wr.heap.size := by omega
          go_wp2_with fail
          go_roundg (gk - 1)
          case measure => omega
          case rel => exact ⟨k + 1, by omega, by omega, by go_num, Lib.hid (hB6.out _)⟩
    · go_enter Tryz.func5, Tryz.ntmps5
      go_wp2_with fail
      refine HA.out.mono ?_
      rintro r w1 ⟨rfl, hB⟩
      have HB := Lib.hid hB
      clear hB
      go_wp2_with fail
      refine (HX.out _ HB.out).mono ?_
      rintro r w2 ⟨v2, rfl, ⟨iv, ev, rfl, hi, he⟩, hB⟩
      dsimp only at hi he
      obtain ⟨pe, ce, rfl, _⟩ := lat_shape he
      obtain ⟨pi, ci, rfl, _⟩ := lat_shape hi
      have HB2 := Lib.hid (HB.out.trans (hB.mono HB.out.size))
      have hn1 := heap_alloc_new w2 (.cells #[.string ⟨#[]⟩, .slice pi 0 ci, .string ⟨#[]⟩, .slice pe 0 ce, .int .i64 3, .int .i64 a] 26)
      have hb3 := (Below.refl w2.heap.size w2).alloc (Nat.le_refl _) (.cells #[.string ⟨#[]⟩, .slice pi 0 ci, .string ⟨#[]⟩, .slice pe 0 ce, .int .i64 3, .int .i64 a] 26)
      have Hn := Lib.hid hn1
      have HB3 := Lib.hid (HB2.out.trans (hb3.mono HB2.out.size))
      have HSM := Lib.hid (HS.out _ _ _ (hi.below hb3) (he.below hb3))
      clear hB hi he hn1 hb3 HB
      dsimp only [List.length_nil]
      go_upto_region 6 with fail
      generalize w2.alloc (.cells #[.string ⟨#[]⟩, .slice pi 0 ci, .string ⟨#[]⟩, .slice pe 0 ce, .int .i64 3, .int .i64 a] 26) = w3 at *
      generalize w2.heap.size = n at *
      have c0 := block_cell Hn.out 0
      have c1 := block_cell Hn.out 1
      have c2 := block_cell Hn.out 2
      have c3 := block_cell Hn.out 3
      have c4 := block_cell Hn.out 4
      have c5 := block_cell Hn.out 5
      go_wp2_with fail
      refine HSM.out.mono ?_
      rintro r w4 ⟨rfl, hB⟩
      have Hn4 := Lib.hid ((hB.block _ (lt_of_block Hn.out)).trans Hn.out)
      have HB4 := Lib.hid (HB3.out.trans (hB.mono HB3.out.size))
      clear hB c0 c1 c2 c3 c4 c5
      go_wp2_with fail
      refine (HL.out _).mono ?_
      rintro r w5 ⟨v5, u5, rfl, hv, hu, hB⟩
      have hx5 := (hB.block _ (lt_of_block Hn4.out)).trans Hn4.out
      have Hn5 := Lib.hid hx5
      have HB5 := Lib.hid (HB4.out.trans (hB.mono HB4.out.size))
      obtain ⟨p1, cp1, rfl, hp1⟩ := hv.shape
      obtain ⟨p2, cp2, rfl, hp2⟩ := hu.shape
      have HV := Lib.hid hv
      have Hp := Lib.hid hp1
      have c4 := block_cell hx5 4
      clear hB hv hu hp1 hp2 hx5
      rw [← HLn.out] at HV Hp ⊢
      go_wp2_with fail
      clear c4
      go_loopg [9, 75] len (fun g _ iv wr => ∃ k : Nat, k + g = len ∧ k ≤ j ∧ iv = .int .i64 k ∧ Hid (Below w5.heap.size w5 wr))
      case atStart => exact ⟨0, by omega, by omega, rfl, Lib.hid (Below.refl _ _)⟩
      case round =>
        obtain ⟨k, hkg, hkj, rfl, HR⟩ := hrel
        have hs5 := HR.out.size
        have hltI : (k : Int) < (len : Int) := by omega
        have hkl : k < (lexL s).length := by have := HLn.out; omega
        obtain ⟨g, off, rfl⟩ := Hp.out (by omega)
        have hv6 := HV.out.below HR.out
        obtain ⟨hgl, c0, c1, c2⟩ := lat_tk hv6 (i := k) (List.getElem?_eq_getElem hkl)
        have hx6 := (HR.out.block _ (lt_of_block Hn5.out)).trans Hn5.out
        have hnl := lt_of_block hx6
        have d5 := block_cell hx6 5
        have hB6 := Lib.hid (fun o : Obj => HR.out.trans (((Below.refl wr.heap.size wr).alloc (Nat.le_refl _) o).mono HR.out.size))
        have ka := int_eqb (lexL s)[k].2.2 a
        have hkne : ¬ (lexL s)[k].2.2 = a → k ≠ j := fun h e => by
          subst e
          have := Hj.out
          rw [List.getElem?_eq_getElem hkl] at this
          injection this with this
          apply h
          rw [this]
        have Hkne := Lib.hid hkne
        clear hkne hv6 hx6
        generalize (lexL s)[k] = y at *
        obtain ⟨y1, y2, y3⟩ := y
        dsimp only at c0 c1 c2 ka
        by_cases he : y3 = a
        · rw [decide_eq_true he] at ka
          have kan := ne_of_eqb ka
          clear he
          have hne5 : n ≠ wr.heap.size := by omega
          have HBF := Lib.hid (fun o : Obj => HB5.out.trans ((hB6.out o).mono HB5.out.size))
          go_wp2_with fail
          go_ret
          exact ⟨rfl, HBF.out _⟩
        · have hkj2 : k ≠ j := Hkne.out he
          rw [decide_eq_false he] at ka
          have kan := ne_of_eqb ka
          clear he
          have hne5 : n ≠ wr.heap.size := by omega
          go_wp2_with fail
          go_roundg (gk - 1)
          case measure => omega
          case rel => exact ⟨k + 1, by omega, by omega, by go_num, Lib.hid (hB6.out _)⟩
  | note f hf x hx =>
    have hal : x.2.2 ≤ 4194304 := hal
    obtain ⟨j, hj⟩ := List.getElem?_of_mem hx
    have hjl := (List.getElem?_eq_some_iff.1 hj).1
    have Hj := Lib.hid hj
    have HS := Lib.hid (fun (iv ev : Value) w1 (hi : LAt 3 imV w1 iv []) (he : LAt 1 strV w1 ev []) => sameHdr_any (.wrong f x.2.2) (.wrong f x.2.2) (.agg #[.string ⟨#[]⟩, iv, .string ⟨#[]⟩, ev, .int .i64 f, .int .i64 x.2.2]) (.agg #[.string ⟨#[]⟩, .slice none 0 0, .string ⟨#[]⟩, .slice none 0 0, .int .i64 f, .int .i64 x.2.2]) w1 ⟨_, _, rfl, hi, he⟩ ⟨_, _, rfl, zero_lat, zero_lat⟩ (fun t ht => by cases ht) (fun t ht => by cases ht) (Nat.zero_le _) (Nat.zero_le _))
    have hsm : sameH (.wrong f x.2.2) (.wrong f x.2.2) = true := decide_eq_true ⟨rfl, rfl, rfl, rfl, rfl, rfl⟩
    rw [hsm] at HS
    clear hsm hx hj
    unfold Hdr.wrong at HX
    obtain ⟨x1, x2, a⟩ := x
    dsimp only at HX HS hal
    obtain ⟨len, hlen⟩ : ∃ len, len = (lexM s).length := ⟨_, rfl⟩
    have hll : len ≤ 4194304 := by omega
    have HLn := Lib.hid hlen
    have hjl2 : j < len := by omega
    clear hjl hlen hIO hNO hln hil
    rcases hf with rfl | rfl
    · go_enter Tryz.func5, Tryz.ntmps5
      go_wp2_with fail
      refine HA.out.mono ?_
      rintro r w1 ⟨rfl, hB⟩
      have HB := Lib.hid hB
      clear hB
      go_wp2_with fail
      refine (HX.out _ HB.out).mono ?_
      rintro r w2 ⟨v2, rfl, ⟨iv, ev, rfl, hi, he⟩, hB⟩
      dsimp only at hi he
      obtain ⟨pe, ce, rfl, _⟩ := lat_shape he
      obtain ⟨pi, ci, rfl, _⟩ := lat_shape hi
      have HB2 := Lib.hid (HB.out.trans (hB.mono HB.out.size))
      have hn1 := heap_alloc_new w2 (.cells #[.string ⟨#[]⟩, .slice pi 0 ci, .string ⟨#[]⟩, .slice pe 0 ce, .int .i64 4, .int .i64 a] 26)
      have hb3 := (Below.refl w2.heap.size w2).alloc (Nat.le_refl _) (.cells #[.string ⟨#[]⟩, .slice pi 0 ci, .string ⟨#[]⟩, .slice pe 0 ce, .int .i64 4, .int .i64 a] 26)
      have Hn := Lib.hid hn1
      have HB3 := Lib.hid (HB2.out.trans (hb3.mono HB2.out.size))
      have HSM := Lib.hid (HS.out _ _ _ (hi.below hb3) (he.below hb3))
      clear hB hi he hn1 hb3 HB
      dsimp only [List.length_nil]
      go_upto_region 6 with fail
      generalize w2.alloc (.cells #[.string ⟨#[]⟩, .slice pi 0 ci, .string ⟨#[]⟩, .slice pe 0 ce, .int .i64 4, .int .i64 a] 26) = w3 at *
      generalize w2.heap.size = n at *
      have c0 := block_cell Hn.out 0
      have c1 := block_cell Hn.out 1
      have c2 := block_cell Hn.out 2
      have c3 := block_cell Hn.out 3
      have c4 := block_cell Hn.out 4
      have c5 := block_cell Hn.out 5
      go_wp2_with fail
      refine HSM.out.mono ?_
      rintro r w4 ⟨rfl, hB⟩
      have Hn4 := Lib.hid ((hB.block _ (lt_of_block Hn.out)).trans Hn.out)
      have HB4 := Lib.hid (HB3.out.trans (hB.mono HB3.out.size))
      clear hB c0 c1 c2 c3 c4 c5
      go_wp2_with fail
      refine (HL.out _).mono ?_
      rintro r w5 ⟨v5, u5, rfl, hv, hu, hB⟩
      have hx5 := (hB.block _ (lt_of_block Hn4.out)).trans Hn4.out
      have Hn5 := Lib.hid hx5
      have HB5 := Lib.hid (HB4.out.trans (hB.mono HB4.out.size))
      obtain ⟨p1, cp1, rfl, hp1⟩ := hv.shape
      obtain ⟨p2, cp2, rfl, hp2⟩ := hu.shape
      have HV := Lib.hid hu
      have Hp := Lib.hid hp2
      have c4 := block_cell hx5 4
      clear hB hv hu hp1 hp2 hx5
      rw [← HLn.out] at HV Hp ⊢
      go_wp2_with fail
      clear c4
      go_loopg [9, 75] len (fun g _ iv wr => ∃ k : Nat, k + g = len ∧ k ≤ j ∧ iv = .int .i64 k ∧ Hid (Below w5.heap.size w5 wr))
      case atStart => exact ⟨0, by omega, by omega, rfl, Lib.hid (Below.refl _ _)⟩
      case round =>
        obtain ⟨k, hkg, hkj, rfl, HR⟩ := hrel
        have hs5 := HR.out.size
        have hltI : (k : Int) < (len : Int) := by omega
        have hkl : k < (lexM s).length := by have := HLn.out; omega
        obtain ⟨g, off, rfl⟩ := Hp.out (by omega)
        have hv6 := HV.out.below HR.out
        obtain ⟨hgl, c0, c1, c2⟩ := lat_tk hv6 (i := k) (List.getElem?_eq_getElem hkl)
        have hx6 := (HR.out.block _ (lt_of_block Hn5.out)).trans Hn5.out
        have hnl := lt_of_block hx6
        have d5 := block_cell hx6 5
        have hB6 := Lib.hid (fun o : Obj => HR.out.trans (((Below.refl wr.heap.size wr).alloc (Nat.le_refl _) o).mono HR.out.size))
        have ka := int_eqb (lexM s)[k].2.2 a
        have hkne : ¬ (lexM s)[k].2.2 = a → k ≠ j := fun h e => by
          subst e
          have := Hj.out
          rw [List.getElem?_eq_getElem hkl] at this
          injection this with this
          apply h
          rw [this]
        have Hkne := Lib.hid hkne
        clear hkne hv6 hx6
        generalize (lexM s)[k] = y at *
        obtain ⟨y1, y2, y3⟩ := y
        dsimp only at c0 c1 c2 ka
        by_cases he : y3 = a
        · rw [decide_eq_true he] at ka
          have kan := ne_of_eqb ka
          clear he
          have hne5 : n ≠ wr.heap.size := by omega
          have HBF := Lib.hid (fun o : Obj => HB5.out.trans ((hB6.out o).mono HB5.out.size))
          go_wp2_with fail
          go_ret
          exact ⟨rfl, HBF.out _⟩
        · have hkj2 : k ≠ j := Hkne.out he
          rw [decide_eq_false he] at ka
          have kan := ne_of_eqb ka
          clear he
          have hne5 : n ≠ wr.heap.size := by omega
          go_wp2_with fail
          go_roundg (gk - 1)
          case measure => omega
          case rel => exact ⟨k + 1, by omega, by omega, by go_num, Lib.hid (hB6.out _)⟩
    · go_enter Tryz.func5, Tryz.ntmps5
      go_wp2_with fail
      refine HA.out.mono ?_
      rintro r w1 ⟨rfl, hB⟩
      have HB := Lib.hid hB
      clear hB
      go_wp2_with fail
      refine (HX.out _ HB.out).mono ?_
      rintro r w2 ⟨v2, rfl, ⟨iv, ev, rfl, hi, he⟩, hB⟩
      dsimp only at hi he
      obtain ⟨pe, ce, rfl, _⟩ := lat_shape he
      obtain ⟨pi, ci, rfl, _⟩ := lat_shape hi
      have HB2 := Lib.hid (HB.out.trans (hB.mono HB.out.size))
      have hn1 := heap_alloc_new w2 (.cells #[.string ⟨#[]⟩, .slice pi 0 ci, .string ⟨#[]⟩, .slice pe 0 ce, .int .i64 5, .int .i64 a] 26)
      have hb3 := (Below.refl w2.heap.size w2).alloc (Nat.le_refl _) (.cells #[.string ⟨#[]⟩, .slice pi 0 ci, .string ⟨#[]⟩, .slice pe 0 ce, .int .i64 5, .int .i64 a] 26)
      have Hn := Lib.hid hn1
      have HB3 := Lib.hid (HB2.out.trans (hb3.mono HB2.out.size))
      have HSM := Lib.hid (HS.out _ _ _ (hi.below hb3) (he.below hb3))
      clear hB hi he hn1 hb3 HB
      dsimp only [List.length_nil]
      go_upto_region 6 with fail
      generalize w2.alloc (.cells #[.string ⟨#[]⟩, .slice pi 0 ci, .string ⟨#[]⟩, .slice pe 0 ce, .int .i64 5, .int .i64 a] 26) = w3 at *
      generalize w2.heap.size = n at *
      have c0 := block_cell Hn.out 0
      have c1 := block_cell Hn.out 1
      have c2 := block_cell Hn.out 2
      have c3 := block_cell Hn.out 3
      have c4 := block_cell Hn.out 4
      have c5 := block_cell Hn.out 5
      go_wp2_with fail
      refine HSM.out.mono ?_
      rintro r w4 ⟨rfl, hB⟩
      have Hn4 := Lib.hid ((hB.block _ (lt_of_block Hn.out)).trans Hn.out)
      have HB4 := Lib.hid (HB3.out.trans (hB.mono HB3.out.size))
      clear hB c0 c1 c2 c3 c4 c5
      go_wp2_with fail
      refine (HL.out _).mono ?_
      rintro r w5 ⟨v5, u5, rfl, hv, hu, hB⟩
      have hx5 := (hB.block _ (lt_of_block Hn4.out)).trans Hn4.out
      have Hn5 := Lib.hid hx5
      have HB5 := Lib.hid (HB4.out.trans (hB.mono HB4.out.size))
      obtain ⟨p1, cp1, rfl, hp1⟩ := hv.shape
      obtain ⟨p2, cp2, rfl, hp2⟩ := hu.shape
      have HV := Lib.hid hu
      have Hp := Lib.hid hp2
      have c4 := block_cell hx5 4
      clear hB hv hu hp1 hp2 hx5
      rw [← HLn.out] at HV Hp ⊢
      go_wp2_with fail
      clear c4
      go_loopg [9, 75] len (fun g _ iv wr => ∃ k : Nat, k + g = len ∧ k ≤ j ∧ iv = .int .i64 k ∧ Hid (Below w5.heap.size w5 wr))
      case atStart => exact ⟨0, by omega, by omega, rfl, Lib.hid (Below.refl _ _)⟩
      case round =>
        obtain ⟨k, hkg, hkj, rfl, HR⟩ := hrel
        have hs5 := HR.out.size
        have hltI : (k : Int) < (len : Int) := by omega
        have hkl : k < (lexM s).length := by have := HLn.out; omega
        obtain ⟨g, off, rfl⟩ := Hp.out (by omega)
        have hv6 := HV.out.below HR.out
        obtain ⟨hgl, c0, c1, c2⟩ := lat_tk hv6 (i := k) (List.getElem?_eq_getElem hkl)
        have hx6 := (HR.out.block _ (lt_of_block Hn5.out)).trans Hn5.out
        have hnl := lt_of_block hx6
        have d5 := block_cell hx6 5
        have hB6 := Lib.hid (fun o : Obj => HR.out.trans (((Below.refl wr.heap.size wr).alloc (Nat.le_refl _) o).mono HR.out.size))
        have ka := int_eqb (lexM s)[k].2.2 a
        have hkne : ¬ (lexM s)[k].2.2 = a → k ≠ j := fun h e => by
          subst e
          have := Hj.out
          rw [List.getElem?_eq_getElem hkl] at this
          injection this with this
          apply h
          rw [this]
        have Hkne := Lib.hid hkne
        clear hkne hv6 hx6
        generalize (lexM s)[k] = y at *
        obtain ⟨y1, y2, y3⟩ := y
        dsimp only at c0 c1 c2 ka
        by_cases he : y3 = a
        · rw [decide_eq_true he] at ka
          have kan := ne_of_eqb ka
          clear he
          have hne5 : n ≠ wr.heap.size := by omega
          have HBF := Lib.hid (fun o : Obj => HB5.out.trans ((hB6.out o).mono HB5.out.size))
          go_wp2_with fail
          go_ret
          exact ⟨rfl, HBF.out _⟩
        · have hkj2 : k ≠ j := Hkne.out he
          rw [decide_eq_false he] at ka
          have kan := ne_of_eqb ka
          clear he
          have hne5 : n ≠ wr.heap.size := by omega
          go_wp2_with fail
          go_roundg (gk - 1)
          case measure => omega
          case rel => exact ⟨k + 1, by omega, by omega, by go_num, Lib.hid (hB6.out _)⟩
end Go.Proofs.YtejogobhnbjpdaaGreatDoor
