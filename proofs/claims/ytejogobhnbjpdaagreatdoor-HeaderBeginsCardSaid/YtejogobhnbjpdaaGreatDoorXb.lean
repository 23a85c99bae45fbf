/- Walks: the statement HeaderIs. -/
import Derived.Test.YtejogobhnbjpdaaGreatDoorV5
namespace Go.Proofs.YtejogobhnbjpdaaGreatDoor
set_option linter.unusedVariables false
set_option linter.unusedSimpArgs false
open Go.ChangeShapes Go.WideShapes Go.ChangeAt Go.RowKit

def HatV (h : Hdr) : Value → World → Prop := fun v w => HAt w v h
theorem HAt.below {w w' : World} {v : Value} {h : Hdr} (H : HAt w v h) (hB : Below w.heap.size w w') : HAt w' v h := by
  obtain ⟨iv, ev, h1, h2, h3⟩ := H
  exact ⟨iv, ev, h1, h2.below hB, h3.below hB⟩
theorem HatV.st1 (h : Hdr) : K3.St1 (HatV h) := fun v w1 w2 H hB => HAt.below H hB
set_option maxRecDepth 100000 in
set_option maxHeartbeats 4000000 in
theorem is_walk (s : ByteArray) (w : World) (hs0 : s.size ≤ 140737488351232) (hTab : Tabs w) : Calls Tryz.prog 3 #[.string s] w (LawEnd w) := by
  have HA := Lib.hid (alive12_any w hTab)
  have HT := Lib.hid hTab
  clear hTab
  by_cases hbig : 2048 < s.size
  · have hbI : (2048 : Int) < (s.size : Int) := by omega
    go_enter Tryz.func3, Tryz.ntmps3
    go_wp2_with fail
    refine HA.out.mono ?_
    rintro r w1 ⟨rfl, hB⟩
    have HB := Lib.hid hB
    clear hB
    go_wp2_with fail
    go_ret
    exact ⟨rfl, HB.out⟩
  have hbI : ¬ (2048 : Int) < (s.size : Int) := by omega
  have hsz : s.size ≤ 1048576 := by omega
  have hPB := parse_b s hsz
  have HX := Lib.hid (fun w1 (h : Below w.heap.size w w1) => parse_at s w1 hsz (tabs_below HT.out h))
  have HD := Lib.hid (fun w1 => show Calls Tryz.prog 7 #[.string s] w1 (fun e w' => ∃ v, e = .returned (.tuple #[v, .int .i64 (beginR (lexL s)).2.1]) ∧ HAt w' v (parseR s) ∧ Below w1.heap.size w1 w') from dparse_any s w1 hsz)
  generalize (beginR (lexL s)).2.1 = n0 at *
  generalize parseR s = h at *
  have HS := Lib.hid (fun (u v : Value) w1 (hu : HAt w1 u h) (hv : HAt w1 v h) => sameHdr_any h h u v w1 hu hv (fun t ht => (hPB.im t ht).b) (fun t ht => (hPB.im t ht).b) (by have := hPB.il; omega) (by have := hPB.il; omega))
  rw [show sameH h h = true from decide_eq_true ⟨rfl, rfl, rfl, rfl, rfl, rfl⟩] at HS
  clear hPB
  go_enter Tryz.func3, Tryz.ntmps3
  go_wp2_with fail
  refine HA.out.mono ?_
  rintro r w1 ⟨rfl, hB⟩
  have HB := Lib.hid hB
  clear hB
  go_wp2_with fail
  refine (HD.out _).mono ?_
  rintro r w2 ⟨v2, rfl, ⟨iv, ev, rfl, hi, he⟩, hB⟩
  obtain ⟨pe, ce, rfl, _⟩ := lat_shape he
  obtain ⟨pi, ci, rfl, _⟩ := lat_shape hi
  have HB2 := Lib.hid (HB.out.trans (hB.mono HB.out.size))
  have hn1 := heap_alloc_new w2 (.cells #[.string h.name, .slice pi h.imp.length ci, .string h.build, .slice pe h.emb.length ce, .int .i64 h.fault, .int .i64 h.at_] 26)
  have hb3 := (Below.refl w2.heap.size w2).alloc (Nat.le_refl _) (.cells #[.string h.name, .slice pi h.imp.length ci, .string h.build, .slice pe h.emb.length ce, .int .i64 h.fault, .int .i64 h.at_] 26)
  have Hn := Lib.hid hn1
  have HB3 := Lib.hid (HB2.out.trans (hb3.mono HB2.out.size))
  have HH := Lib.hid (show HAt _ _ h from ⟨_, _, rfl, hi.below hb3, he.below hb3⟩)
  clear hB hi he hn1 hb3 HB
  dsimp only
  go_upto_region 6 with fail
  generalize w2.alloc (.cells #[.string h.name, .slice pi h.imp.length ci, .string h.build, .slice pe h.emb.length ce, .int .i64 h.fault, .int .i64 h.at_] 26) = w3 at *
  generalize w2.heap.size = n at *
  have hRL : ∃ Rs : List (Value → World → Prop), Rs = [K3.PureV (.string s),
      HatV h,
      K3.PureV (.agg #[.string h.name, .slice pi h.imp.length ci, .string h.build, .slice pe h.emb.length ce, .int .i64 h.fault, .int .i64 h.at_]),
      K3.PureV (.bool true),
      K3.PureV (.bool true)] := ⟨_, rfl⟩
  obtain ⟨Rs, hRs⟩ := hRL
  refine K3.wp_region_rel2 w3.heap.size (Nat.le_refl _) (K3.RL Rs) [2, 1, 2, 2, 2] [1, 1, 1, 1, 1] [] (by kernel_rfl) (by kernel_rfl) (K3.RL.st1 (by rw [hRs]; exact K3.st1_cons (K3.PureV.st1 _) (K3.st1_cons (HatV.st1 h) (K3.st1_cons (K3.PureV.st1 _) (K3.st1_cons (K3.PureV.st1 _) (K3.st1_cons (K3.PureV.st1 _) (K3.st1_nil))))))) (K3.RL.st2 (by rw [hRs]; exact K3.st2_cons (K3.PureV.st2 _ _ _) (K3.st2_skip (K3.st2_cons (K3.PureV.st2 _ _ _) (K3.st2_cons (K3.PureV.st2 _ _ _) (K3.st2_cons (K3.PureV.st2 _ _ _) (K3.st2_nil))))))) ?_ ?_ ?_
  · intro i o d hi hd
    have hmem := List.mem_of_getElem? hi
    simp only [List.mem_cons, List.not_mem_nil, or_false] at hmem
    rcases hmem with rfl | rfl | rfl | rfl | rfl <;> simp at hd <;> (subst hd; simp)
  · refine K3.rel_start (Φ := K3.Hop _ _ _ _ _ _ _) ?_
    refine K3.rel_cons (Φ := K3.Hop _ _ _ _ _ _ _) (k := 0) ?_ ?_
    · intro fa fw hfB hfN hfE hfk hft
      have k0 : fa.eval (.tmp 0) = .string s := hft 0 (K3.mem_looks (by kernel_rfl)) (K3.noneed (by kernel_rfl))
      rw [hRs]
      refine K3.hop_plain rfl ?_
      refine K3.out_move rfl ?_
      exact ⟨k0, Below.refl _ _⟩
    refine K3.rel_cons (Φ := K3.Hop _ _ _ _ _ _ _) (k := 1) ?_ ?_
    · intro fa fw hfB hfN hfE hfk hft
      have hE : Below w3.drew.heap.size w3.drew fw := hfE (by kernel_rfl)
      have k15 : fa.eval (.tmp 15) = (.string s) := by have := hfk 0 (K3.mem_needs (by kernel_rfl)) _ rfl; rw [hRs] at this; exact this
      rw [hRs]
      refine K3.hop_plain rfl ?_
      have hE2 := ((Below.refl w3.heap.size w3).drew).trans hE
      have kf : fa.eval (.func 9) = .func (.func 9) #[] #[] := rfl
      refine K3.out_call (f := 9) (args := #[.string s]) (by generalize fa.eval = ρ at *; simp [execOp, k15, kf, go_sem]) ?_
      exact (HX.out fw (HB3.out.trans (hE2.mono HB3.out.size))).mono fun e w'' ⟨v, h1, h2, h3⟩ => ⟨v, h1, h2, h3⟩
    refine K3.rel_cons (Φ := K3.Hop _ _ _ _ _ _ _) (k := 2) ?_ ?_
    · intro fa fw hfB hfN hfE hfk hft
      have hE : Below w3.drew.heap.size w3.drew fw := hfE (by kernel_rfl)
      have k3 : fa.eval (.tmp 3) = .pointer (some ⟨n, 0, none⟩) := hft 3 (K3.mem_looks (by kernel_rfl)) (K3.noneed (by kernel_rfl))
      rw [hRs]
      refine K3.hop_plain rfl ?_
      have hbx := (hE.block _ (lt_of_block Hn.out)).trans Hn.out
      refine out_load3 rfl k3 ?_ ⟨rfl, Below.refl _ _⟩
      exact run_loadVar_row fw n 26 26 _ (0, 0) _ hbx Tryz.underlying26 rfl size26
    refine K3.rel_cons (Φ := K3.Hop _ _ _ _ _ _ _) (k := 3) ?_ ?_
    · intro fa fw hfB hfN hfE hfk hft
      have hE : Below w3.drew.heap.size w3.drew fw := hfE (by kernel_rfl)
      have k16 : HatV h (fa.eval (.tmp 16)) fw := by have := hfk 1 (K3.mem_needs (by kernel_rfl)) _ rfl; rw [hRs] at this; exact this
      have k17 : fa.eval (.tmp 17) = (.agg #[.string h.name, .slice pi h.imp.length ci, .string h.build, .slice pe h.emb.length ce, .int .i64 h.fault, .int .i64 h.at_]) := by have := hfk 2 (K3.mem_needs (by kernel_rfl)) _ rfl; rw [hRs] at this; exact this
      rw [hRs]
      refine K3.hop_plain rfl ?_
      have hE2 := ((Below.refl w3.heap.size w3).drew).trans hE
      have k16 : HAt fw (fa.eval (.tmp 16)) h := k16
      have kf : fa.eval (.func 8) = .func (.func 8) #[] #[] := rfl
      refine K3.out_call (f := 8) (args := #[fa.eval (.tmp 16), .agg #[.string h.name, .slice pi h.imp.length ci, .string h.build, .slice pe h.emb.length ce, .int .i64 h.fault, .int .i64 h.at_]]) (by generalize fa.eval = ρ at *; simp [execOp, k17, kf, go_sem]) ?_
      exact (HS.out _ _ fw k16 (HH.out.below hE2)).mono fun e w'' ⟨h1, h2⟩ => ⟨_, h1, rfl, h2⟩
    refine K3.rel_cons (Φ := K3.Hop _ _ _ _ _ _ _) (k := 4) ?_ ?_
    · intro fa fw hfB hfN hfE hfk hft
      have k18 : fa.eval (.tmp 18) = (.bool true) := by have := hfk 3 (K3.mem_needs (by kernel_rfl)) _ rfl; rw [hRs] at this; exact this
      rw [hRs]
      refine K3.hop_plain rfl ?_
      refine K3.out_assign rfl ?_
      exact ⟨k18, Below.refl _ _⟩
    exact K3.rel_nil
  · intro fa fw hfB hfy hff hfs hfd
    rw [hRs] at hfy
    have k2 : fa.eval (.tmp 2) = (.bool true) := hfy 4 _ rfl (K3.unkilled (by decide))
    have e := K3.rel_frame [15, 16, 17, 18, 2] (by kernel_rfl) hff hfs hfd
    simp only [List.foldl] at e
    rw [show fa.tmps.getD 2 undef = .bool true from k2] at e
    clear hfy hff hfs hfd k2
    generalize fa.tmps.getD 15 undef = x15 at e
    generalize fa.tmps.getD 16 undef = x16 at e
    generalize fa.tmps.getD 17 undef = x17 at e
    generalize fa.tmps.getD 18 undef = x18 at e
    simp [List.setIfInBounds_toArray, List.set_cons_succ, List.set_cons_zero] at e
    subst e
    have HBF := HB3.out.trans (((Below.refl _ w3).drew.trans hfB).mono HB3.out.size)
    clear hfB
    go_wp2_with fail
    go_ret
    exact ⟨rfl, HBF⟩
end Go.Proofs.YtejogobhnbjpdaaGreatDoor
