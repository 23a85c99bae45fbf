/- Walks: a verb; a line. -/
import Derived.Test.YtkmachhfibcdlaaDoorCe
namespace Go.Proofs.YtkmachhfibcdlaaDoor
set_option linter.unusedVariables false
set_option linter.unusedSimpArgs false
open Go.ChangeShapes Go.WideShapes Go.ChangeAt Go.RowKit

def verbS (b1 b2 b3 b4 b5 b6 b7 : Bool) (R : MR) (ws : List ByteArray) : Bool × MR :=
  match b1 with
  | true => moduleR R ws
  | false => match b2 with
    | true => releaseR R ws
    | false => match b3 with
      | true => replaceR R ws
      | false => match b4 with
        | true => (decide (0 < ws.length), R)
        | false => match b5 with
          | true => (decide (0 < ws.length), R)
          | false => match b6 with
            | true => (decide (0 < ws.length), R)
            | false => match b7 with
              | true => (decide (0 < ws.length), R)
              | false => (false, R)
/-- What stands behind a verb. -/
def verbR (R : MR) (v : ByteArray) (ws : List ByteArray) : Bool × MR :=
  verbS (decide (v = ⟨#[109, 111, 100, 117, 108, 101]⟩)) (decide (v = ⟨#[103, 111]⟩)) (decide (v = ⟨#[114, 101, 112, 108, 97, 99, 101]⟩)) (decide (v = ⟨#[114, 101, 113, 117, 105, 114, 101]⟩)) (decide (v = ⟨#[101, 120, 99, 108, 117, 100, 101]⟩)) (decide (v = ⟨#[114, 101, 116, 114, 97, 99, 116]⟩)) (decide (v = ⟨#[116, 111, 111, 108, 99, 104, 97, 105, 110]⟩)) R ws
set_option maxHeartbeats 4000000 in
theorem verb_any (b L : Nat) (R : MR) (v : ByteArray) (p : Option Addr) (n cap : Nat) (ws : List ByteArray) (w : World) (hE : Env w) (h : RdM b L R w) (hW : Strs w (.slice p n cap) ws) (hs : ∀ x ∈ ws, x.size ≤ 1048576) (hI : R.reps.length ≤ 16777216) :
    Calls Tryd.prog 19 #[.pointer (some ⟨b, 0, none⟩), .string v, .slice p n cap] w fun e w' => e = .returned (.bool (verbR R v ws).1) ∧ RdM b L (verbR R v ws).2 w' ∧ Kept b L w w' := by
  have k1 := str_lit v #[109, 111, 100, 117, 108, 101]
  have k2 := str_lit v #[103, 111]
  have k3 := str_lit v #[114, 101, 112, 108, 97, 99, 101]
  have k4 := str_lit v #[114, 101, 113, 117, 105, 114, 101]
  have k5 := str_lit v #[101, 120, 99, 108, 117, 100, 101]
  have k6 := str_lit v #[114, 101, 116, 114, 97, 99, 116]
  have k7 := str_lit v #[116, 111, 111, 108, 99, 104, 97, 105, 110]
  have HV := Lib.hid (show verbR R v ws = verbS (decide (v = ⟨#[109, 111, 100, 117, 108, 101]⟩)) (decide (v = ⟨#[103, 111]⟩)) (decide (v = ⟨#[114, 101, 112, 108, 97, 99, 101]⟩)) (decide (v = ⟨#[114, 101, 113, 117, 105, 114, 101]⟩)) (decide (v = ⟨#[101, 120, 99, 108, 117, 100, 101]⟩)) (decide (v = ⟨#[114, 101, 116, 114, 97, 99, 116]⟩)) (decide (v = ⟨#[116, 111, 111, 108, 99, 104, 97, 105, 110]⟩)) R ws from rfl)
  generalize decide (v = ⟨#[109, 111, 100, 117, 108, 101]⟩) = b1 at *
  generalize decide (v = ⟨#[103, 111]⟩) = b2 at *
  generalize decide (v = ⟨#[114, 101, 112, 108, 97, 99, 101]⟩) = b3 at *
  generalize decide (v = ⟨#[114, 101, 113, 117, 105, 114, 101]⟩) = b4 at *
  generalize decide (v = ⟨#[101, 120, 99, 108, 117, 100, 101]⟩) = b5 at *
  generalize decide (v = ⟨#[114, 101, 116, 114, 97, 99, 116]⟩) = b6 at *
  generalize decide (v = ⟨#[116, 111, 111, 108, 99, 104, 97, 105, 110]⟩) = b7 at *
  have HM := Lib.hid (module_any b L R p n cap ws w h hW hs)
  have HG := Lib.hid (release_any b L R p n cap ws w hE h hW hs)
  have HP := Lib.hid (replace_any b L R p n cap ws w h hW hs hI)
  have H := Lib.hid h
  obtain ⟨rfl, _⟩ := hW.cells
  clear h hW hE
  cases b1 with
  | true =>
    have HS := Lib.hid (show verbR R v ws = moduleR R ws from HV.out)
    clear HV
    go_enter Tryd.func19, Tryd.ntmps19
    go_wp2_with fail
    refine HM.out.mono ?_
    rintro r w1 ⟨rfl, h1, h2⟩
    have H1 := Lib.hid h1
    have H2 := Lib.hid h2
    clear h1 h2
    go_wp2_with fail
    go_ret
    rw [HS.out]
    exact ⟨rfl, H1.out, H2.out⟩
  | false =>
  cases b2 with
  | true =>
    have HS := Lib.hid (show verbR R v ws = releaseR R ws from HV.out)
    clear HV
    go_enter Tryd.func19, Tryd.ntmps19
    go_wp2_with fail
    refine HG.out.mono ?_
    rintro r w1 ⟨rfl, h1, h2⟩
    have H1 := Lib.hid h1
    have H2 := Lib.hid h2
    clear h1 h2
    go_wp2_with fail
    go_ret
    rw [HS.out]
    exact ⟨rfl, H1.out, H2.out⟩
  | false =>
  cases b3 with
  | true =>
    have HS := Lib.hid (show verbR R v ws = replaceR R ws from HV.out)
    clear HV
    go_enter Tryd.func19, Tryd.ntmps19
    go_wp2_with fail
    refine HP.out.mono ?_
    rintro r w1 ⟨rfl, h1, h2⟩
    have H1 := Lib.hid h1
    have H2 := Lib.hid h2
    clear h1 h2
    go_wp2_with fail
    go_ret
    rw [HS.out]
    exact ⟨rfl, H1.out, H2.out⟩
  | false =>
  cases b4 with
  | true =>
    have hv := HV.out
    by_cases hl : 0 < ws.length
    · have HS := Lib.hid (show verbR R v ws = (true, R) from hv.trans (by show (decide (0 < ws.length), R) = _; rw [decide_eq_true hl]))
      have hlI : (0 : Int) < (ws.length : Int) := by omega
      clear HV hv
      go_enter Tryd.func19, Tryd.ntmps19
      go_wp2_with fail
      go_ret
      rw [HS.out]
      exact ⟨rfl, H.out, Kept.refl _ _ _⟩
    · have HS := Lib.hid (show verbR R v ws = (false, R) from hv.trans (by show (decide (0 < ws.length), R) = _; rw [decide_eq_false hl]))
      have hlI : ¬ (0 : Int) < (ws.length : Int) := by omega
      clear HV hv
      go_enter Tryd.func19, Tryd.ntmps19
      go_wp2_with fail
      go_ret
      rw [HS.out]
      exact ⟨rfl, H.out, Kept.refl _ _ _⟩
  | false =>
  cases b5 with
  | true =>
    have hv := HV.out
    by_cases hl : 0 < ws.length
    · have HS := Lib.hid (show verbR R v ws = (true, R) from hv.trans (by show (decide (0 < ws.length), R) = _; rw [decide_eq_true hl]))
      have hlI : (0 : Int) < (ws.length : Int) := by omega
      clear HV hv
      go_enter Tryd.func19, Tryd.ntmps19
      go_wp2_with fail
      go_ret
      rw [HS.out]
      exact ⟨rfl, H.out, Kept.refl _ _ _⟩
    · have HS := Lib.hid (show verbR R v ws = (false, R) from hv.trans (by show (decide (0 < ws.length), R) = _; rw [decide_eq_false hl]))
      have hlI : ¬ (0 : Int) < (ws.length : Int) := by omega
      clear HV hv
      go_enter Tryd.func19, Tryd.ntmps19
      go_wp2_with fail
      go_ret
      rw [HS.out]
      exact ⟨rfl, H.out, Kept.refl _ _ _⟩
  | false =>
  cases b6 with
  | true =>
    have hv := HV.out
    by_cases hl : 0 < ws.length
    · have HS := Lib.hid (show verbR R v ws = (true, R) from hv.trans (by show (decide (0 < ws.length), R) = _; rw [decide_eq_true hl]))
      have hlI : (0 : Int) < (ws.length : Int) := by omega
      clear HV hv
      go_enter Tryd.func19, Tryd.ntmps19
      go_wp2_with fail
      go_ret
      rw [HS.out]
      exact ⟨rfl, H.out, Kept.refl _ _ _⟩
    · have HS := Lib.hid (show verbR R v ws = (false, R) from hv.trans (by show (decide (0 < ws.length), R) = _; rw [decide_eq_false hl]))
      have hlI : ¬ (0 : Int) < (ws.length : Int) := by omega
      clear HV hv
      go_enter Tryd.func19, Tryd.ntmps19
      go_wp2_with fail
      go_ret
      rw [HS.out]
      exact ⟨rfl, H.out, Kept.refl _ _ _⟩
  | false =>
  cases b7 with
  | true =>
    have hv := HV.out
    by_cases hl : 0 < ws.length
    · have HS := Lib.hid (show verbR R v ws = (true, R) from hv.trans (by show (decide (0 < ws.length), R) = _; rw [decide_eq_true hl]))
      have hlI : (0 : Int) < (ws.length : Int) := by omega
      clear HV hv
      go_enter Tryd.func19, Tryd.ntmps19
      go_wp2_with fail
      go_ret
      rw [HS.out]
      exact ⟨rfl, H.out, Kept.refl _ _ _⟩
    · have HS := Lib.hid (show verbR R v ws = (false, R) from hv.trans (by show (decide (0 < ws.length), R) = _; rw [decide_eq_false hl]))
      have hlI : ¬ (0 : Int) < (ws.length : Int) := by omega
      clear HV hv
      go_enter Tryd.func19, Tryd.ntmps19
      go_wp2_with fail
      go_ret
      rw [HS.out]
      exact ⟨rfl, H.out, Kept.refl _ _ _⟩
  | false =>
  have HS := Lib.hid (show verbR R v ws = (false, R) from HV.out)
  clear HV
  go_enter Tryd.func19, Tryd.ntmps19
  go_wp2_with fail
  go_ret
  rw [HS.out]
  exact ⟨rfl, H.out, Kept.refl _ _ _⟩
/-- A line's words. -/
def lineR (R : MR) (ws : List ByteArray) : Bool × MR :=
  if R.blk ≠ ⟨#[]⟩ then
    if ws = [⟨#[41]⟩] then (true, { R with blk := ⟨#[]⟩ }) else verbR R R.blk ws
  else if ws.length = 2 ∧ ws.getD 1 ⟨#[]⟩ = ⟨#[40]⟩ ∧ blocksB (ws.getD 0 ⟨#[]⟩) = true then (true, { R with blk := ws.getD 0 ⟨#[]⟩ })
  else verbR R (ws.getD 0 ⟨#[]⟩) (ws.drop 1)
structure AtW (w0 : World) (x v : Value) (w : World) : Prop where
  e : v = x
  bl : Below w0.heap.size w0 w
theorem AtW.st1 (w0 : World) (x : Value) : K3.St1 (AtW w0 x) := fun v w1 w2 h hB => ⟨h.e, h.bl.trans (hB.mono h.bl.size)⟩
structure DoneV (b L : Nat) (hl : Option Obj) (r : Bool × MR) (v : Value) (w : World) : Prop where
  e : v = .bool r.1
  f : RdM b L r.2 w
  at_ : w.heap[L]? = hl
theorem DoneV.st1 (b L : Nat) (hl : Option Obj) (r : Bool × MR) : K3.St1 (DoneV b L hl r) := fun v w1 w2 h hB => ⟨h.e, h.f.below hB, (hB.block _ h.f.lt).trans h.at_⟩
theorem equal_one (p : Option Addr) (cap : Nat) (ws : List ByteArray) (w : World) (h : Strs w (.slice p ws.length cap) ws) (B : Nat) (c : ByteArray) (hB : w.heap[B]? = some (.cells #[.string c] 9 (0, 0))) :
    Calls Tryd.prog 18 #[.slice p ws.length cap, .slice (some ⟨B, 0, none⟩) 1 1] w fun e w' => e = .returned (.bool (decide (ws = [c]))) ∧ Below w.heap.size w w' := by
  obtain ⟨_, hp⟩ := h.cells
  by_cases h1 : ws.length = 1
  case neg =>
    refine (Tryd.slices_Equal_string_lens p (some ⟨B, 0, none⟩) ws.length cap 1 1 w h1).mono ?_
    rintro e w' ⟨rfl, rfl⟩
    refine ⟨?_, Below.refl _ _⟩
    rw [decide_eq_false (fun e => h1 (by rw [e]; rfl))]
  obtain ⟨_, h2, g, off, rfl, hg, hc⟩ := hp (by omega)
  refine (Tryd.slices_Equal_string g off ws.length cap B 0 1 1 ws [c] w (Nat.le_refl _) (Nat.le_refl _) (by omega) (by omega) (fun j hj => by rw [hc j hj, List.getD_eq_getElem?_getD, List.getElem?_eq_getElem hj]; rfl) (fun j hj => by
    have hj0 : j = 0 := by simpa using hj
    subst hj0
    exact block_cell hB 0)).mono ?_
  rintro e w' ⟨rfl, q, rfl⟩
  refine ⟨?_, below_drewN (Below.refl _ _) q⟩
  rw [List.take_length]
  rfl
set_option maxRecDepth 100000 in
set_option maxHeartbeats 8000000 in
theorem line_any (b L : Nat) (R : MR) (p : Option Addr) (n cap : Nat) (ws : List ByteArray) (w : World) (hE : Env w) (h : RdM b L R w) (hW : Strs w (.slice p n cap) ws) (h0 : 0 < ws.length) (hs : ∀ x ∈ ws, x.size ≤ 1048576) (hI : R.reps.length ≤ 16777216) :
    Calls Tryd.prog 15 #[.pointer (some ⟨b, 0, none⟩), .slice p n cap] w fun e w' => e = .returned (.bool (lineR R ws).1) ∧ RdM b L (lineR R ws).2 w' ∧ Kept b L w w' := by
  obtain ⟨rfl, hp⟩ := hW.cells
  have H := Lib.hid h
  have HW := Lib.hid hW
  have HE := Lib.hid hE
  obtain ⟨rv, hb, ho, hL⟩ := h.f
  have c5 := block_cell hb 5
  rw [show (mrA R.path R.lvl rv R.lev R.blk)[5]? = some (.string R.blk) from rfl] at c5
  have k0 := str_lit R.blk #[]
  have hlen0 := h0
  clear hb ho hL h hW hE
  by_cases hk : R.blk = ⟨#[]⟩
  case neg =>
    rw [decide_eq_false hk] at k0
    have k0n := ne_of_eqb k0
    have HR := Lib.hid (show lineR R ws = if ws = [⟨#[41]⟩] then (true, { R with blk := ⟨#[]⟩ }) else verbR R R.blk ws by unfold lineR; rw [if_pos hk])
    clear hk
    go_enter Tryd.func15, Tryd.ntmps15
    go_upto_if 9 with fail
    go_upto_region 2 with fail
    have hnew := heap_alloc_new w (.cells #[.string ⟨#[41]⟩] 9)
    have hBa := (Below.refl w.heap.size w).alloc (Nat.le_refl _) (.cells #[.string ⟨#[41]⟩] 9)
    have HQ := Lib.hid (equal_one p cap ws _ (HW.out.below hBa) _ _ hnew)
    have H1 := Lib.hid (H.out.below hBa)
    have HK1 := Lib.hid (H.out.of hBa)
    have HW1 := Lib.hid (HW.out.below hBa)
    have HE1 := Lib.hid (HE.out.below hBa)
    clear hnew hBa H HW HE c5
    obtain ⟨q, hq⟩ : ∃ q, decide (ws = [⟨#[41]⟩]) = q := ⟨_, rfl⟩
    rw [hq] at HQ
    have HQ2 := Lib.hid hq
    clear hq
    go_wp2_with fail
    refine HQ.out.mono ?_
    rintro r w2 ⟨rfl, hB⟩
    have H2 := Lib.hid (H1.out.below hB)
    have HK2 := Lib.hid (HK1.out.trans (H1.out.of hB))
    have HW2 := Lib.hid (HW1.out.below hB)
    have HE2 := Lib.hid (HE1.out.below hB)
    clear hB HQ H1 HK1 HW1 HE1
    obtain ⟨rv, hb, ho, hL⟩ := H2.out.f
    have c5 := block_cell hb 5
    rw [show (mrA R.path R.lvl rv R.lev R.blk)[5]? = some (.string R.blk) from rfl] at c5
    have e5 := block_free hb 5
    clear hb ho hL
    cases q with
    | true =>
      have HS := Lib.hid (show lineR R ws = (true, { R with blk := ⟨#[]⟩ }) by rw [HR.out, if_pos (of_decide_eq_true HQ2.out)])
      go_wp2_with fail
      go_ret
      rw [HS.out]
      obtain ⟨h1, h2⟩ := H2.out.set (i := 5) (R' := { R with blk := ⟨#[]⟩ }) (v := .string ⟨#[]⟩) rfl (fun _ => rfl)
      exact ⟨rfl, h1, HK2.out.trans h2⟩
    | false =>
      have HS := Lib.hid (show lineR R ws = verbR R R.blk ws by rw [HR.out, if_neg (of_decide_eq_false HQ2.out)])
      have HV := Lib.hid (verb_any b L R R.blk p _ cap ws w2 HE2.out H2.out HW2.out hs hI)
      go_wp2_with fail
      refine HV.out.mono ?_
      rintro r w3 ⟨rfl, h1, h2⟩
      have H3 := Lib.hid h1
      have HK3 := Lib.hid (HK2.out.trans h2)
      clear h1 h2
      go_wp2_with fail
      go_ret
      rw [HS.out]
      exact ⟨rfl, H3.out, HK3.out⟩
  rw [decide_eq_true hk] at k0
  have k0n := ne_of_eqb k0
  have HR := Lib.hid (show lineR R ws = if ws.length = 2 ∧ ws.getD 1 ⟨#[]⟩ = ⟨#[40]⟩ ∧ blocksB (ws.getD 0 ⟨#[]⟩) = true then (true, { R with blk := ws.getD 0 ⟨#[]⟩ }) else verbR R (ws.getD 0 ⟨#[]⟩) (ws.drop 1) by unfold lineR; rw [if_neg (fun k => k hk)])
  clear hk
  obtain ⟨hc1, hc2, g, off, rfl, hg, hcell⟩ := hp h0
  have hcy := hcell 0 h0
  rw [Nat.add_zero] at hcy
  have hn0 : (0 : Int) < (ws.length : Int) := by omega
  have hg0 : ws.getD 0 ⟨#[]⟩ = ws[0]'h0 := by rw [List.getD_eq_getElem?_getD, List.getElem?_eq_getElem h0]; rfl
  have e5 := c5
  obtain ⟨y, hy⟩ : ∃ y, y = ws[0]'h0 := ⟨_, rfl⟩
  rw [hg0, ← hy] at HR
  rw [← hy] at hcy
  have HB0 := Lib.hid (fun w1 => blocks_any y w1)
  clear hp hg0 hy e5
  go_enter Tryd.func15, Tryd.ntmps15
  go_upto_region 6 with fail
  go_cut [37] from 23 to 37 (fun x wx => x = .bool (decide (ws.length = 2 ∧ ws.getD 1 ⟨#[]⟩ = ⟨#[40]⟩ ∧ blocksB y = true)) ∧ wx = w)
  case first =>
    by_cases h2 : ws.length = 2
    case neg =>
      have u2 : ((ws.length : Int) == 2) = false := beq_eq_false_iff_ne.2 (by omega)
      have HD := Lib.hid (show decide (ws.length = 2 ∧ ws.getD 1 ⟨#[]⟩ = ⟨#[40]⟩ ∧ blocksB y = true) = false from decide_eq_false (fun k => h2 k.1))
      clear h2
      go_wp2_with fail
      go_meet
      exact ⟨by rw [HD.out], rfl⟩
    have u2 : ((ws.length : Int) == 2) = true := beq_iff_eq.2 (by omega)
    have h1l : 1 < ws.length := by omega
    have h1I : (1 : Int) < (ws.length : Int) := by omega
    have hc1' := hcell 1 h1l
    have k1 := str_lit (ws[1]'h1l) #[40]
    have hg1 : ws.getD 1 ⟨#[]⟩ = ws[1]'h1l := by rw [List.getD_eq_getElem?_getD, List.getElem?_eq_getElem h1l]; rfl
    have HG1 := Lib.hid hg1
    clear hg1 hcell
    generalize ws[1]'h1l = x1 at *
    by_cases hx : x1 = ⟨#[40]⟩
    case neg =>
      rw [decide_eq_false hx] at k1
      have HD := Lib.hid (show decide (ws.length = 2 ∧ x1 = ⟨#[40]⟩ ∧ blocksB y = true) = false from decide_eq_false (fun k => hx k.2.1))
      clear hx h2
      go_wp2_with fail
      go_meet
      exact ⟨by rw [HG1.out, HD.out], rfl⟩
    rw [decide_eq_true hx] at k1
    have HD := Lib.hid (show decide (ws.length = 2 ∧ x1 = ⟨#[40]⟩ ∧ blocksB y = true) = blocksB y by
      cases hb : blocksB y with
      | true => exact decide_eq_true ⟨h2, hx, rfl⟩
      | false => exact decide_eq_false (fun k => by cases k.2.2))
    clear hx h2
    generalize blocksB y = bb at *
    go_wp2_with fail
    refine (HB0.out _).mono ?_
    rintro r w1 ⟨rfl, rfl⟩
    go_wp2_with fail
    go_meet
    exact ⟨by rw [HG1.out, HD.out], rfl⟩
  case rest =>
    obtain ⟨rfl, rfl⟩ := hcut
    clear HB0 hcell
    obtain ⟨q, hq⟩ : ∃ q, decide (ws.length = 2 ∧ ws.getD 1 ⟨#[]⟩ = ⟨#[40]⟩ ∧ blocksB y = true) = q := ⟨_, rfl⟩
    have HQ := Lib.hid hq
    rw [hq]
    clear hq
    obtain ⟨rv, hb, ho, hL⟩ := H.out.f
    have e5 := block_free hb 5
    have d5 := block_cell hb 5
    rw [show (mrA R.path R.lvl rv R.lev R.blk)[5]? = some (.string R.blk) from rfl] at d5
    clear hb ho hL
    cases q with
    | true =>
      have HS := Lib.hid (show lineR R ws = (true, { R with blk := y }) by rw [HR.out, if_pos (of_decide_eq_true HQ.out)])
      go_wp2_with fail
      go_ret
      rw [HS.out]
      obtain ⟨h1, h2⟩ := H.out.set (i := 5) (R' := { R with blk := y }) (v := .string y) rfl (fun _ => rfl)
      exact ⟨rfl, h1, h2⟩
    | false =>
      have HS := Lib.hid (show lineR R ws = verbR R y (ws.drop 1) by rw [HR.out, if_neg (of_decide_eq_false HQ.out)])
      clear HR HQ
      go_wp2_with fail
      have hlt := H.out.bl
      have hd4 : Below wc.heap.size wc wc.drew := (Below.refl _ _).drew
      have hble : b ≤ wc.heap.size := Nat.le_of_lt hlt
      obtain ⟨hl, hhl⟩ : ∃ hl, wc.heap[L]? = hl := ⟨_, rfl⟩
      obtain ⟨vt, hrun0, hvt⟩ := gen_drop eltS (strs_lat HW.out) 1 h0
      have HY2 := Lib.hid (lat_strs hvt)
      obtain ⟨p2, c2, rfl, _⟩ := lat_shape hvt
      have hrun : ∀ w1, (Instr.slice 23 (.slice (some ⟨g, off, none⟩) ws.length cap) (some (.int .i64 1)) none none).run Tryd.prog w1 = .ok (.slice p2 (ws.drop 1).length c2) w1 := hrun0
      clear hrun0 hvt
      have HKz := Lib.hid (Kept.refl b L wc)
      have hDs := Lib.hid (show ∀ x ∈ ws.drop 1, x.size ≤ 1048576 from fun x hx => hs x (List.mem_of_mem_drop hx))
      generalize ws.drop 1 = D at *
      have H2 := H
      have HE2 := HE
      have hgy := hg
      clear H HE HW e5 d5 c5
      have hRL : ∃ Rs : List (Value → World → Prop), Rs = [K3.PureV (.pointer (some ⟨b, 0, none⟩)),
          K3.PureV (.slice (some ⟨g, off, none⟩) ws.length cap),
          K3.PureV (.pointer (some ⟨g, off, none⟩)),
          AtW wc.drew (.string y),
          K3.PureV (.slice (some ⟨g, off, none⟩) ws.length cap),
          K3.PureV (.slice p2 D.length c2),
          DoneV b L hl (verbR R y D),
          K3.PureV (.bool (verbR R y D).1)] := ⟨_, rfl⟩
      obtain ⟨Rs, hRs⟩ := hRL
      refine K3.wp_region_rel2 b hble (K3.RL Rs) [2, 2, 2, 1, 2, 2, 1, 2] [1, 1, 1, 1, 1, 1, 2, 1] [[], [], [], [], [], [], [3], []] (by kernel_rfl) (by kernel_rfl) (K3.RL.st1 (by rw [hRs]; exact K3.st1_cons (K3.PureV.st1 _) (K3.st1_cons (K3.PureV.st1 _) (K3.st1_cons (K3.PureV.st1 _) (K3.st1_cons (AtW.st1 _ _) (K3.st1_cons (K3.PureV.st1 _) (K3.st1_cons (K3.PureV.st1 _) (K3.st1_cons (DoneV.st1 _ _ _ _) (K3.st1_cons (K3.PureV.st1 _) (K3.st1_nil)))))))))) (K3.RL.st2 (by rw [hRs]; exact K3.st2_cons (K3.PureV.st2 _ _ _) (K3.st2_cons (K3.PureV.st2 _ _ _) (K3.st2_cons (K3.PureV.st2 _ _ _) (K3.st2_skip (K3.st2_cons (K3.PureV.st2 _ _ _) (K3.st2_cons (K3.PureV.st2 _ _ _) (K3.st2_skip (K3.st2_cons (K3.PureV.st2 _ _ _) (K3.st2_nil)))))))))) ?_ ?_ ?_
      · intro i o d hi hd
        have hmem := List.mem_of_getElem? hi
        simp only [List.mem_cons, List.not_mem_nil, or_false] at hmem
        rcases hmem with rfl | rfl | rfl | rfl | rfl | rfl | rfl | rfl <;> simp at hd <;> (subst hd; simp)
      · refine K3.rel_start (Φ := K3.Hop _ _ _ _ _ _ _) ?_
        refine K3.rel_cons (Φ := K3.Hop _ _ _ _ _ _ _) (k := 0) ?_ ?_
        · intro fa fw hfB hfN hfE hfk hft
          have k0 : fa.eval (.tmp 0) = .pointer (some ⟨b, 0, none⟩) := hft 0 (K3.mem_looks (by kernel_rfl)) (K3.noneed (by kernel_rfl))
          rw [hRs]
          refine K3.hop_plain rfl ?_
          refine K3.out_move rfl ?_
          exact ⟨k0, Below.refl _ _⟩
        refine K3.rel_cons (Φ := K3.Hop _ _ _ _ _ _ _) (k := 1) ?_ ?_
        · intro fa fw hfB hfN hfE hfk hft
          have k1 : fa.eval (.tmp 1) = .slice (some ⟨g, off, none⟩) ws.length cap := hft 1 (K3.mem_looks (by kernel_rfl)) (K3.noneed (by kernel_rfl))
          rw [hRs]
          refine K3.hop_plain rfl ?_
          refine K3.out_move rfl ?_
          exact ⟨k1, Below.refl _ _⟩
        refine K3.rel_cons (Φ := K3.Hop _ _ _ _ _ _ _) (k := 2) ?_ ?_
        · intro fa fw hfB hfN hfE hfk hft
          have k45 : fa.eval (.tmp 45) = (.slice (some ⟨g, off, none⟩) ws.length cap) := by have := hfk 1 (K3.mem_needs (by kernel_rfl)) _ rfl; rw [hRs] at this; exact this
          rw [hRs]
          refine K3.hop_plain rfl ?_
          have kc : ∀ v, fa.eval (.const v) = v := fun _ => rfl
          generalize fa.eval = ρ at *
          exact K3.out_run (v := .pointer (some ⟨g, off, none⟩)) (w' := fw) (by simp [execOp, k45, kc, List.ne_nil_of_length_pos hlen0, go_sem]) ⟨rfl, Below.refl _ _⟩
        refine K3.rel_cons (Φ := K3.Hop _ _ _ _ _ _ _) (k := 3) ?_ ?_
        · intro fa fw hfB hfN hfE hfk hft
          have hE : Below wc.drew.heap.size wc.drew fw := hfE (by kernel_rfl)
          have k46 : fa.eval (.tmp 46) = (.pointer (some ⟨g, off, none⟩)) := by have := hfk 2 (K3.mem_needs (by kernel_rfl)) _ rfl; rw [hRs] at this; exact this
          rw [hRs]
          refine K3.hop_plain rfl ?_
          have hbx := (hE.cell (p := ⟨g, off, none⟩) (Nat.lt_of_lt_of_le hgy hd4.size)).trans (show wc.drew.cell? ⟨g, off, none⟩ = _ from hcy)
          exact out_load3 rfl k46 (by simp [go_sem, hbx]) ⟨⟨rfl, hE⟩, Below.refl _ _⟩
        refine K3.rel_cons (Φ := K3.Hop _ _ _ _ _ _ _) (k := 4) ?_ ?_
        · intro fa fw hfB hfN hfE hfk hft
          have k1 : fa.eval (.tmp 1) = .slice (some ⟨g, off, none⟩) ws.length cap := hft 1 (K3.mem_looks (by kernel_rfl)) (K3.noneed (by kernel_rfl))
          rw [hRs]
          refine K3.hop_plain rfl ?_
          refine K3.out_move rfl ?_
          exact ⟨k1, Below.refl _ _⟩
        refine K3.rel_cons (Φ := K3.Hop _ _ _ _ _ _ _) (k := 5) ?_ ?_
        · intro fa fw hfB hfN hfE hfk hft
          have k48 : fa.eval (.tmp 48) = (.slice (some ⟨g, off, none⟩) ws.length cap) := by have := hfk 4 (K3.mem_needs (by kernel_rfl)) _ rfl; rw [hRs] at this; exact this
          rw [hRs]
          refine K3.hop_plain rfl ?_
          have kc : ∀ v, fa.eval (.const v) = v := fun _ => rfl
          have hr := hrun fw
          generalize fa.eval = ρ at *
          exact K3.out_run (v := .slice p2 D.length c2) (w' := fw) (by simp [execOp, k48, kc, hr, go_sem]) ⟨rfl, Below.refl _ _⟩
        refine K3.rel_cons (Φ := K3.Hop _ _ _ _ _ _ _) (k := 6) ?_ ?_
        · intro fa fw hfB hfN hfE hfk hft
          have k44 : fa.eval (.tmp 44) = (.pointer (some ⟨b, 0, none⟩)) := by have := hfk 0 (K3.mem_needs (by kernel_rfl)) _ rfl; rw [hRs] at this; exact this
          have k47 : (AtW wc.drew (.string y)) (fa.eval (.tmp 47)) fw := by have := hfk 3 (K3.mem_needs (by kernel_rfl)) _ rfl; rw [hRs] at this; exact this
          have k49 : fa.eval (.tmp 49) = (.slice p2 D.length c2) := by have := hfk 5 (K3.mem_needs (by kernel_rfl)) _ rfl; rw [hRs] at this; exact this
          rw [hRs]
          refine K3.hop_plain rfl ?_
          obtain ⟨k47, hE⟩ := k47
          have hE2 := hd4.trans (hE.mono hd4.size)
          have kf : fa.eval (.func 19) = .func (.func 19) #[] #[] := rfl
          refine K3.out_call (f := 19) (args := #[.pointer (some ⟨b, 0, none⟩), .string y, .slice p2 D.length c2]) (by generalize fa.eval = ρ at *; simp [execOp, k44, k47, k49, kf, go_sem]) ?_
          exact (verb_any b L R y p2 _ c2 D fw (HE2.out.below hE2) (H2.out.below hE2) (HY2.out.below hE2) hDs.out hI).mono fun e w'' ⟨h1, h2, h3⟩ => ⟨_, h1, ⟨rfl, h2, h3.at_.trans ((hE2.block _ H2.out.lt).trans hhl)⟩, h3.lo⟩
        refine K3.rel_cons (Φ := K3.Hop _ _ _ _ _ _ _) (k := 7) ?_ ?_
        · intro fa fw hfB hfN hfE hfk hft
          have k50 : (DoneV b L hl (verbR R y D)) (fa.eval (.tmp 50)) fw := by have := hfk 6 (K3.mem_needs (by kernel_rfl)) _ rfl; rw [hRs] at this; exact this
          rw [hRs]
          refine K3.hop_plain rfl ?_
          refine K3.out_assign rfl ?_
          exact ⟨k50.e, Below.refl _ _⟩
        exact K3.rel_nil
      · intro fa fw hfB hfy hff hfs hfd
        rw [hRs] at hfy
        have k4 : fa.eval (.tmp 4) = (.bool (verbR R y D).1) := hfy 7 _ rfl (K3.unkilled (by decide))
        have k50 : DoneV b L hl (verbR R y D) (fa.tmps.getD 50 undef) fw := hfy 6 _ rfl (K3.unkilled (by decide))
        have hBf : Below b wc fw := (hd4.mono hble).trans hfB
        have e := K3.rel_frame [44, 45, 46, 47, 48, 49, 50, 4] (by kernel_rfl) hff hfs hfd
        simp only [List.foldl] at e
        rw [show fa.tmps.getD 4 undef = .bool (verbR R y D).1 from k4] at e
        clear hfy hff hfs hfd k4
        generalize fa.tmps.getD 44 undef = x44 at e
        generalize fa.tmps.getD 45 undef = x45 at e
        generalize fa.tmps.getD 46 undef = x46 at e
        generalize fa.tmps.getD 47 undef = x47 at e
        generalize fa.tmps.getD 48 undef = x48 at e
        generalize fa.tmps.getD 49 undef = x49 at e
        generalize fa.tmps.getD 50 undef = x50 at e k50
        simp [List.setIfInBounds_toArray, List.set_cons_succ, List.set_cons_zero] at e
        subst e
        have H12 := Lib.hid k50.f
        have HB12 := Lib.hid (HKz.out.trans ⟨hBf, k50.at_.trans hhl.symm⟩)
        clear k50 hBf
        go_wp2_with fail
        go_ret
        rw [HS.out]
        exact ⟨rfl, H12.out, HB12.out⟩
end Go.Proofs.YtkmachhfibcdlaaDoor
