/- One text is appended: the row's block is the old one, or a new one; Walks: Join of both; Plain: good paths, joined and cut; the way from a directory; Files are sorted; Files are sorted: SortFunc, in plain words; In rising order, neighbours alone tell whether one path lies under another; One path is another or above it: its parts begin the other's; The tree of no files; What Build makes of files, plain: a tree's entries; The first file lies below the part that it names; In sorted files, the parts that stand next below a directory rise; Behind a file, and behind a directory's files, other parts stand; The trees that Build makes are good ones; The trees that Build makes: ids of 32 bytes, short texts; fuel; Files in another order: one sorted list. -/
import Derived.Test.YtdhaanaenklleaaGreatDoorQ1
import Derived.Test.YtdhaanaenklleaaGreatDoorQ2
import Derived.OwnWalk
import Derived.Test.YtdhaanaenklleaaGreatDoorQ7
import Derived.Test.YtdhaanaenklleaaGreatDoorSs
import Derived.Shelf.SlSortCmp.NoneTotal
namespace Go.Proofs.YtdhaanaenklleaaGreatDoor
set_option linter.unusedVariables false
open Go.RowKit

theorem append_where {P : Program} (w : World) (base : Nat) (t ty e : TypeId) (i : TypeInfo) (z : Value) (ht : P.underlying t = some (.slice e)) (hi : P.info? e = some i) (hz : i.zero = some z) (hsize : i.size = 1) (hby : i.bytes = 16)
    (v : Value) (n : Nat) (xs : List Value) (hown : w.ownsRow base e 1 v n xs) (a : Addr) (c : Nat) (y : Value) (hc : w.cell? (a.add 0) = some y) (h1 : y.oneCell' = true) (hn : n ≤ 1099511627776)
    {v' : Value} {w' : World} (hr : (Builtin.append_ #[t, t] ty #[v, .slice (some a) 1 c]).run P w = .ok v' w') : v'.ownBlock = v.ownBlock ∨ v'.ownBlock = some w.heap.size := by
  have hl : [y].length = 1 * i.size := by rw [hsize]; rfl
  have hnews : ∀ j u, [y][j]? = some u → w.cell? (a.add j) = some u := by
    intro j u hj
    match j, hj with
    | 0, hj => simp at hj; subst hj; exact hc
  rcases hown.2 with ⟨rfl, rfl⟩ | ⟨g, cap, cur, rfl, hbg, hg, hnc, hcm, hcs, htake⟩
  · have h := run_append_nil (P := P) w t ty e i z ht hi hz a 1 c [y] hl hnews (by omega) (by omega) (by rw [hby]; omega)
    rw [h] at hr
    cases hr
    exact .inr rfl
  · by_cases hroom : n + 1 ≤ cap
    · have h := run_append_room (P := P) w t ty e i ht hi g n cap cur hg a 1 c [y] hl hnews (by intro u hu; simp at hu; subst hu; exact h1) hroom (by rw [hsize, hcs]; simp; omega)
      rw [h] at hr
      cases hr
      exact .inl rfl
    · have holds : ∀ j u, xs[j]? = some u → w.cell? ((⟨g, 0, none⟩ : Addr).add j) = some u := hown.cells (g := g) rfl
      have h := run_append_grow (P := P) w t ty e i z ht hi hz ⟨g, 0, none⟩ n cap xs (by rw [hsize]; exact hown.1) holds a 1 c [y] hl hnews (by omega) (by omega) (growslice_fits (by omega) (by rw [hby]; omega))
      rw [h] at hr
      cases hr
      exact .inr rfl

/-- 'append(s, x)' of one text, onto a row that is owned. -/
theorem wpList_append_text {w : World} {ops : Array Oper} {rest : List Oper} {o : Oper} {a : Act} {Q : Exit → Act → World → Prop} (hgd : o.guard = none) (s x : Operand)
    (ho : o.op = .call { callee := .builtin .append, args := #[s, x], argTypes := #[99, 99] }) (base : Nat) (v : Value) (xs : List ByteArray) (hs : a.eval s = v) (hown : w.ownsRow base 9 1 v xs.length (xs.map Value.string))
    (ad : Addr) (c : Nat) (y : ByteArray) (hx : a.eval x = .slice (some ad) 1 c) (hc : w.cell? (ad.add 0) = some (.string y)) (hn : xs.length ≤ 1099511627776) (hbase : base ≤ w.heap.size)
    (h : ∀ v' w', w'.ownsRow base 9 1 v' (xs ++ [y]).length ((xs ++ [y]).map Value.string) → w.grownBy w' v.ownBlock → (v'.ownBlock = v.ownBlock ∨ v'.ownBlock = some w.heap.size) → wpList Tryz.prog ops Q rest (a.put o.dst v') w') : wpList Tryz.prog ops Q (o :: rest) a w := by
  obtain ⟨i0, hi, hz0, hz1, hz2⟩ := info_parts Tryz.info9
  refine wpList_plain hgd fun K hK => ?_
  have hnews : ∀ j u, [Value.string y][j]? = some u → w.cell? (ad.add j) = some u := by
    intro j u hj
    match j, hj with
    | 0, hj => simp at hj; subst hj; exact hc
  obtain ⟨v', w', hr, h2, h3, h4⟩ := run_append_own (P := Tryz.prog) w base 99 o.type 9 i0 (.string ⟨#[]⟩) 1 16 Tryz.underlying99 hi hz0 hz1 hz2 rfl (by decide) v xs.length (xs.map Value.string) hown ad 1 c [.string y] rfl hnews (by intro u hu; simp at hu; subst hu; rfl) (by unfold maxLen; omega) (by omega) hbase
  have hw := append_where w base 99 o.type 9 i0 (.string ⟨#[]⟩) Tryz.underlying99 hi hz0 hz1 hz2 v xs.length (xs.map Value.string) hown ad c (.string y) hc rfl hn hr
  unfold Oper.wp execOp
  simp only [ho, resolve, invoke, builtin, Sem.run_bind, Sem.run_pure, Result.andThen_ok, List.map_toArray, List.map_cons, List.map_nil, hs, hx, hr]
  exact hK _ _ (h v' w' (by simpa using h2) h3 hw)

theorem one_new (w : World) (x : Value) (t : TypeId) : (w.alloc (.cells #[x] t)).cell? ((⟨w.heap.size, 0, none⟩ : Addr).add 0) = some x := cell_one_new w x t 0 x rfl
end Go.Proofs.YtdhaanaenklleaaGreatDoor
namespace Go.Proofs.YtdhaanaenklleaaGreatDoor
set_option linter.unusedVariables false
open Go.ChangeShapes Go.WideShapes Go.ChangeAt Go.RowKit

theorem sjoin_any (v : Value) (ss : List ByteArray) (w : World) (hv : Strs w v ss) (hc : cnt ss ≤ 1073741824) :
    Calls Tryz.prog 90 #[v, .string ⟨#[47]⟩] w fun e w' => e = .returned (.string (joinB ss)) ∧ Below w.heap.size w w' := by
  have hl := cnt_len ss
  have hz := joinB_size ss
  rcases hv with ⟨⟨p, cap, rfl⟩, rfl⟩ | ⟨b, off, cap, rfl, hlc, hm, hb, hcell⟩
  · refine (Tryz.strings_Join_none p cap _ w).mono ?_
    rintro e w' ⟨rfl, rfl⟩
    exact ⟨rfl, Below.refl _ _⟩
  · refine (Tryz.strings_Join b off cap ss ⟨#[47]⟩ w ?_ hb (by omega) hlc ?_).mono ?_
    · intro j x hx
      have hj : j < ss.length := (List.getElem?_eq_some_iff.1 hx).1
      rw [hcell j hj]
      rw [List.getElem?_eq_getElem hj] at hx
      simp [List.getD, hj, Option.some.inj hx]
    · have : (joinB ss).size = (Lib.join (ss.map (·.data.toList)) [47]).length := mkB_size _
      show (Lib.join (ss.map (·.data.toList)) [47]).length ≤ _
      omega
    · rintro e w' ⟨rfl, hB⟩
      exact ⟨rfl, hB⟩

theorem filter_step (L : List ByteArray) (k : Nat) (h : k < L.length) : (L.take (k + 1)).filter some1 = (L.take k).filter some1 ++ (if some1 (L.getD k ByteArray.empty) then [L.getD k ByteArray.empty] else []) := by
  rw [List.take_succ_eq_append_getElem h, List.filter_append]
  congr 1
  have e : L.getD k ByteArray.empty = L[k] := by simp [List.getD, h]
  rw [e]
  by_cases hx : some1 L[k] = true
  · rw [if_pos hx]; simp [hx]
  · rw [if_neg hx]; simp [hx]

set_option maxRecDepth 100000 in
set_option maxHeartbeats 1000000 in
theorem pjoin_any (v : Value) (ss : List ByteArray) (w : World) (hv : Strs w v ss) (hc : cnt ss ≤ 1073741824) :
    Calls Tryz.prog 63 #[v] w fun e w' => e = .returned (.string (joinS ss)) ∧ Below w.heap.size w w' := by
  obtain ⟨i0, hi, hz0, hz1, hz2⟩ := info_parts Tryz.info9
  have hln := cnt_len ss
  have hcf := cnt_filter ss
  obtain ⟨p, cap, rfl, hp⟩ := strs_shape hv
  have Hp := Lib.hid hp
  obtain ⟨len, hlen⟩ : ∃ len, len = ss.length := ⟨_, rfl⟩
  rw [← hlen] at Hp hln ⊢
  have Hlen := Lib.hid hlen
  have Hcf := Lib.hid hcf
  clear hv hp hlen hcf
  go_enter Tryz.func63, Tryz.ntmps63
  go_wp2_with (at_make; refine wpList_make_own _ rfl _ _ 99 rfl w.heap.size 9 i0 (.string ⟨#[]⟩) 1 Tryz.underlying99 hi hz0 hz1 .i64 .i64 _ len rfl rfl (by omega) (by rw [hz2]; omega) (by unfold maxLen; omega) (Nat.le_refl _) ?_; intro w0 hown0 hgrow0)
  have hB0 := (Below.refl _ w).grown hgrow0 (Nat.le_refl _) (fun k h => by cases h)
  clear hgrow0
  go_loopg [3, 5, 11] len (fun g ov _ iv wr => ∃ k : Nat, k + g = len ∧ iv = .int .i64 k ∧ wr.ownsRow w.heap.size 9 1 ov ((ss.take k).filter some1).length (((ss.take k).filter some1).map Value.string) ∧ Below w.heap.size w wr)
  case atStart => exact ⟨0, by omega, rfl, hown0, hB0⟩
  case round =>
    obtain ⟨k, hkg, rfl, hown, hB⟩ := hrel
    have hBs := hB.size
    clear hown0 hB0
    by_cases hlt : k < len
    · obtain ⟨b, off, rfl, hb, hcap, hmax, hcell⟩ := Hp.out (by omega)
      have hc1 := (hB.cell (p := ⟨b, off + k, none⟩) hb).trans (hcell k hlt)
      have hst := filter_step ss k (by have := Hlen.out; omega)
      have hfl : ((ss.take k).filter some1).length ≤ k := by
        have h1 := List.length_filter_le some1 (ss.take k)
        rw [List.length_take] at h1; omega
      unfold maxLen at hmax
      obtain ⟨y, hy⟩ : ∃ y, y = ss.getD k ByteArray.empty := ⟨_, rfl⟩
      rw [← hy] at hc1 hst
      clear hy hcell
      generalize (ss.take k).filter some1 = ac at *
      cases hs1 : some1 y with
      | true =>
        obtain ⟨y1, y2⟩ := some_facts hs1
        rw [hs1, if_pos rfl] at hst
        have Hst := Lib.hid hst
        clear hs1 hst
        go_wp2_with (at_builtin; go_must (refine wpList_append_text rfl (.tmp 17) (.tmp 19) rfl w.heap.size _ ac rfl (hown.alloc _) ⟨wr.heap.size, 0, none⟩ 1 y rfl (one_new _ _ _) (by omega) (by simp; omega) ?_); intro v2 w2 hown2 hgrow2 hw2)
        have hB2 := (hB.alloc hBs (Obj.cells #[Value.string y] 9)).grown hgrow2 (by simp; omega) (fun q hq => (hown.lt q hq).1)
        go_roundg (gk - 1)
        case measure => omega
        case rel => exact ⟨k + 1, by omega, by go_num, by rw [Hst.out]; exact hown2, hB2⟩
      | false =>
        obtain ⟨y1, y2⟩ := none_facts hs1
        rw [hs1, if_neg (by decide), List.append_nil] at hst
        have Hst := Lib.hid hst
        clear hs1 hst
        go_wp2_with fail
        go_roundg (gk - 1)
        case measure => omega
        case rel => exact ⟨k + 1, by omega, by go_num, by rw [Hst.out]; exact hown, hB⟩
    · have hk : k = len := by omega
      subst hk
      have e : ss.take k = ss := List.take_of_length_le (by have := Hlen.out; omega)
      rw [e] at hown
      have hst := Strs.ofRow hown
      have HJ := Lib.hid (sjoin_any _ _ wr hst (by have := Hcf.out; omega))
      have Hj := Lib.hid (show joinS ss = joinB (ss.filter some1) from rfl)
      clear hown hst e
      go_wp2_with fail
      refine HJ.out.mono ?_
      rintro e w1 ⟨rfl, hB2⟩
      go_wp2_with fail
      go_ret
      exact ⟨by rw [Hj.out]; rfl, hB.trans (hB2.mono hBs)⟩

theorem cnt_take_lt (L : List ByteArray) (k : Nat) (h : k < L.length) : cnt (L.take k) + ((L.getD k ByteArray.empty).size + 1) ≤ cnt L := by
  have h1 := cnt_take L k h
  have h2 := cnt_take_le L (k + 1)
  omega
theorem joinS_size (L : List ByteArray) : (joinS L).size ≤ cnt L := Nat.le_trans (joinB_size _) (cnt_filter L)
end Go.Proofs.YtdhaanaenklleaaGreatDoor
namespace Go.Proofs.YtdhaanaenklleaaGreatDoor
set_option linter.unusedVariables false
theorem join_cut (p : ByteArray) : joinB (cutB 47 p) = p := by
  obtain ⟨n, hn⟩ : ∃ n, p.size ≤ n := ⟨_, Nat.le_refl _⟩
  induction n generalizing p with
  | zero =>
    rcases last_cases p with ⟨h1, h2⟩ | ⟨a, b, hp, hb, hl⟩
    · rw [cut_none p h2, joinB_one]
    · have : p.size = a.size + 1 + b.size := by rw [hp, app_size, app_size]; rfl
      omega
  | succ n ih =>
    rcases last_cases p with ⟨h1, h2⟩ | ⟨a, b, hp, hb, hl⟩
    · rw [cut_none p h2, joinB_one]
    · have : p.size = a.size + 1 + b.size := by rw [hp, app_size, app_size]; rfl
      have hne : cutB 47 a ≠ [] := by
        intro e; have := cutB_ne 47 a; rw [e] at this; simp at this
      rw [hp, cut_app a b hb, joinB_snoc _ _ hne, ih a (by omega)]
theorem filter_all {L : List ByteArray} (h : ∀ x ∈ L, some1 x = true) : L.filter some1 = L := List.filter_eq_self.2 h
theorem joinS_all {L : List ByteArray} (h : ∀ x ∈ L, some1 x = true) : joinS L = joinB L := by unfold joinS; rw [filter_all h]
theorem part_some {x : ByteArray} (h : partB x = true) : some1 x = true := by
  unfold partB dotB at h
  simp only [Bool.and_eq_true] at h
  exact h.2.1.1
theorem good_all {p : ByteArray} (h : goodB p = true) : ∀ x ∈ cutB 47 p, partB x = true := by
  unfold goodB at h
  rw [Bool.and_eq_true] at h
  exact fun x hx => List.all_eq_true.1 h.2 x hx
theorem good_some {p : ByteArray} (h : goodB p = true) : some1 p = true := by
  cases hs : some1 p with
  | true => rfl
  | false => rw [empty_of p hs, good_empty] at h; cases h
theorem good_split {p : ByteArray} (h : goodB p = true) : splitL p = cutB 47 p := by unfold splitL; rw [good_some h]; rfl
theorem good_join {p : ByteArray} (h : goodB p = true) : joinS (splitL p) = p := by
  rw [good_split h, joinS_all (fun x hx => part_some (good_all h x hx)), join_cut]

def jn (a b : ByteArray) : ByteArray := joinS [a, b]
theorem jn_two {a b : ByteArray} (ha : some1 a = true) (hb : some1 b = true) : jn a b = a ++ ⟨#[47]⟩ ++ b := by
  unfold jn
  rw [joinS_all (by intro x hx; simp at hx; rcases hx with rfl | rfl <;> assumption)]
  have := joinB_snoc [a] b (by simp)
  rw [joinB_one] at this
  exact this
theorem jn_right {a b : ByteArray} (ha : some1 a = false) (hb : some1 b = true) : jn a b = b := by
  unfold jn joinS
  rw [show [a, b].filter some1 = [b] by simp [ha, hb], joinB_one]
theorem jn_size (a b : ByteArray) : (jn a b).size ≤ a.size + b.size + 2 := by
  have := joinS_size [a, b]
  simp only [cnt] at this
  show (joinS [a, b]).size ≤ _
  omega

theorem good_ends {a b : ByteArray} (hb : (47 : UInt8) ∉ b.data.toList) (h : goodB (a ++ ⟨#[47]⟩ ++ b) = true) : some1 a = true ∧ some1 b = true := by
  have hall := good_all h
  rw [cut_app a b hb] at hall
  refine ⟨?_, part_some (hall b (by simp))⟩
  cases hs : some1 a with
  | true => rfl
  | false =>
    have e := empty_of a hs
    have hm : (⟨#[]⟩ : ByteArray) ∈ cutB 47 a ++ [b] := by rw [e, cut_none ⟨#[]⟩ (by simp)]; simp
    have := part_some (hall _ hm)
    exact absurd this (by decide)
theorem jn_dir {p : ByteArray} (h : goodB p = true) : jn (dirB p) (baseB p) = p := by
  rcases last_cases p with ⟨h1, h2⟩ | ⟨a, b, hp, hb, hl⟩
  · rw [dir_none h1, base_none h1]
    exact jn_right rfl (good_some h)
  · rw [dir_some hp hl, base_some hp hl]
    rw [hp] at h
    obtain ⟨ha, hb2⟩ := good_ends hb h
    rw [jn_two ha hb2, hp]
theorem under_two (a q : ByteArray) (ha : some1 a = true) (hq : some1 q = true) : underB a (a ++ ⟨#[47]⟩ ++ q) = (q, true) := by
  unfold underB
  rw [if_pos ha]
  have hne : q.data.toList ≠ [] := by
    intro e
    have h0 : q.size = 0 := by rw [← ba_len, e]; rfl
    unfold some1 at hq; rw [h0] at hq; cases hq
  have : underL a.data.toList (a ++ ⟨#[47]⟩ ++ q).data.toList = some q.data.toList := (underL_iff _ _ _).2 ⟨by rw [ba_append, ba_append]; simp, hne⟩
  rw [this]
  show (mkB _, true) = _
  rw [mkB_data]
theorem under_empty (a p : ByteArray) (ha : some1 a = false) : underB a p = (p, some1 p) := by
  unfold underB; rw [ha]; rfl
theorem under_spec {a p r : ByteArray} (h : underB a p = (r, true)) (hp : some1 p = true) : jn a r = p := by
  cases ha : some1 a with
  | false =>
    rw [under_empty a p ha] at h
    obtain ⟨rfl, _⟩ := Prod.mk.inj h
    exact jn_right ha hp
  | true =>
    unfold underB at h
    rw [if_pos ha] at h
    cases hu : underL a.data.toList p.data.toList with
    | none => rw [hu] at h; cases h
    | some q =>
      rw [hu] at h
      cases h
      obtain ⟨h1, h2⟩ := (underL_iff _ _ _).1 hu
      have hq : some1 (mkB q) = true := by
        unfold some1
        rw [mkB_size, beq_false_of_ne (by intro e; exact h2 (List.eq_nil_of_length_eq_zero e))]; rfl
      rw [jn_two ha hq]
      apply ba_ext
      rw [ba_append, ba_append, h1, mkB_toList]; simp
theorem under_self (a : ByteArray) (ha : some1 a = true) : (underB a a).2 = false := by
  unfold underB
  rw [if_pos ha]
  have : underL a.data.toList a.data.toList = none := by
    apply underL_none
    intro q hq e
    have := congrArg List.length e
    simp at this
  rw [this]

theorem split_inj {a b : ByteArray} (h : splitL a = splitL b) : a = b := by
  have hs : ∀ x : ByteArray, splitL x = [] → x = ⟨#[]⟩ := by
    intro x hx
    unfold splitL at hx
    split at hx
    · have := cutB_ne 47 x; rw [hx] at this; simp at this
    · rename_i h; exact empty_of x (by simpa using h)
  have hj : ∀ x : ByteArray, joinB (splitL x) = x := by
    intro x
    unfold splitL
    split
    · exact join_cut x
    · rename_i h; rw [empty_of x (by simpa using h)]; rfl
  rw [← hj a, ← hj b, h]

end Go.Proofs.YtdhaanaenklleaaGreatDoor
namespace Go.Proofs.YtdhaanaenklleaaGreatDoor
set_option linter.unusedVariables false
set_option linter.unusedSimpArgs false
open Go.ChangeShapes Go.WideShapes Go.ChangeAt Go.RowKit

theorem pc_neg (a b : ByteArray) : cmpP b a = - cmpP a b := bl_so.lex.neg _ _
theorem pc_zero (a b : ByteArray) : cmpP a b = 0 ↔ a = b := by
  unfold cmpP cmpL
  rw [bl_so.lex.zero]
  exact ⟨split_inj, fun h => by rw [h]⟩
theorem pc_le (a b c : ByteArray) (h1 : cmpP a b ≤ 0) (h2 : cmpP b c ≤ 0) : cmpP a c ≤ 0 := bl_so.lex.le _ _ _ h1 h2
/-- A file whose path is not too long for the order. -/
abbrev Fi2 := { f : Fil // f.1.size ≤ 1073741824 }
instance : Inhabited Fi2 := ⟨⟨(⟨#[]⟩, ⟨#[]⟩, ()), by decide⟩⟩
def fi2V (x : Fi2) : List Value := filV x.1
def cf2 (x y : Fi2) : Int := cmpP x.1.1 y.1.1
theorem swo2 : Go.Sort.SWO (ltOf cf2) where
  irrefl x := by
    unfold ltOf cf2
    rw [(pc_zero _ _).2 rfl]; rfl
  trans x y z h1 h2 := by
    unfold ltOf cf2 at *
    have a1 := of_decide_eq_true h1
    have a2 := of_decide_eq_true h2
    have a3 := pc_le _ _ _ (Int.le_of_lt a1) (Int.le_of_lt a2)
    rw [decide_eq_true_iff]
    rcases Int.lt_or_eq_of_le a3 with h | h
    · exact h
    · have e := (pc_zero _ _).1 h
      rw [← e] at a2
      have := pc_neg x.1.1 y.1.1
      omega
  ntrans x y z h1 h2 := by
    unfold ltOf cf2 at *
    have a1 := of_decide_eq_false h1
    have a2 := of_decide_eq_false h2
    have n1 := pc_neg x.1.1 y.1.1
    have n2 := pc_neg y.1.1 z.1.1
    have n3 := pc_neg x.1.1 z.1.1
    have a3 := pc_le z.1.1 y.1.1 x.1.1 (by omega) (by omega)
    rw [decide_eq_false_iff_not]
    omega
theorem isAgg61 (w : World) : (isAgg 44).run Tryz.prog w = .ok true w := by
  simp [isAgg, go_sem, Tryz.underlying44]
theorem sizeOf61 (w : World) : (Go.sizeOf 44).run Tryz.prog w = .ok 2 w := by
  obtain ⟨i0, z, hi, hz0, hz1, _⟩ := eltF.inf
  simp [sizeOf, typeInfo, hi, hz1]
theorem cmpLays62 (blk off size : Nat) (w : World) (hM : MaxAt w) (hb : blk ≠ 1) (hbw : blk < w.heap.size) : CmpLays Tryz.prog 36 #[] fi2V 2 cf2 blk off size w := by
  intro m os dk hs x y
  have hM2 : MaxAt (Go.Proofs.sortWorldK fi2V 2 w blk off m dk os) := by
    obtain ⟨h1, v, h2⟩ := hM
    have hsz : (Go.Sort.putRowK fi2V 2 (Go.Sort.ahead w m) blk off dk).heap.size = w.heap.size := by simp [Go.Sort.putRowK, Go.Sort.putRow, Go.Sort.mapBlock, Go.Sort.ahead]
    refine ⟨?_, v, ?_⟩
    · show 1 < (Go.Sort.grow _ os).heap.size
      simp only [Go.Sort.grow, Array.size_append]
      omega
    · show (Go.Sort.grow _ os).cell? ⟨1, 0, none⟩ = _
      rw [Go.Sort.cell?_grow _ _ _ (by rw [hsz]; exact h1)]
      show (Go.Sort.putRow id (Go.Sort.ahead w m) blk off _).cell? ⟨1, 0, none⟩ = _
      rw [Go.Sort.cell?_putRow_other id _ _ _ _ _ (.inl (Ne.symm hb))]
      exact h2
  refine (less62G x.1 y.1 _ hM2 x.2 y.2).mono ?_
  rintro e w' ⟨rfl, -, q, os', hw⟩
  exact ⟨rfl, q, os', hw⟩
theorem lf_get : ∀ (l : List Fil) (t : Nat), (LF filV l)[t]? = (l[t / 2]?).bind fun x => (filV x)[t % 2]?
  | [], t => by simp [LF]
  | x :: r, 0 => rfl
  | x :: r, 1 => rfl
  | x :: r, t + 2 => by
    have ih := lf_get r t
    have e1 : (t + 2) / 2 = t / 2 + 1 := by omega
    have e2 : (t + 2) % 2 = t % 2 := by omega
    rw [e1, e2, List.getElem?_cons_succ, ← ih]
    rfl
theorem filV_len (x : Fil) : (filV x).length = 2 := rfl
theorem lf_len (l : List Fil) : (LF filV l).length = l.length * 2 := by
  induction l with
  | nil => rfl
  | cons x r ih => show (filV x ++ LF filV r).length = _; rw [List.length_append, ih, filV_len, List.length_cons]; omega
theorem flat_get (d : Array Fi2) (t : Nat) (h : t < d.size * 2) : (LF filV (d.toList.map (·.1)))[t]? = some ((Go.Sort.flatK fi2V 2 d)[t]!) := by
  have hq : t / 2 < d.size := by omega
  rw [lf_get, Go.Sort.get_flatK fi2V 2 d t h, List.getElem?_map]
  have e : d.toList[t / 2]? = some d[t / 2]! := by
    rw [Array.getElem?_toList, getElem!_pos d (t / 2) hq]
    exact Array.getElem?_eq_getElem hq
  rw [e]
  show (filV (d[t / 2]!).1)[t % 2]? = some ((filV (d[t / 2]!).1)[t % 2]!)
  have hm : t % 2 < 2 := Nat.mod_lt _ (by omega)
  rw [List.getElem?_eq_getElem (by rw [filV_len]; exact hm), getElem!_pos (filV (d[t / 2]!).1) (t % 2) (by rw [filV_len]; exact hm)]
theorem lift2 : ∀ {l : List Fil}, (∀ x ∈ l, x.1.size ≤ 1073741824) → ∃ d : List Fi2, d.map (·.1) = l
  | [], _ => ⟨[], rfl⟩
  | x :: r, h => by
    obtain ⟨d, hd⟩ := lift2 (l := r) (fun y hy => h y (List.mem_cons_of_mem _ hy))
    exact ⟨⟨x, h x List.mem_cons_self⟩ :: d, by simp [hd]⟩
theorem holds_own {w : World} {base g cap : Nat} {d : Array Fi2} (h : w.ownsRow base 44 2 (.slice (some ⟨g, 0, none⟩) d.size cap) d.size (LF filV (d.toList.map (·.1)))) : Go.Sort.HoldsK fi2V 2 w g 0 d := by
  intro j hj
  have hj2 : j < d.size * 2 := by simpa using hj
  rw [Nat.zero_add]
  refine ⟨?_, h.frozenAt j⟩
  rw [h.cellAt j hj2, flat_get d j hj2]
  rfl
end Go.Proofs.YtdhaanaenklleaaGreatDoor
namespace Go.Proofs.YtdhaanaenklleaaGreatDoor
set_option linter.unusedVariables false
set_option linter.unusedSimpArgs false
open Go.ChangeShapes Go.WideShapes Go.ChangeAt Go.RowKit

/-- In rising order of their paths. -/
def SortedF (l : List Fil) : Prop := ∀ (i j : Nat) (x y : Fil), i < j → l[i]? = some x → l[j]? = some y → cmpP x.1 y.1 ≤ 0
theorem sort_block {w : World} {g n : Nat} {cur : Array Value} {F : Array Value} {os : Array Obj} (hg : w.heap[g]? = some (.cells cur 44 (0, 0))) :
    (Go.Sort.grow (Go.Sort.putRow id (Go.Sort.ahead w n) g 0 F) os).heap[g]? = some (.cells (Go.Sort.putCells id 0 F cur) 44 (0, 0)) := by
  have hlt := lt_of_block hg
  show ((w.heap.modify g (Go.Sort.onCells (Go.Sort.putCells id 0 F))) ++ os)[g]? = _
  rw [Array.getElem?_append_left (by simpa using hlt), Array.getElem?_modify, if_pos rfl, hg]
  rfl
theorem sort_other {w : World} {g n k : Nat} {F : Array Value} {os : Array Obj} (hk : k < w.heap.size) (hne : k ≠ g) :
    (Go.Sort.grow (Go.Sort.putRow id (Go.Sort.ahead w n) g 0 F) os).heap[k]? = w.heap[k]? := by
  show ((w.heap.modify g (Go.Sort.onCells (Go.Sort.putCells id 0 F))) ++ os)[k]? = _
  rw [Array.getElem?_append_left (by simpa using hk), Array.getElem?_modify, if_neg (Ne.symm hne)]
theorem sort_below {w : World} {g n B : Nat} {F : Array Value} {os : Array Obj} (hg : g < w.heap.size) (hB : B ≤ g) : Below B w (Go.Sort.grow (Go.Sort.putRow id (Go.Sort.ahead w n) g 0 F) os) :=
  ⟨rfl, rfl, rfl, by show w.heap.size ≤ ((w.heap.modify g _) ++ os).size; simp, fun k hk => sort_other (by omega) (by omega)⟩
theorem sort_own {w : World} {base g cap n : Nat} {d d' : Array Fi2} {os : Array Obj} (h : w.ownsRow base 44 2 (.slice (some ⟨g, 0, none⟩) d.size cap) d.size (LF filV (d.toList.map (·.1)))) (hs : d'.size = d.size) :
    (Go.Sort.grow (Go.Sort.putRow id (Go.Sort.ahead w n) g 0 (Go.Sort.flatK fi2V 2 d')) os).ownsRow base 44 2 (.slice (some ⟨g, 0, none⟩) d.size cap) d.size (LF filV (d'.toList.map (·.1))) := by
  obtain ⟨h1, h2⟩ := h
  rcases h2 with ⟨h2, _⟩ | ⟨g2, cap2, cur, e, hb, hg, h3, h4, h5, h6⟩
  · cases h2
  · simp only [Value.slice.injEq, Option.some.injEq, Addr.mk.injEq, true_and, and_true] at e
    obtain ⟨rfl, rfl⟩ := e
    refine ⟨by rw [lf_len, List.length_map, Array.length_toList, hs], .inr ⟨g, cap, _, rfl, hb, sort_block hg, h3, h4, by simp [Go.Sort.putCells, h5], ?_⟩⟩
    refine List.ext_getElem? fun t => ?_
    by_cases ht : t < d.size * 2
    · have hcs : t < cur.size := by rw [h5]; omega
      rw [List.getElem?_take_of_lt ht, flat_get d' t (by rw [hs]; exact ht), Array.getElem?_toList]
      unfold Go.Sort.putCells
      rw [Array.getElem?_mapIdx, Array.getElem?_eq_getElem hcs]
      simp only [Option.map_some, Nat.zero_le, Nat.zero_add, true_and, Nat.sub_zero, Go.Sort.size_flatK, hs]
      rw [if_pos ht]
      rfl
    · rw [List.getElem?_eq_none (by rw [List.length_take]; omega), List.getElem?_eq_none (by rw [lf_len, List.length_map, Array.length_toList, hs]; omega)]
theorem sort61_any (l : List Fil) (v : Value) (base : Nat) (w : World) (hM : MaxAt w) (hv : w.ownsRow base 44 2 v l.length (LF filV l)) (hb : 1 < base) (hz : ∀ x ∈ l, x.1.size ≤ 1073741824) (hl : l.length ≤ 16777216) :
    Calls Tryz.prog 35 #[v, .func (.func 36) #[] #[]] w fun e w' => e = .returned (.tuple #[]) ∧ ∃ l', l'.Perm l ∧ SortedF l' ∧ w'.ownsRow base 44 2 v l.length (LF filV l') ∧ Below (min base w.heap.size) w w' := by
  obtain ⟨d0, hd0⟩ := lift2 hz
  obtain ⟨d, hd⟩ : ∃ d : Array Fi2, d = d0.toArray := ⟨_, rfl⟩
  have hdl : d.toList.map (·.1) = l := by rw [hd]; exact hd0
  have hds : d.size = l.length := by rw [← hdl, List.length_map, Array.length_toList]
  have hv0 := hv
  rcases hv.2 with ⟨rfl, h0⟩ | ⟨g, cap, cur, rfl, hbg, hg, -⟩
  · have h := AnyF.slices_SortFunc_none (P := Tryz.prog) (ρ := Tryz.sortF_ren) { Tryz.sortF with } none 0 (.func (.func 36) #[] #[]) w
    refine (show Calls Tryz.prog 35 _ _ _ from h).mono ?_
    rintro e w' ⟨rfl, rfl⟩
    obtain rfl : l = [] := List.eq_nil_of_length_eq_zero h0
    exact ⟨rfl, [], List.Perm.refl _, (fun i j x y _ h _ => by simp at h : SortedF []), hv0, Below.refl _ _⟩
  · have eg : ∀ args w, (callFunc 36 args).run Tryz.prog w = .ok (.enter 36 args) w := enters_of Tryz.func36 (by kernel_rfl) rfl
    rw [← hds, ← hdl] at hv0
    have hgl := lt_of_block hg
    have h := AnyQ.slices_SortFunc (P := Tryz.prog) (ρ := Tryz.sortF_ren) { Tryz.sortF with } 2 isAgg61 sizeOf61 fi2V (fun _ => rfl) (fun x => filV_one x.1) cf2 swo2 36 #[] g 0 cap d w eg (cmpLays62 g 0 d.size w hM (by omega) hgl) (holds_own hv0) hgl (by omega)
    rw [← hds]
    refine (show Calls Tryz.prog 35 _ _ _ from h).mono ?_
    rintro e w' ⟨rfl, d', n, os, hp, hs, rfl⟩
    have hs' : d'.size = d.size := hp.1
    refine ⟨rfl, d'.toList.map (fun x : Fi2 => x.1), ?_, ?_, sort_own (n := n) (os := os) hv0 hs', sort_below (n := n) (os := os) (F := Go.Sort.flatK fi2V 2 d') hgl (by omega)⟩
    · rw [← hdl]
      have h3 := hp.2.2
      rw [show d'.extract 0 d.size = d' by rw [← hs']; simp, show d.extract 0 d.size = d by simp] at h3
      exact h3.map _
    · intro i j x y hij hx hy
      rw [List.getElem?_map] at hx hy
      cases hx1 : d'.toList[i]? with
      | none => rw [hx1] at hx; cases hx
      | some p =>
        cases hy1 : d'.toList[j]? with
        | none => rw [hy1] at hy; cases hy
        | some q =>
          rw [hx1] at hx; rw [hy1] at hy
          simp only [Option.map_some, Option.some.injEq] at hx hy
          subst hx; subst hy
          rw [Array.getElem?_toList] at hx1 hy1
          have hj := (Array.getElem?_eq_some_iff.1 hy1).1
          have h4 := hs i j (Nat.zero_le _) hij (by omega)
          rw [getElem!_pos d' j hj, getElem!_pos d' i (by omega), (Array.getElem?_eq_some_iff.1 hy1).2, (Array.getElem?_eq_some_iff.1 hx1).2] at h4
          unfold ltOf cf2 at h4
          have h5 := of_decide_eq_false h4
          have h6 := pc_neg p.1.1 q.1.1
          omega
end Go.Proofs.YtdhaanaenklleaaGreatDoor
namespace Go.Proofs.YtdhaanaenklleaaGreatDoor
set_option linter.unusedVariables false

/-- No path is another, nor lies under it. -/
def Free {α : Type} (l : List (List α)) : Prop := l.Pairwise (fun a b => ¬ a <+: b ∧ ¬ b <+: a)
theorem lex_pre {α : Type} [DecidableEq α] {lt : α → α → Bool} (h : SO lt) : ∀ (a b : List α), a <+: b → lex lt b a = false
  | [], b, _ => by cases b <;> rfl
  | x :: a, [], hp => by simp at hp
  | x :: a, y :: b, hp => by
    obtain ⟨e, hq⟩ := List.cons_prefix_cons.1 hp
    subst e
    simp only [lex]
    rw [h.irr, lex_pre h a b hq]
    simp
/-- What stands between a path and one that lies under it lies under it. -/
theorem lex_mid {α : Type} [DecidableEq α] {lt : α → α → Bool} (h : SO lt) : ∀ (a g c : List α), lex lt g a = false → lex lt c g = false → a <+: c → a <+: g
  | [], g, c, _, _, _ => List.nil_prefix
  | x :: a, [], c, h1, _, _ => by simp [lex] at h1
  | x :: a, y :: g, [], _, _, hp => by simp at hp
  | x :: a, y :: g, z :: c, h1, h2, hp => by
    obtain ⟨e, hq⟩ := List.cons_prefix_cons.1 hp
    subst e
    simp only [lex, Bool.or_eq_false_iff, Bool.and_eq_false_iff, decide_eq_false_iff_not] at h1 h2
    have e := h.tri y x h1.1 h2.1
    subst e
    have q1 : lex lt g a = false := by
      rcases h1.2 with q | q
      · exact absurd rfl q
      · exact q
    have q2 : lex lt c g = false := by
      rcases h2.2 with q | q
      · exact absurd rfl q
      · exact q
    exact List.cons_prefix_cons.2 ⟨rfl, lex_mid h a g c q1 q2 hq⟩
/-- In rising order: neighbours alone tell. -/
theorem free_sorted {α : Type} [DecidableEq α] {lt : α → α → Bool} (h : SO lt) (l : List (List α)) (hs : l.Pairwise (fun a b => lex lt b a = false)) :
    Free l ↔ ∀ i (hi : i + 1 < l.length), ¬ l[i] <+: l[i + 1] := by
  constructor
  · intro hf i hi
    exact ((List.pairwise_iff_getElem.1 hf) i (i + 1) (by omega) hi (by omega)).1
  · intro hn
    refine List.pairwise_iff_getElem.2 (fun i j hi hj hij => ?_)
    have hs' := List.pairwise_iff_getElem.1 hs
    have key : ¬ l[i] <+: l[j] := fun hp => by
      refine hn i (by omega) (lex_mid h _ _ _ (hs' i (i + 1) hi (by omega) (by omega)) ?_ hp)
      by_cases e : j = i + 1
      · subst e
        exact (SO.lex h).irr _
      · exact hs' (i + 1) j (by omega) hj (by omega)
    refine ⟨key, fun hp => key ?_⟩
    have e := (SO.lex h).tri l[i] l[j] (lex_pre h _ _ hp) (hs' i j hi hj hij)
    rw [e]
    exact List.prefix_refl _
theorem free_perm {α : Type} {l m : List (List α)} (hp : l.Perm m) : Free l ↔ Free m := hp.pairwise_iff (fun {a b} hab => ⟨hab.2, hab.1⟩)
end Go.Proofs.YtdhaanaenklleaaGreatDoor
namespace Go.Proofs.YtdhaanaenklleaaGreatDoor
set_option linter.unusedVariables false
set_option linter.unusedSimpArgs false
open Go.ChangeShapes Go.WideShapes Go.ChangeAt Go.RowKit

theorem snoc_of {α : Type} {t : List α} (h : t ≠ []) : ∃ a x, t = a ++ [x] := ⟨t.dropLast, t.getLast h, (List.dropLast_concat_getLast h).symm⟩
theorem joinB_app : ∀ (n : Nat) (s t : List ByteArray), t.length ≤ n → s ≠ [] → t ≠ [] → joinB (s ++ t) = joinB s ++ ⟨#[47]⟩ ++ joinB t
  | 0, s, t, hn, _, ht => absurd (List.eq_nil_of_length_eq_zero (Nat.le_zero.1 hn)) ht
  | n + 1, s, t, hn, hs, ht => by
    obtain ⟨a, x, rfl⟩ := snoc_of ht
    rw [← List.append_assoc, joinB_snoc _ _ (by simp [hs])]
    by_cases ha : a = []
    · subst ha
      rw [List.append_nil, List.nil_append, joinB_one]
    · have ih := joinB_app n s a (by simp at hn; omega) hs ha
      rw [ih, joinB_snoc _ _ ha]
      apply ba_ext
      simp only [ba_append, List.append_assoc]
theorem joinB_some {t : List ByteArray} (ht : t ≠ []) (h : ∀ x ∈ t, some1 x = true) : some1 (joinB t) = true := by
  obtain ⟨a, x, rfl⟩ := snoc_of ht
  have hx := h x (by simp)
  by_cases ha : a = []
  · subst ha; rw [List.nil_append, joinB_one]; exact hx
  · rw [joinB_snoc _ _ ha]
    unfold some1
    rw [app_size, app_size]
    have : (⟨#[47]⟩ : ByteArray).size = 1 := rfl
    rw [this, beq_false_of_ne (by omega)]; rfl
theorem off_iff {a p : ByteArray} (ha : goodB a = true) (hp : goodB p = true) : offP a p = true ↔ ¬ splitL a <+: splitL p := by
  have hsa := good_some ha
  have hsp := good_some hp
  have key : ((underB a p).2 = true ∨ a = p) ↔ splitL a <+: splitL p := by
    constructor
    · rintro (h | rfl)
      · have h2 := under_spec (a := a) (p := p) (r := (underB a p).1) (by rw [← h]) hsp
        have hr : some1 (underB a p).1 = true := by
          cases hr : some1 (underB a p).1 with
          | true => rfl
          | false =>
            exfalso
            unfold underB at h hr
            rw [if_pos hsa] at h hr
            cases hu : underL a.data.toList p.data.toList with
            | none => rw [hu] at h; cases h
            | some q =>
              rw [hu] at hr
              obtain ⟨_, h2⟩ := (underL_iff _ _ _).1 hu
              have : some1 (mkB q) = true := by
                unfold some1
                rw [mkB_size, beq_false_of_ne (by intro e; exact h2 (List.eq_nil_of_length_eq_zero e))]; rfl
              rw [this] at hr; cases hr
        rw [jn_two hsa hr] at h2
        rw [good_split ha, good_split hp, ← h2, cut_two]
        exact List.prefix_append _ _
      · exact List.prefix_refl _
    · rintro ⟨t, ht⟩
      by_cases h0 : t = []
      · subst h0
        rw [List.append_nil] at ht
        exact .inr (split_inj ht)
      · left
        rw [good_split ha, good_split hp] at ht
        have hall := good_all hp
        have hne : cutB 47 a ≠ [] := fun e => by have := cutB_ne 47 a; rw [e] at this; simp at this
        have e : p = a ++ ⟨#[47]⟩ ++ joinB t := by
          rw [← join_cut p, ← ht, joinB_app _ _ _ (Nat.le_refl _) hne h0, join_cut]
        have hst : some1 (joinB t) = true := joinB_some h0 (fun x hx => part_some (hall x (by rw [← ht]; exact List.mem_append_right _ hx)))
        rw [e, under_two a _ hsa hst]
  unfold offP
  rw [← key]
  cases (underB a p).2 <;> simp
/-- All are paths, and free of one another. -/
def Apart (l : List Fil) : Prop := (∀ x ∈ l, goodB x.1 = true) ∧ Free (l.map fun x => splitL x.1)
theorem range_all {n : Nat} {f : Nat → Bool} : (List.range n).all f = true ↔ ∀ k, k < n → f k = true := by
  rw [List.all_eq_true]
  exact ⟨fun h k hk => h k (List.mem_range.2 hk), fun h k hk => h k (List.mem_range.1 hk)⟩
theorem whyOk_iff (l : List Fil) : whyOk l = true ↔ Apart l := by
  unfold whyOk Apart Free
  rw [range_all, List.pairwise_iff_getElem]
  constructor
  · intro h
    have hg : ∀ k (hk : k < l.length), goodB l[k].1 = true ∧ ∀ j (hj : j < l.length), j ≠ k → offP l[j].1 l[k].1 = true := fun k hk => by
      have h1 := h k hk
      rw [oneF_get hk, Bool.and_eq_true, range_all] at h1
      refine ⟨h1.1, fun j hj hne => ?_⟩
      have h2 := h1.2 j hj
      rw [pairF_get hj, decide_eq_false hne, Bool.false_or] at h2
      exact h2
    refine ⟨fun x hx => ?_, fun i j hi hj hij => ?_⟩
    · obtain ⟨k, hk, rfl⟩ := List.getElem_of_mem hx
      exact (hg k hk).1
    · rw [List.length_map] at hi hj
      simp only [List.getElem_map]
      exact ⟨(off_iff (hg i hi).1 (hg j hj).1).1 ((hg j hj).2 i hi (by omega)), (off_iff (hg j hj).1 (hg i hi).1).1 ((hg i hi).2 j hj (by omega))⟩
  · rintro ⟨hg, hf⟩ k hk
    rw [oneF_get hk, Bool.and_eq_true, range_all]
    refine ⟨hg _ (List.getElem_mem hk), fun j hj => ?_⟩
    rw [pairF_get hj]
    by_cases e : j = k
    · rw [decide_eq_true e]; rfl
    · rw [decide_eq_false e, Bool.false_or, off_iff (hg _ (List.getElem_mem hj)) (hg _ (List.getElem_mem hk))]
      rcases Nat.lt_or_gt_of_ne e with h | h
      · have := (hf j k (by simpa using hj) (by simpa using hk) h).1
        simpa using this
      · have := (hf k j (by simpa using hk) (by simpa using hj) h).2
        simpa using this
theorem cmpP_lex {a b : ByteArray} (h : cmpP a b ≤ 0) : lex bl (splitL b) (splitL a) = false := by
  have h2 := bl_so.lex.neg (splitL a) (splitL b)
  cases e : lex bl (splitL b) (splitL a) with
  | false => rfl
  | true =>
    have h3 : cmpO (lex bl) (splitL b) (splitL a) = -1 := by unfold cmpO; rw [if_pos e]
    have h4 : cmpP a b = cmpO (lex bl) (splitL a) (splitL b) := rfl
    omega
theorem apart_iff {l : List Fil} (hs : SortedF l) : apartF l = true ↔ Apart l := by
  unfold apartF Apart
  rw [range_all]
  have hsl : (l.map fun x => splitL x.1).Pairwise (fun a b => lex bl b a = false) := by
    refine List.pairwise_iff_getElem.2 (fun i j hi hj hij => ?_)
    rw [List.length_map] at hi hj
    simp only [List.getElem_map]
    exact cmpP_lex (hs i j _ _ hij (List.getElem?_eq_getElem hi) (List.getElem?_eq_getElem hj))
  rw [free_sorted bl_so _ hsl]
  constructor
  · intro h
    have hg : ∀ k (hk : k < l.length), goodB l[k].1 = true := fun k hk => by
      have h1 := h k hk
      cases k with
      | zero => rw [okF_zero hk] at h1; exact h1
      | succ k => rw [okF_succ hk, Bool.and_eq_true] at h1; exact h1.1
    refine ⟨fun x hx => ?_, fun i hi => ?_⟩
    · obtain ⟨k, hk, rfl⟩ := List.getElem_of_mem hx
      exact hg k hk
    · rw [List.length_map] at hi
      simp only [List.getElem_map]
      have h1 := h (i + 1) hi
      rw [okF_succ hi, Bool.and_eq_true] at h1
      exact (off_iff (hg i (by omega)) (hg (i + 1) hi)).1 h1.2
  · rintro ⟨hg, hn⟩ k hk
    cases k with
    | zero => rw [okF_zero hk]; exact hg _ (List.getElem_mem hk)
    | succ k =>
      rw [okF_succ hk, Bool.and_eq_true]
      refine ⟨hg _ (List.getElem_mem hk), ?_⟩
      have h1 := hn k (by simpa using hk)
      simp only [List.getElem_map] at h1
      exact (off_iff (hg _ (List.getElem_mem (by omega))) (hg _ (List.getElem_mem hk))).2 h1
/-- The sorted files' neighbours tell what all pairs tell. -/
theorem apart_why {l l' : List Fil} (hp : l'.Perm l) (hs : SortedF l') : apartF l' = whyOk l := by
  rw [Bool.eq_iff_iff, apart_iff hs, whyOk_iff]
  unfold Apart
  rw [free_perm (hp.map _)]
  exact ⟨fun h => ⟨fun x hx => h.1 x (hp.mem_iff.2 hx), h.2⟩, fun h => ⟨fun x hx => h.1 x (hp.mem_iff.1 hx), h.2⟩⟩
end Go.Proofs.YtdhaanaenklleaaGreatDoor
namespace Go.Proofs.YtdhaanaenklleaaGreatDoor
set_option linter.unusedVariables false
set_option linter.unusedSimpArgs false
open Go.ChangeShapes Go.WideShapes Go.ChangeAt Go.RowKit

theorem goodT_nil : goodT [] = true := rfl
theorem lat_nil (w : World) : LAt 34 entV w (.slice none 0 0) ([] : List Ent) := ⟨(fun x hx => nomatch hx), .inl ⟨none, 0, rfl, rfl⟩⟩
theorem putNil_any {T : Nat → Prop} {b : Nat} {fb ft fc : List UInt8 → Option Value} {nb nt nc : Nat} {w : World} (k : Sto T b fb ft fc nb nt nc w) (hT : ∀ q, T q → 0 < q ∧ q < w.heap.size) (hK : S.KeysAt w) (hM : MaxAt w) (hnt : nt ≤ 1048576) (hts : (treeB []).size ≤ 1048576) :
    Calls Tryz.prog 20 #[.pointer (some ⟨b, 0, none⟩), .slice none 0 0] w fun e w' => e = .returned (.tuple #[.agg (bytV (tid (treeB []))).toArray, .int .i64 0]) ∧ ∃ r, Sto T b fb (putF ft (tid (treeB [])) r) fc nb (if (ft (tid (treeB []))).isSome = true then nt else nt + 1) nc w' ∧ w'.ownsRow w.heap.size 58 34 r 0 (LF entV []) ∧ Kp T w w' :=
  putTree8_ok k hT hK hM (.slice none 0 0) [] (lat_nil w) (fun x hx => nomatch hx) (by decide) hts hnt goodT_nil
theorem treeB_nil : (treeB []).size ≤ 1048576 := by
  have h := treeB_size (a := [])
  decide
end Go.Proofs.YtdhaanaenklleaaGreatDoor
namespace Go.Proofs.YtdhaanaenklleaaGreatDoor
set_option linter.unusedVariables false
set_option linter.unusedSimpArgs false
open Go.ChangeShapes Go.WideShapes Go.ChangeAt Go.RowKit

def partH (way : ByteArray) : ByteArray := (splitL way).getD 0 ⟨#[]⟩
/-- The entries of the tree of these files below d; n: fuel. -/
def bldE : Nat → ByteArray → List Fil → List Ent
  | 0, _, _ => []
  | _ + 1, _, [] => []
  | n + 1, d, f :: r =>
    if partH (underB d f.1).1 = (underB d f.1).1 then (partH (underB d f.1).1, false, bid f.2.1, ()) :: bldE n d r
    else (partH (underB d f.1).1, true, tid (treeB (bldE n (jn d (partH (underB d f.1).1)) ((f :: r).take (belowN (jn d (partH (underB d f.1).1)) (f :: r))))), ()) :: bldE n d ((f :: r).drop (belowN (jn d (partH (underB d f.1).1)) (f :: r)))
theorem under_some {a p : ByteArray} (hp : some1 p = true) (h : (underB a p).2 = true) : some1 (underB a p).1 = true := by
  cases hsa : some1 a with
  | false => rw [under_empty a p hsa]; exact hp
  | true =>
    unfold underB at h ⊢
    rw [if_pos hsa] at h ⊢
    cases hu : underL a.data.toList p.data.toList with
    | none => rw [hu] at h; cases h
    | some q =>
      obtain ⟨_, h2⟩ := (underL_iff _ _ _).1 hu
      show some1 (mkB q) = true
      unfold some1
      rw [mkB_size, beq_false_of_ne (by intro e; exact h2 (List.eq_nil_of_length_eq_zero e))]; rfl
/-- A path below d: d's parts, and those of what stands behind it. -/
theorem under_parts {d p : ByteArray} (hp : some1 p = true) (h : (underB d p).2 = true) : splitL p = splitL d ++ splitL (underB d p).1 := by
  have hr := under_some hp h
  have h2 := under_spec (a := d) (p := p) (r := (underB d p).1) (by rw [← h]) hp
  cases hd : some1 d with
  | false =>
    rw [under_empty d p hd]
    have : splitL d = [] := by unfold splitL; rw [hd]; rfl
    rw [this]; rfl
  | true =>
    rw [jn_two hd hr] at h2
    have e1 : splitL d = cutB 47 d := by unfold splitL; rw [hd]; rfl
    have e2 : splitL (underB d p).1 = cutB 47 (underB d p).1 := by unfold splitL; rw [hr]; rfl
    have e3 : splitL p = cutB 47 p := by unfold splitL; rw [hp]; rfl
    rw [e1, e2, e3, ← cut_two, h2]
theorem split_ne {p : ByteArray} (hp : some1 p = true) : splitL p ≠ [] := by
  unfold splitL
  rw [hp, if_pos rfl]
  intro e
  have := cutB_ne 47 p
  rw [e] at this; simp at this
/-- The parts of a directory and one part more. -/
theorem jn_parts {d x : ByteArray} (hx : some1 x = true) (hf : (47 : UInt8) ∉ x.data.toList) : splitL (jn d x) = splitL d ++ [x] := by
  cases hd : some1 d with
  | false =>
    rw [jn_right hd hx]
    have : splitL d = [] := by unfold splitL; rw [hd]; rfl
    rw [this]
    unfold splitL
    rw [hx, if_pos rfl, cut_none x hf]; rfl
  | true =>
    rw [jn_two hd hx]
    have e1 : splitL d = cutB 47 d := by unfold splitL; rw [hd]; rfl
    have e3 : splitL (d ++ ⟨#[47]⟩ ++ x) = cutB 47 (d ++ ⟨#[47]⟩ ++ x) := by
      unfold splitL
      rw [if_pos]
      unfold some1
      rw [app_size, app_size]
      have : (⟨#[47]⟩ : ByteArray).size = 1 := rfl
      rw [this, beq_false_of_ne (by omega)]; rfl
    rw [e1, e3, cut_app d x hf]
end Go.Proofs.YtdhaanaenklleaaGreatDoor
namespace Go.Proofs.YtdhaanaenklleaaGreatDoor
set_option linter.unusedVariables false
set_option linter.unusedSimpArgs false
open Go.ChangeShapes Go.WideShapes Go.ChangeAt Go.RowKit

theorem join_split {p : ByteArray} (hp : some1 p = true) : joinB (splitL p) = p := by
  unfold splitL; rw [hp, if_pos rfl, join_cut]
theorem pre_under {a p : ByteArray} {t : List ByteArray} (ha : some1 a = true) (hp : some1 p = true) (h : splitL p = splitL a ++ t) (ht : t ≠ []) (hs : ∀ x ∈ t, some1 x = true) : underB a p = (joinB t, true) := by
  have e : p = a ++ ⟨#[47]⟩ ++ joinB t := by
    rw [← join_split hp, h, joinB_app _ _ _ (Nat.le_refl _) (split_ne ha) ht, join_split ha]
  rw [e]
  exact under_two a _ ha (joinB_some ht hs)
theorem partH_head {way : ByteArray} (hw : some1 way = true) : ∃ r, splitL way = partH way :: r ∧ (r = [] ↔ partH way = way) := by
  cases h : splitL way with
  | nil => exact absurd h (split_ne hw)
  | cons x r =>
    have hx : partH way = x := by unfold partH; rw [h]; rfl
    refine ⟨r, by rw [hx], ?_⟩
    rw [hx]
    constructor
    · rintro rfl
      have := join_split hw
      rw [h, joinB_one] at this
      exact this
    · rintro rfl
      by_cases hr : r = []
      · exact hr
      · exfalso
        have h2 := join_split hw
        rw [h] at h2
        have h3 := joinB_app r.length [x] r (Nat.le_refl _) (by simp) hr
        rw [List.singleton_append, h2, joinB_one] at h3
        have h4 := congrArg ByteArray.size h3
        rw [app_size, app_size] at h4
        have : (⟨#[47]⟩ : ByteArray).size = 1 := rfl
        omega
theorem below_head {d p : ByteArray} (hp : goodB p = true) (h : (underB d p).2 = true) (hn : partH (underB d p).1 ≠ (underB d p).1) :
    some1 (partH (underB d p).1) = true ∧ (47 : UInt8) ∉ (partH (underB d p).1).data.toList ∧ (underB (jn d (partH (underB d p).1)) p).2 = true := by
  have hps := good_some hp
  have hw := under_some hps h
  obtain ⟨r, hr, hre⟩ := partH_head hw
  have hpp := under_parts hps h
  have hall : ∀ x ∈ splitL p, some1 x = true := fun x hx => part_some (good_all hp x (by rw [← good_split hp]; exact hx))
  have hmem : ∀ x ∈ partH (underB d p).1 :: r, x ∈ splitL p := fun x hx => by rw [hpp, hr]; exact List.mem_append_right _ hx
  have h1 : some1 (partH (underB d p).1) = true := hall _ (hmem _ List.mem_cons_self)
  have h2 : (47 : UInt8) ∉ (partH (underB d p).1).data.toList := cut_free 47 p _ (by rw [← good_split hp]; exact hmem _ List.mem_cons_self)
  have hj := jn_parts (d := d) h1 h2
  have hjs : some1 (jn d (partH (underB d p).1)) = true := by
    cases e : some1 (jn d (partH (underB d p).1)) with
    | true => rfl
    | false =>
      have : splitL (jn d (partH (underB d p).1)) = [] := by unfold splitL; rw [e]; rfl
      rw [hj] at this; simp at this
  refine ⟨h1, h2, ?_⟩
  rw [pre_under hjs hps (t := r) (by rw [hpp, hr, hj]; simp) (fun e => hn (hre.1 e)) (fun x hx => hall x (hmem x (List.mem_cons_of_mem _ hx)))]
theorem belowN_pos {d : ByteArray} {f : Fil} {r : List Fil} (h : (underB d f.1).2 = true) : 0 < belowN d (f :: r) := by
  unfold belowN
  simp [List.takeWhile, h]
theorem belowN_le (d : ByteArray) (l : List Fil) : belowN d l ≤ l.length := by
  unfold belowN
  exact (List.takeWhile_sublist _).length_le
theorem belowN_all {d : ByteArray} {l : List Fil} : ∀ x ∈ l.take (belowN d l), (underB d x.1).2 = true := by
  induction l with
  | nil => intro x hx; simp at hx
  | cons f r ih =>
    intro x hx
    cases h : (underB d f.1).2 with
    | false =>
      have : belowN d (f :: r) = 0 := by unfold belowN; simp [List.takeWhile, h]
      rw [this] at hx; simp at hx
    | true =>
      have : belowN d (f :: r) = belowN d r + 1 := by unfold belowN; simp [List.takeWhile, h]
      rw [this, List.take_succ_cons] at hx
      rcases List.mem_cons.1 hx with rfl | hx
      · exact h
      · exact ih x hx
end Go.Proofs.YtdhaanaenklleaaGreatDoor
namespace Go.Proofs.YtdhaanaenklleaaGreatDoor
set_option linter.unusedVariables false
set_option linter.unusedSimpArgs false
open Go.ChangeShapes Go.WideShapes Go.ChangeAt Go.RowKit

/-- The part of a file's path that stands next below d. -/
def hdP (d : ByteArray) (f : Fil) : ByteArray := partH (underB d f.1).1
theorem heads_le {d : ByteArray} {f x : Fil} (hf : goodB f.1 = true) (hx : goodB x.1 = true) (uf : (underB d f.1).2 = true) (ux : (underB d x.1).2 = true) (h : cmpP f.1 x.1 ≤ 0) : bl (hdP d x) (hdP d f) = false := by
  obtain ⟨r, hr, -⟩ := partH_head (under_some (good_some hf) uf)
  obtain ⟨s, hs, -⟩ := partH_head (under_some (good_some hx) ux)
  have e : cmpP f.1 x.1 = cmpL (splitL f.1) (splitL x.1) := rfl
  rw [e, under_parts (good_some hf) uf, under_parts (good_some hx) ux, cmpL_app, hr, hs, cmpL_cons] at h
  unfold hdP
  cases hb : bl (partH (underB d x.1).1) (partH (underB d f.1).1) with
  | false => rfl
  | true =>
    exfalso
    have h1 := bl_so.asy hb
    have hne : partH (underB d f.1).1 ≠ partH (underB d x.1).1 := fun e => by rw [e, bl_so.irr] at hb; cases hb
    have ho : ord (partH (underB d f.1).1) (partH (underB d x.1).1) = 1 := by
      unfold ord cmpO
      rw [h1, if_neg (by simp), if_neg hne]
    rw [ho] at h
    simp at h
/-- Two below d with one next part: the second lies below that part too, or one is the other's directory. -/
theorem hdP_parts {d : ByteArray} {x : Fil} (hx : goodB x.1 = true) (ux : (underB d x.1).2 = true) : ∃ s, splitL x.1 = splitL d ++ hdP d x :: s ∧ (s = [] ↔ hdP d x = (underB d x.1).1) := by
  obtain ⟨s, hs, he⟩ := partH_head (under_some (good_some hx) ux)
  exact ⟨s, by rw [under_parts (good_some hx) ux, hs]; rfl, he⟩
theorem hdP_one {d : ByteArray} {x : Fil} (hx : goodB x.1 = true) (ux : (underB d x.1).2 = true) : partB (hdP d x) = true ∧ (47 : UInt8) ∉ (hdP d x).data.toList := by
  obtain ⟨s, hs, -⟩ := hdP_parts hx ux
  have hm : hdP d x ∈ cutB 47 x.1 := by rw [← good_split hx, hs]; simp
  exact ⟨good_all hx _ hm, cut_free 47 _ _ hm⟩
end Go.Proofs.YtdhaanaenklleaaGreatDoor
namespace Go.Proofs.YtdhaanaenklleaaGreatDoor
set_option linter.unusedVariables false
set_option linter.unusedSimpArgs false
open Go.ChangeShapes Go.WideShapes Go.ChangeAt Go.RowKit

/-- Files as Build has them below d: sorted, apart, all below d. -/
structure Low (d : ByteArray) (l : List Fil) : Prop where
  s : SortedF l
  a : Apart l
  u : ∀ x ∈ l, (underB d x.1).2 = true
theorem bl_gt {a b : ByteArray} (h : bl b a = false) (hne : b ≠ a) : bl a b = true := by
  cases e : bl a b with
  | true => rfl
  | false => exact absurd (bl_so.tri b a h e) hne
theorem SortedF.tail {f : Fil} {r : List Fil} (h : SortedF (f :: r)) : SortedF r := fun i j x y hij hx hy => h (i + 1) (j + 1) x y (by omega) (by simpa using hx) (by simpa using hy)
theorem SortedF.head {f : Fil} {r : List Fil} (h : SortedF (f :: r)) : ∀ x ∈ r, cmpP f.1 x.1 ≤ 0 := fun x hx => by
  obtain ⟨j, hj⟩ := List.mem_iff_getElem?.1 hx
  exact h 0 (j + 1) f x (by omega) rfl (by simpa using hj)
theorem Apart.tail {f : Fil} {r : List Fil} (h : Apart (f :: r)) : Apart r := ⟨fun x hx => h.1 x (List.mem_cons_of_mem _ hx), (List.pairwise_cons.1 h.2).2⟩
theorem Apart.head {f : Fil} {r : List Fil} (h : Apart (f :: r)) : ∀ x ∈ r, ¬ splitL f.1 <+: splitL x.1 ∧ ¬ splitL x.1 <+: splitL f.1 := fun x hx => (List.pairwise_cons.1 h.2).1 _ (List.mem_map_of_mem hx)
theorem Low.tail {d : ByteArray} {f : Fil} {r : List Fil} (h : Low d (f :: r)) : Low d r := ⟨h.s.tail, h.a.tail, fun x hx => h.u x (List.mem_cons_of_mem _ hx)⟩
theorem SortedF.drop {l : List Fil} (h : SortedF l) (n : Nat) : SortedF (l.drop n) := fun i j x y hij hx hy => h (n + i) (n + j) x y (by omega) (by rw [← List.getElem?_drop]; exact hx) (by rw [← List.getElem?_drop]; exact hy)
theorem Low.drop {d : ByteArray} {l : List Fil} (h : Low d l) (n : Nat) : Low d (l.drop n) :=
  ⟨h.s.drop n, ⟨fun x hx => h.a.1 x (List.mem_of_mem_drop hx), by have := h.a.2; unfold Free at *; rw [List.map_drop]; exact this.sublist (List.drop_sublist _ _)⟩, fun x hx => h.u x (List.mem_of_mem_drop hx)⟩
theorem Low.into {d e : ByteArray} {l : List Fil} (h : Low d l) : Low e (l.take (belowN e l)) :=
  ⟨fun i j x y hij hx hy => h.s i j x y hij (by have := List.getElem?_take (l := l) (i := belowN e l) (j := i); rw [this] at hx; split at hx <;> simp_all) (by have := List.getElem?_take (l := l) (i := belowN e l) (j := j); rw [this] at hy; split at hy <;> simp_all),
   ⟨fun x hx => h.a.1 x (List.mem_of_mem_take hx), by have := h.a.2; unfold Free at *; rw [List.map_take]; exact this.sublist (List.take_sublist _ _)⟩, belowN_all⟩
/-- Behind a file that is d's own: greater parts. -/
theorem gt_file {d : ByteArray} {f : Fil} {r : List Fil} (h : Low d (f :: r)) (hw : hdP d f = (underB d f.1).1) : ∀ x ∈ r, bl (hdP d f) (hdP d x) = true := fun x hx => by
  have gf := h.a.1 f List.mem_cons_self
  have gx := h.a.1 x (List.mem_cons_of_mem _ hx)
  have uf := h.u f List.mem_cons_self
  have ux := h.u x (List.mem_cons_of_mem _ hx)
  refine bl_gt (heads_le gf gx uf ux (h.s.head x hx)) (fun e => ?_)
  obtain ⟨s, hs, he⟩ := hdP_parts gf uf
  obtain ⟨t, ht, -⟩ := hdP_parts gx ux
  have hs0 := he.2 hw
  subst hs0
  refine (h.a.head x hx).1 ?_
  rw [hs, ht, e]
  exact ⟨t, by simp⟩
theorem takeWhile_next {p : Fil → Bool} : ∀ {l : List Fil} {y : Fil}, l[(l.takeWhile p).length]? = some y → p y = false
  | [], y, h => by simp at h
  | z :: r, y, h => by
    cases e : p z with
    | true =>
      have ih := takeWhile_next (p := p) (l := r) (y := y)
      simp only [List.takeWhile, e, List.length_cons, List.getElem?_cons_succ] at h
      exact ih h
    | false =>
      simp only [List.takeWhile, e, List.length_nil, List.getElem?_cons_zero, Option.some.injEq] at h
      rw [← h]; exact e
/-- Behind the files of one of d's directories: greater parts. -/
theorem gt_dir {d : ByteArray} {f : Fil} {r : List Fil} (h : Low d (f :: r)) (hw : hdP d f ≠ (underB d f.1).1) : ∀ x ∈ (f :: r).drop (belowN (jn d (hdP d f)) (f :: r)), bl (hdP d f) (hdP d x) = true := by
  have gf := h.a.1 f List.mem_cons_self
  have uf := h.u f List.mem_cons_self
  obtain ⟨p1, p2⟩ := hdP_one gf uf
  obtain ⟨b1, b2, b3⟩ := below_head gf uf hw
  have hpos := belowN_pos (d := jn d (hdP d f)) (f := f) (r := r) b3
  obtain ⟨n, hn⟩ : ∃ n, n = belowN (jn d (hdP d f)) (f :: r) := ⟨_, rfl⟩
  rw [← hn] at hpos ⊢
  intro x hx
  have hl := h.drop n
  cases hd : (f :: r).drop n with
  | nil => rw [hd] at hx; cases hx
  | cons y t =>
    rw [hd] at hx hl
    have hyi : (f :: r)[n]? = some y := by
      have := List.getElem?_drop (xs := f :: r) (i := n) (j := 0)
      rw [hd] at this
      simpa using this.symm
    have hym : y ∈ r := by
      obtain ⟨m, rfl⟩ : ∃ m, n = m + 1 := ⟨n - 1, by omega⟩
      rw [List.getElem?_cons_succ] at hyi
      exact List.mem_of_getElem? hyi
    have gy := h.a.1 y (List.mem_cons_of_mem _ hym)
    have uy := h.u y (List.mem_cons_of_mem _ hym)
    have hny : (underB (jn d (hdP d f)) y.1).2 = false := takeWhile_next (p := fun x => (underB (jn d (hdP d f)) x.1).2) (by rw [hn] at hyi; exact hyi)
    have hfy : bl (hdP d f) (hdP d y) = true := by
      refine bl_gt (heads_le gf gy uf uy (h.s.head y hym)) (fun e => ?_)
      obtain ⟨s, hs, he⟩ := hdP_parts gf uf
      obtain ⟨t2, ht2, -⟩ := hdP_parts gy uy
      by_cases h0 : t2 = []
      · subst h0
        refine (h.a.head y hym).2 ?_
        rw [hs, ht2, e]
        exact ⟨s, by simp⟩
      · have hj := jn_parts (d := d) b1 b2
        have hjs : some1 (jn d (hdP d f)) = true := by
          cases e2 : some1 (jn d (hdP d f)) with
          | true => rfl
          | false =>
            have h5 : splitL (jn d (hdP d f)) = [] := by unfold splitL; rw [e2]; rfl
            have hj2 : splitL (jn d (hdP d f)) = splitL d ++ [hdP d f] := hj
            rw [hj2] at h5; simp at h5
        have h6 := pre_under hjs (good_some gy) (t := t2) (by rw [ht2, e]; show _ = splitL (jn d (hdP d f)) ++ t2; rw [show splitL (jn d (hdP d f)) = splitL d ++ [hdP d f] from hj]; simp) h0
          (fun z hz => part_some (good_all gy z (by rw [← good_split gy, ht2]; simp [hz])))
        rw [h6] at hny
        cases hny
    rcases List.mem_cons.1 hx with rfl | hx
    · exact hfy
    · have gx := hl.a.1 x (List.mem_cons_of_mem _ hx)
      have ux := hl.u x (List.mem_cons_of_mem _ hx)
      have h7 := heads_le gy gx uy ux (hl.s.head x hx)
      cases e : bl (hdP d f) (hdP d x) with
      | true => rfl
      | false =>
        exfalso
        by_cases e2 : hdP d x = hdP d f
        · rw [e2] at h7; rw [h7] at hfy; cases hfy
        · have h8 := bl_gt e (fun e3 => e2 e3.symm)
          have := bl_so.tra _ _ _ h8 hfy
          rw [h7] at this; cases this
end Go.Proofs.YtdhaanaenklleaaGreatDoor
namespace Go.Proofs.YtdhaanaenklleaaGreatDoor
set_option linter.unusedVariables false
set_option linter.unusedSimpArgs false
open Go.ChangeShapes Go.WideShapes Go.ChangeAt Go.RowKit

theorem name_hdP {d : ByteArray} {x : Fil} (hx : goodB x.1 = true) (ux : (underB d x.1).2 = true) : nameB (hdP d x) = true := by
  obtain ⟨h1, h2⟩ := hdP_one hx ux
  obtain ⟨s, hs, -⟩ := hdP_parts hx ux
  have hm : hdP d x ∈ cutB 47 x.1 := by rw [← good_split hx, hs]; simp
  obtain ⟨k, hk, he⟩ := List.getElem_of_mem hm
  have hsz := cutB_each 47 x.1 k hk
  rw [List.getD_eq_getElem?_getD, List.getElem?_eq_getElem hk, Option.getD_some, he] at hsz
  have h128 : x.1.size ≤ 128 := by
    have := hx
    unfold goodB at this
    rw [Bool.and_eq_true, Bool.and_eq_true, decide_eq_true_iff] at this
    exact this.1.1
  have hc := cut_none (hdP d x) h2
  unfold nameB goodB
  rw [hc, decide_eq_true (by omega)]
  simp [h1]
theorem bld_names : ∀ (n : Nat) (d : ByteArray) (l : List Fil), Low d l → (∀ e ∈ bldE n d l, ∃ x ∈ l, e.1 = hdP d x) ∧ (bldE n d l).Pairwise (fun a b => bl a.1 b.1 = true) ∧ (bldE n d l).length ≤ l.length
  | 0, d, l, _ => by simp [bldE]
  | n + 1, d, [], _ => by simp [bldE]
  | n + 1, d, f :: r, h => by
    by_cases hw : partH (underB d f.1).1 = (underB d f.1).1
    · obtain ⟨i1, i2, i3⟩ := bld_names n d r h.tail
      have e : bldE (n + 1) d (f :: r) = (hdP d f, false, bid f.2.1, ()) :: bldE n d r := by
        rw [bldE, if_pos hw]; rfl
      rw [e]
      refine ⟨fun x hx => ?_, List.pairwise_cons.2 ⟨fun x hx => ?_, i2⟩, by simp; exact i3⟩
      · rcases List.mem_cons.1 hx with rfl | hx
        · exact ⟨f, List.mem_cons_self, rfl⟩
        · obtain ⟨y, hy, h1⟩ := i1 x hx
          exact ⟨y, List.mem_cons_of_mem _ hy, h1⟩
      · obtain ⟨y, hy, h1⟩ := i1 x hx
        rw [h1]
        exact gt_file h hw y hy
    · obtain ⟨i1, i2, i3⟩ := bld_names n d _ (h.drop (belowN (jn d (hdP d f)) (f :: r)))
      have e : bldE (n + 1) d (f :: r) = (hdP d f, true, tid (treeB (bldE n (jn d (hdP d f)) ((f :: r).take (belowN (jn d (hdP d f)) (f :: r))))), ()) :: bldE n d ((f :: r).drop (belowN (jn d (hdP d f)) (f :: r))) := by
        rw [bldE, if_neg hw]; rfl
      have hpos := belowN_pos (d := jn d (hdP d f)) (f := f) (r := r) (below_head (h.a.1 f List.mem_cons_self) (h.u f List.mem_cons_self) hw).2.2
      rw [e]
      refine ⟨fun x hx => ?_, List.pairwise_cons.2 ⟨fun x hx => ?_, i2⟩, ?_⟩
      · rcases List.mem_cons.1 hx with rfl | hx
        · exact ⟨f, List.mem_cons_self, rfl⟩
        · obtain ⟨y, hy, h1⟩ := i1 x hx
          exact ⟨y, List.mem_of_mem_drop hy, h1⟩
      · obtain ⟨y, hy, h1⟩ := i1 x hx
        rw [h1]
        exact gt_dir h hw y hy
      · rw [List.length_drop] at i3
        simp only [List.length_cons] at i3 ⊢
        omega
theorem bld_good (n : Nat) {d : ByteArray} {l : List Fil} (h : Low d l) (hl : l.length ≤ 512) : goodT (bldE n d l) = true := by
  obtain ⟨i1, i2, i3⟩ := bld_names n d l h
  have hnm : ∀ e ∈ bldE n d l, nameB e.1 = true := fun e he => by
    obtain ⟨x, hx, h1⟩ := i1 e he
    rw [h1]
    exact name_hdP (h.a.1 x hx) (h.u x hx)
  unfold goodT
  rw [decide_eq_true (by omega), Bool.true_and, range_all]
  intro k hk
  cases k with
  | zero => rw [okAt_zero hk]; exact hnm _ (List.getElem_mem hk)
  | succ k =>
    rw [okAt_succ hk, hnm _ (List.getElem_mem hk), Bool.true_and]
    exact (List.pairwise_iff_getElem.1 i2) k (k + 1) (by omega) hk (by omega)
end Go.Proofs.YtdhaanaenklleaaGreatDoor
namespace Go.Proofs.YtdhaanaenklleaaGreatDoor
set_option linter.unusedVariables false
set_option linter.unusedSimpArgs false
open Go.ChangeShapes Go.WideShapes Go.ChangeAt Go.RowKit

theorem bid_len (s : ByteArray) : (bid s).length = 32 := by unfold bid; rw [byL_len, dg_len]
theorem tid_len (s : ByteArray) : (tid s).length = 32 := by unfold tid; rw [byL_len, dg_len]
theorem bld_ids : ∀ (n : Nat) (d : ByteArray) (l : List Fil), ∀ e ∈ bldE n d l, e.2.2.1.length = 32
  | 0, d, l => by simp [bldE]
  | n + 1, d, [] => by simp [bldE]
  | n + 1, d, f :: r => by
    intro e he
    rw [bldE] at he
    split at he
    · rcases List.mem_cons.1 he with rfl | he
      · exact bid_len _
      · exact bld_ids n d r e he
    · rcases List.mem_cons.1 he with rfl | he
      · exact tid_len _
      · exact bld_ids n d _ e he
theorem name_size {x : ByteArray} (h : nameB x = true) : x.size ≤ 128 := by
  have := (name_of h).1
  unfold goodB at this
  rw [Bool.and_eq_true, Bool.and_eq_true, decide_eq_true_iff] at this
  exact this.1.1
theorem bld_short (n : Nat) {d : ByteArray} {l : List Fil} (h : Low d l) : ∀ e ∈ bldE n d l, e.1.size ≤ 128 := fun e he => by
  obtain ⟨x, hx, h1⟩ := (bld_names n d l h).1 e he
  rw [h1]
  exact name_size (name_hdP (h.a.1 x hx) (h.u x hx))
theorem bld_text (n : Nat) {d : ByteArray} {l : List Fil} (h : Low d l) (hl : l.length ≤ 60) : (treeB (bldE n d l)).size ≤ 1048576 :=
  treeB_size (fun e he => by have := bld_short n h e he; omega) (bld_ids n d l) (by have := (bld_names n d l h).2.2; omega)
/-- How many parts of a path there can be below d. -/
theorem low_depth {d : ByteArray} {f : Fil} (hf : goodB f.1 = true) (uf : (underB d f.1).2 = true) : (splitL d).length + 1 ≤ 16 := by
  obtain ⟨s, hs, -⟩ := hdP_parts hf uf
  have h16 : (cutB 47 f.1).length ≤ 16 := by
    have := hf
    unfold goodB at this
    rw [Bool.and_eq_true, Bool.and_eq_true, decide_eq_true_iff, decide_eq_true_iff] at this
    exact this.1.2
  rw [← good_split hf, hs, List.length_append, List.length_cons] at h16
  omega
/-- More fuel than enough changes nothing. -/
theorem bld_fuel : ∀ (n m : Nat) (d : ByteArray) (l : List Fil), Low d l → l.length + (17 - (splitL d).length) ≤ n → l.length + (17 - (splitL d).length) ≤ m → bldE n d l = bldE m d l
  | n, m, d, [], _, hn, hm => by cases n <;> cases m <;> simp [bldE]
  | 0, m, d, f :: r, h, hn, hm => by simp at hn
  | n + 1, 0, d, f :: r, h, hn, hm => by simp at hm
  | n + 1, m + 1, d, f :: r, h, hn, hm => by
    have gf := h.a.1 f List.mem_cons_self
    have uf := h.u f List.mem_cons_self
    have hdp := low_depth gf uf
    simp only [List.length_cons] at hn hm
    by_cases hw : partH (underB d f.1).1 = (underB d f.1).1
    · rw [bldE, if_pos hw, bldE, if_pos hw, bld_fuel n m d r h.tail (by omega) (by omega)]
    · obtain ⟨b1, b2, b3⟩ := below_head gf uf hw
      have hpos := belowN_pos (d := jn d (partH (underB d f.1).1)) (f := f) (r := r) b3
      have hle := belowN_le (jn d (partH (underB d f.1).1)) (f :: r)
      have hj := congrArg List.length (jn_parts (d := d) b1 b2)
      rw [List.length_append, List.length_singleton] at hj
      simp only [List.length_cons] at hle
      rw [bldE, if_neg hw, bldE, if_neg hw,
        bld_fuel n m _ _ (h.into (e := jn d (partH (underB d f.1).1))) (by rw [List.length_take, List.length_cons, hj]; omega) (by rw [List.length_take, List.length_cons, hj]; omega),
        bld_fuel n m d _ (h.drop _) (by rw [List.length_drop, List.length_cons]; omega) (by rw [List.length_drop, List.length_cons]; omega)]
end Go.Proofs.YtdhaanaenklleaaGreatDoor
namespace Go.Proofs.YtdhaanaenklleaaGreatDoor
set_option linter.unusedVariables false
set_option linter.unusedSimpArgs false
open Go.ChangeShapes Go.WideShapes Go.ChangeAt Go.RowKit

theorem Apart.perm {l m : List Fil} (hp : l.Perm m) (h : Apart l) : Apart m :=
  ⟨fun x hx => h.1 x (hp.mem_iff.2 hx), (free_perm (hp.map _)).1 h.2⟩
theorem apart_inj {l : List Fil} (h : Apart l) {x y : Fil} (hx : x ∈ l) (hy : y ∈ l) (e : x.1 = y.1) : x = y := by
  obtain ⟨i, hi, rfl⟩ := List.getElem_of_mem hx
  obtain ⟨j, hj, rfl⟩ := List.getElem_of_mem hy
  rcases Nat.lt_trichotomy i j with hij | hij | hij
  · have := (List.pairwise_iff_getElem.1 h.2 i j (by simpa using hi) (by simpa using hj) hij).1
    simp only [List.getElem_map] at this
    rw [e] at this
    exact absurd (List.prefix_refl _) this
  · subst hij; rfl
  · have := (List.pairwise_iff_getElem.1 h.2 j i (by simpa using hj) (by simpa using hi) hij).1
    simp only [List.getElem_map] at this
    rw [e] at this
    exact absurd (List.prefix_refl _) this
theorem SortedF.pw {l : List Fil} (h : SortedF l) : l.Pairwise (fun x y => cmpP x.1 y.1 ≤ 0) :=
  List.pairwise_iff_getElem.2 (fun i j hi hj hij => h i j _ _ hij (List.getElem?_eq_getElem hi) (List.getElem?_eq_getElem hj))
def leF (x y : Fil) : Prop := cmpP x.1 y.1 ≤ 0
theorem SortedF.pw2 {l : List Fil} (h : SortedF l) : l.Pairwise leF := h.pw
theorem leF_anti {l : List Fil} (ha : Apart l) {x y : Fil} (hx : x ∈ l) (hy : y ∈ l) (h1 : leF x y) (h2 : leF y x) : x = y := by
  unfold leF at h1 h2
  have h3 := pc_neg x.1 y.1
  exact apart_inj ha hx hy ((pc_zero _ _).1 (by omega))
theorem sorted_one {l m : List Fil} (hp : l.Perm m) (ha : Apart l) (hl : SortedF l) (hm : SortedF m) : l = m :=
  List.Perm.eq_of_pairwise (le := leF) (fun x y hx hy h1 h2 => leF_anti ha hx (hp.mem_iff.2 hy) h1 h2) hl.pw2 hm.pw2 hp
end Go.Proofs.YtdhaanaenklleaaGreatDoor
