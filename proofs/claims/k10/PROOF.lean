import PyProof.Rows.All
import Wide.All
import OpenK.AllK
import Wide.FinOn
import HandS.ForMost
import HandS.Defaults
import HandS.Walk
import PySem.Challenge.RW_weirkeepers_k10_whole_rounds_shrunk
import PySem.Str
import HandS.DictComp
import HandS.IsInst
import HandS.Flow
import KE.GoesEnum
import HandS.TupSets
import HandS.IterVal
import HandS.OwnEq
import KE.KOwnIter
import HandS.TupAny
import HandS.Strs
import KE.GoesMore
import HandS.SortRule
import KE.KDictPairs
import HandS.SetFor
import PyProof.SeqRoads2
import KE.DataMinMax
import HandS.Deep
import HandS.TupLe
import KE.KRevSl
import HandS.TupMul
import HandS.More
import HandS.Style
import KE.KStateDown
import Lean
import HandS.Ends
import HandS.Words
import HandS.WordsExc
import HandS.Head0
import HandS.Head1
import HandS.Head2
import HandS.HeadEnd
import HandS.HeadHook1
import HandS.HeadHook2
import HandS.HeadHook3
import HandS.HeadHook4
import HandS.HeadWalk

section
set_option Elab.async false
set_option linter.all false
set_option maxRecDepth 100000
namespace K0
open PySem PySem.Spec PyProof.Rows L2
/-! ### the text by places -/
def top (i : Nat) : Stmt := PySem.Challenge.pw_weirkeepers_k10_whole_rounds_shrunk.main.body.getD i (.Pass ⟨0, 0, 0, 0⟩)
abbrev sNeed : Stmt := top 9
abbrev sNeedR : Stmt := top 10
abbrev sNeedDiff : Stmt := top 11
abbrev sFirstFree : Stmt := top 13
abbrev sLine : Stmt := top 14
abbrev sTurned : Stmt := top 15
abbrev sRingAt : Stmt := top 16
abbrev sFirstRing : Stmt := top 17
abbrev sLineUp : Stmt := top 18
abbrev sAllFollow : Stmt := top 19
abbrev sGoesRound : Stmt := top 20
abbrev sDeepestN : Stmt := top 21
abbrev sShrunkOnce : Stmt := top 22
abbrev sShrunk : Stmt := top 23
abbrev sIsName : Stmt := top 28
abbrev sIsRow : Stmt := top 29
abbrev sNeedRows : Stmt := top 31
abbrev sCourse : Stmt := top 33
abbrev sFind : Stmt := top 34
abbrev sAbove : Stmt := top 35
abbrev sUp : Stmt := top 36
abbrev sOrder : Stmt := top 37
abbrev sRiver : Stmt := top 38
abbrev sIsRowR : Stmt := top 40
abbrev sNeedRowsR : Stmt := top 42
abbrev sRights : Stmt := top 44
abbrev sBag : Stmt := top 46
abbrev sTake : Stmt := top 47
abbrev sOf : Stmt := top 48
abbrev sMixed : Stmt := top 49
abbrev sNames : Stmt := top 50
abbrev sLRiver : Stmt := top 51
abbrev sLCourse : Stmt := top 52
abbrev sRNames : Stmt := top 53
abbrev sLRights : Stmt := top 54
abbrev sLWay : Stmt := top 55
abbrev sLMeets : Stmt := top 56
abbrev sLDrawn : Stmt := top 57
abbrev sLAhead : Stmt := top 58
abbrev sLIsRound : Stmt := top 59
abbrev sLNext : Stmt := top 60
abbrev sLShrunkR : Stmt := top 61
abbrev sLRounds : Stmt := top 62
abbrev sLaw : Stmt := top 63
abbrev FnP (K : PySem.W.Frag) (x : Str) (st : Stmt) (f : Addr) (fd : FuncData) : Prop := FunD K x x (defArgs st) (defBody st) (defScope st) [] [] f fd
abbrev FnM (K : PySem.W.Frag) (x q : Str) (st : Stmt) (f : Addr) (fd : FuncData) : Prop := FunD K x q (defArgs st) (defBody st) (defScope st) [] [] f fd
/-! ### heaps -/
/-- all that was tracked is as it was, but what stands at p -/
def Upto (p : Addr) (H H' : Hp) : Prop := ∀ b o, H b = some o → b ≠ p → H' b = some o
theorem Upto.refl {p : Addr} {H : Hp} : Upto p H H := fun _ _ h _ => h
theorem Upto.trans {p : Addr} {H H1 H2 : Hp} (a : Upto p H H1) (b : Upto p H1 H2) : Upto p H H2 := fun c o h n => b c o (a c o h n) n
theorem Upto.of {p : Addr} {H H' : Hp} (s : Same H H') : Upto p H H' := fun b o h _ => s b o h
theorem Upto.at_ {p : Addr} {H : Hp} {o : HO} : Upto p H (upd H p o) := fun b u h n => by rw [upd_ne n]; exact h
theorem same_upd {H : Hp} {p : Addr} {o : HO} (h : H p = none) : Same H (upd H p o) := fun b x e => by
  rw [upd_ne (ne_of_none e h)]
  exact e
theorem Upto.seq {K : PySem.W.Frag} {p : Addr} {H H' : Hp} {a : Addr} {xs : List V} (e : Upto p H H') (n : a ≠ p) (h : SqL K H a xs) : SqL K H' a xs := by
  rcases h with (h | ⟨o, h⟩) | h
  · exact .inl (.inl (e _ _ h n))
  · exact .inl (.inr ⟨o, e _ _ h n⟩)
  · exact .inr h
/-- the bag: two whole numbers from 0 on -/
def BagV (xs : List V) : Prop := ∃ x y : Int, xs = [.int x, .int y] ∧ 0 ≤ x ∧ 0 ≤ y ∧ y < 2147483648
def BagAt (H : Hp) (p : Addr) : Prop := ∃ xs, H p = some (.lst xs) ∧ BagV xs
/-! ### promises of the law's own helpers -/
def spBag (K : PySem.W.Frag) : Sp := fun vs H Q _ => ∃ (a : Addr) (ns : List Int) (i z : Int), vs = [.ref a, .int i, .int z] ∧ SqL K H a (ns.map V.int) ∧ ns.length ≤ 63 ∧ 0 ≤ i ∧ i ≤ 100 ∧ 0 ≤ z ∧ z ≤ 100000000 ∧
  ∀ H' p, Same H H' → H p = none → BagAt H' p → Q (.ref p) H'
def spTake : Sp := fun vs H Q _ => ∃ (p : Addr) (m : Int), vs = [.ref p, .int m] ∧ BagAt H p ∧ 0 < m ∧ m < 1000000 ∧
  ∀ (r : Int) (xs : List V), 0 ≤ r → r < m → BagV xs → Q (.int r) (upd H p (.lst xs))
def spOf (K : PySem.W.Frag) : Sp := fun vs H Q _ => ∃ (p a : Addr) (ys : List V), vs = [.ref p, .ref a] ∧ BagAt H p ∧ a ≠ p ∧ SqL K H a ys ∧ 0 < ys.length ∧ ys.length ≤ 1000 ∧
  ∀ (i : Nat) (v : V) (xs : List V), ys[i]? = some v → BagV xs → Q v (upd H p (.lst xs))
def spMixed (K : PySem.W.Frag) : Sp := fun vs H Q _ => ∃ (p a : Addr) (ys : List V), vs = [.ref p, .ref a] ∧ BagAt H p ∧ a ≠ p ∧ SqL K H a ys ∧ ys.length ≤ 1000 ∧
  ∀ (H' : Hp) (l : Addr) (zs : List V), Upto p H H' → BagAt H' p → H l = none → l ≠ p → H' l = some (.lst zs) → zs.Perm ys → Q (.ref l) H'
section
variable {P : Program} {w : World} {K : PySem.W.Frag} {mg : Str → Option Value} {base : Heap}
theorem scBag : FnScope ["_law_script", "_law_at", "_law_salt", "_law_cell", "_law_blend", "_law_k", "_law_each"] ["_law_script", "_law_at", "_law_salt"] (defScope sBag) := ⟨rfl, rfl, rfl, by decide +kernel, rfl, by decide +kernel, by decide +kernel⟩
theorem scTake : FnScope ["_law_bag_here", "_law_many", "_law_digit"] ["_law_bag_here", "_law_many"] (defScope sTake) := ⟨rfl, rfl, rfl, by decide +kernel, rfl, by decide +kernel, by decide +kernel⟩
theorem scOf : FnScope ["_law_bag_here", "_law_some"] ["_law_bag_here", "_law_some"] (defScope sOf) := ⟨rfl, rfl, rfl, by decide +kernel, rfl, by decide +kernel, by decide +kernel⟩
theorem scMixed : FnScope ["_law_bag_here", "_law_some", "_law_rest", "_law_found", "_law_k"] ["_law_bag_here", "_law_some"] (defScope sMixed) := ⟨rfl, rfl, rfl, by decide +kernel, rfl, by decide +kernel, by decide +kernel⟩
/-- built-in names that the module leaves alone -/
structure Bl (mg : Str → Option Value) : Prop where
  len : mg "len" = none
  enumerate : mg "enumerate" = none
  int : mg "int" = none
  abs : mg "abs" = none
  list : mg "list" = none
  range : mg "range" = none
  dict : mg "dict" = none
  tuple : mg "tuple" = none
  isinstance : mg "isinstance" = none
  str : mg "str" = none
  all : mg "all" = none
  any : mg "any" = none
  bool : mg "bool" = none
  sorted : mg "sorted" = none
  max : mg "max" = none
  min : mg "min" = none
  iter : mg "iter" = none
  super : mg "super" = none
  valueError : mg "ValueError" = none
end
end K0
end
section
set_option Elab.async false
set_option linter.all false
set_option maxRecDepth 100000
namespace K0
open PySem PySem.Spec PyProof.Rows L2
section
variable {P : Program} {w : World} {K : PySem.W.Frag} {mg : Str → Option Value} {base : Heap}
theorem mod_ok (x : Int) {m : Int} (h : 0 < m) : 0 ≤ x % m ∧ x % m < m := ⟨Int.emod_nonneg _ (by omega), Int.emod_lt_of_pos _ h⟩
theorem perm_move {α : Type} {rs fs : List α} {j : Nat} (hj : j < rs.length) : (rs.eraseIdx j ++ (fs ++ [rs[j]])).Perm (rs ++ fs) := by
  have h1 : (rs[j] :: rs.eraseIdx j).Perm rs := by
    have e : rs = rs.take j ++ rs[j] :: rs.drop (j + 1) := by
      rw [List.getElem_cons_drop, List.take_append_drop]
    rw [List.eraseIdx_eq_take_drop_succ]
    refine List.Perm.trans List.perm_middle.symm ?_
    rw [← e]
  have h2 : (rs.eraseIdx j ++ (fs ++ [rs[j]])).Perm ([rs[j]] ++ (rs.eraseIdx j ++ fs)) := by
    rw [← List.append_assoc]
    exact List.perm_append_comm
  exact h2.trans ((h1.append_right fs))
theorem ok_take {f : Addr} {fd : FuncData} (F : FnP K "_law_take" sTake f fd) (B : Bl mg) : FnOk P w K mg base CX0 1 f fd ["_law_bag_here", "_law_many"] spTake := by
  refine F.ok scTake (fun vs H Q E h => ?_) (fun cdv A outer s H vs Q E hr h => ?_)
  · obtain ⟨p, m, rfl, _⟩ := h
    rfl
  · obtain ⟨p, m, rfl, ⟨xs, hp, x, y, rfl, hx, hy, hy2⟩, hm, hm2, k⟩ := h
    refine ⟨_, PSs.nox (pss_cons (ps_if (pt_cmpR op_gt (pe_ix ix_list (pv 0) pe_int (fun _ _ => rfl)) pe_int (nomark _))
        (pss_cons (ps_set (i := 2) scTake.nd rfl (Or.inl rfl) (pe_op op_mod (pe_callTy call_int1 (by rfl) B.int (by decide +kernel) (pa_cons (pe_ix ix_list (pv 0) pe_int (fun _ _ => rfl)) pa_nil)) (pv 1)))
        (pss_cons (ps_asg (pe_op op_fdiv (pe_ix ix_list (pv 0) pe_int (fun _ _ => rfl)) (pv 1)) (pg_sub (pv 0) pe_int set_list))
        (pss_one (ps_ret (pv 2))))) pss_nil)
      (pss_cons (ps_asg (pe_op op_mod (pe_callTy call_int1 (by rfl) B.int (by decide +kernel) (pa_cons (pe_op op_add (pe_op op_mul (pe_ix ix_list (pv 0) pe_int (fun _ _ => rfl)) pe_int) pe_int) pa_nil)) pe_int) (pg_sub (pv 0) pe_int set_list))
      (pss_one (ps_ret (pe_op op_mod (pe_op op_fdiv (pe_op op_mod (pe_callTy call_int1 (by rfl) B.int (by decide +kernel) (pa_cons (pe_op op_mul (pe_op op_fdiv (pe_ix ix_list (pv 0) pe_int (fun _ _ => rfl)) pe_int) pe_int) pa_nil)) pe_int) pe_int) (pv 1)))))), ?_⟩
    have g0 : SqL K H p [.int x, .int y] := .inl (.inl hp)
    refine ⟨_, rfl, p, _, _, _, rfl, rfl, g0, atI_nat (j := 0) rfl, x, 0, rfl, rfl, _, rfl, ?_⟩
    refine ite2 (fun hx0 => ?_) (fun hx0 => ?_)
    · have r1 := mod_ok x hm
      refine ⟨_, rfl, p, _, _, _, rfl, rfl, g0, atI_nat (j := 0) rfl, .inl ⟨x, rfl, _, rfl, x, m, rfl, rfl, hm, ?_⟩⟩
      refine ⟨_, rfl, p, _, _, _, rfl, rfl, g0, atI_nat (j := 0) rfl, _, rfl, x, m, rfl, rfl, ⟨hm, by omega⟩, _, rfl, p, _, 0, 0, rfl, rfl, hp, rfl, ?_⟩
      refine ⟨_, rfl, ?_⟩
      exact k (x % m) [.int (x / m), .int y] r1.1 r1.2 ⟨x / m, y, rfl, Int.ediv_nonneg hx (by omega), hy, hy2⟩
    · have r1 := mod_ok (y * 38177 + 4001) (m := 2147483587) (by decide)
      refine ⟨_, rfl, p, _, _, _, rfl, rfl, g0, atI_nat (j := 1) rfl, y, 38177, rfl, rfl, .inl ⟨by omega, by omega⟩, _, _, rfl, rfl, .inl ⟨_, rfl, _, _, rfl, rfl, (by show (0 : Int) < 2147483587; decide), _, rfl, p, _, 1, 1, rfl, rfl, hp, rfl, ?_⟩⟩
      have gz : (upd H p (.lst (([V.int x, .int y] : List V).set 1 (.int ((y * 38177 + 4001) % 2147483587))))) p = some (.lst [.int x, .int ((y * 38177 + 4001) % 2147483587)]) := upd_same
      refine ⟨_, rfl, p, _, _, _, rfl, rfl, .inl (.inl gz), atI_nat (j := 1) rfl, _, 11, rfl, rfl, ⟨by decide, by decide⟩, _, 52817, rfl, rfl, .inl ⟨by omega, by omega⟩, .inl ⟨_, rfl, _, _, rfl, rfl, (by show (0 : Int) < 2147483629; decide), _, _, rfl, rfl, ⟨by decide, by decide⟩, _, rfl, _, m, rfl, rfl, hm, ?_⟩⟩
      have r2 := mod_ok ((y * 38177 + 4001) % 2147483587 / 11 * 52817 % 2147483629 / 32) hm
      exact k _ _ r2.1 r2.2 ⟨x, _, rfl, hx, r1.1, by omega⟩
theorem ok_of {f fT : Addr} {fd fdT : FuncData} (F : FnP K "_law_of" sOf f fd) (FT : FnP K "_law_take" sTake fT fdT) (B : Bl mg) (gT : mg "_law_take" = some (.ref fT)) : FnOk P w K mg base CX0 2 f fd ["_law_bag_here", "_law_some"] (spOf K) := by
  have GT : FnOk P w K mg base CX0 1 fT fdT ["_law_bag_here", "_law_many"] spTake := ok_take FT B
  have bT : Binds K fdT ["_law_bag_here", "_law_many"] [] := FT.bindsN fun _ _ _ _ _ _ us hl => match us, hl with | [_, _], _ => rfl
  refine F.ok scOf (fun vs H Q E h => ?_) (fun cdv A outer s H vs Q E hr h => ?_)
  · obtain ⟨p, a, ys, rfl, _⟩ := h
    rfl
  · obtain ⟨p, a, ys, rfl, hB, hne, hS, h0, h1, k⟩ := h
    refine ⟨_, PSs.nox (pss_one (ps_ret (pe_ix ix_list (pv 1) (pe_call GT hr (by rfl) gT FT.kp bT .nil pass0 (pa_cons (pv 0) (pa_cons (pe_callB call_len_seq (by rfl) B.len PySem.boot_len (pa_cons (pv 1) pa_nil)) pa_nil))) (fun _ _ => rfl)))), ?_⟩
    refine ⟨_, rfl, _, rfl, _, rfl, a, ys, rfl, .inl hS, p, (ys.length : Int), rfl, hB, by omega, by omega, fun r xs hr0 hr1 hx => ?_⟩
    obtain ⟨j, rfl⟩ : ∃ j : Nat, r = (j : Int) := ⟨r.toNat, by omega⟩
    have hj : j < ys.length := by omega
    refine ⟨a, ys, _, ys[j], rfl, rfl, ?_, atI_nat (j := j) (List.getElem?_eq_getElem hj), k j _ xs (List.getElem?_eq_getElem hj) hx⟩
    exact (Upto.at_ (p := p)).seq hne hS
theorem ok_mixed {f fT : Addr} {fd fdT : FuncData} (F : FnP K "_law_mixed" sMixed f fd) (FT : FnP K "_law_take" sTake fT fdT) (B : Bl mg) (gT : mg "_law_take" = some (.ref fT)) : FnOk P w K mg base CX0 2 f fd ["_law_bag_here", "_law_some"] (spMixed K) := by
  have GT : FnOk P w K mg base CX0 1 fT fdT ["_law_bag_here", "_law_many"] spTake := ok_take FT B
  have bT : Binds K fdT ["_law_bag_here", "_law_many"] [] := FT.bindsN fun _ _ _ _ _ _ us hl => match us, hl with | [_, _], _ => rfl
  refine F.ok scMixed (fun vs H Q E h => ?_) (fun cdv A outer s H vs Q E hr h => ?_)
  · obtain ⟨p, a, ys, rfl, _⟩ := h
    rfl
  · obtain ⟨p, a, ys, rfl, hB, hne, hS, h1, k⟩ := h
    refine ⟨_, PSs.nox (pss_cons (ps_par (i := 2) (j := 3) (by rfl) scMixed.nd rfl rfl (by decide) rfl rfl (pa_cons (pe_callTy call_list_of (by rfl) B.list (by decide +kernel) (pa_cons (pv 1) pa_nil)) (pa_cons (pe_lst pa_nil) pa_nil)) (by rfl))
      (pss_cons (ps_for PassesOwn.never rfl (pi_range1 (by rfl) B.range (pa_cons (pe_callB call_len_seq (by rfl) B.len PySem.boot_len (pa_cons (pv 1) pa_nil)) pa_nil)) (pg_name (i := 4) scMixed.nd rfl (Or.inl rfl))
        (pss_one (ps_expr (pe_bm PySem.F.plainAttrs_list PySem.F.slot_list_append PySem.F.type_list_append mt_append (pv 3)
          (pa_cons (pe_bm PySem.F.plainAttrs_list PySem.F.slot_list_pop PySem.F.type_list_pop mt_popAt (pv 2)
            (pa_cons (pe_call GT hr (by rfl) gT FT.kp bT .nil pass0 (pa_cons (pv 0) (pa_cons (pe_callB call_len_seq (by rfl) B.len PySem.boot_len (pa_cons (pv 2) pa_nil)) pa_nil))) pa_nil)) pa_nil)))))
      (pss_one (ps_ret (pv 3))))), ?_⟩
    refine ⟨_, rfl, a, ys, rfl, .inl hS, fun r nr => ⟨Nat.zero_le _, fun l nl => ?_⟩⟩
    have nrl : r ≠ l := ne_of_none upd_same nl
    have nl0 : H l = none := by
      rw [upd_ne nrl.symm] at nl
      exact nl
    obtain ⟨b0, hb0, hv0⟩ := id hB
    have npr : p ≠ r := ne_of_none hb0 nr
    have npl : p ≠ l := ne_of_none hb0 nl0
    have s1 : Same H (upd (upd H r (.lst ys)) l (.lst [])) := (same_upd nr).trans (same_upd nl)
    refine ⟨_, _, rfl, ?_⟩
    refine ⟨_, rfl, a, ys, rfl, .inl (s1.seq hS), (ys.length : Int), rfl, by omega, by omega, ?_⟩
    refine for_range (n := ys.length) (lo := 0) (fun i σ H2 => ∃ (v : Option V) (rs fs : List V), σ = [some (.ref p), some (.ref a), some (.ref r), some (.ref l), v] ∧ Upto p H H2 ∧ BagAt H2 p ∧ H2 r = some (.lst rs) ∧ H2 l = some (.lst fs) ∧ fs.length = i ∧ (rs ++ fs).Perm ys)
      ⟨none, ys, [], rfl, .of s1, ⟨b0, by rw [upd_ne npl, upd_ne npr]; exact hb0, hv0⟩, by rw [upd_ne nrl, upd_same], upd_same, rfl, by rw [List.append_nil]⟩ ?_ ?_
    · rintro i σ H2 hi ⟨v, rs, fs, rfl, u2, B2, hr2, hl2, hlen, hp⟩
      have hlr : rs.length + fs.length = ys.length := by
        have := hp.length_eq
        rw [List.length_append] at this
        exact this
      refine ⟨_, rfl, .inl ⟨rfl, _, .inl (.inl hl2)⟩, _, rfl, .inl ⟨rfl, _, .inl (.inl hr2)⟩, _, rfl, _, rfl, r, rs, rfl, .inl (.inl (.inl hr2)), p, (rs.length : Int), rfl, B2, by omega, by omega, fun d xs hd0 hd1 hx => ?_⟩
      obtain ⟨j, rfl⟩ : ∃ j : Nat, d = (j : Int) := ⟨d.toNat, by omega⟩
      have hj : j < rs.length := by omega
      refine ⟨r, rs, j, j, rs[j], rfl, rfl, by rw [upd_ne npr.symm]; exact hr2, by omega, by omega, ?_, List.getElem?_eq_getElem hj, ?_⟩
      · rw [seqIndex_of (by omega) (by omega)]
        rfl
      · refine ⟨l, fs, rs[j], rfl, rfl, by rw [upd_ne nrl.symm, upd_ne npl.symm]; exact hl2, small1000 (by omega), ?_⟩
        refine ⟨_, rs.eraseIdx j, fs ++ [rs[j]], rfl, ?_, ⟨xs, by rw [upd_ne npl, upd_ne npr, upd_same], hx⟩, by rw [upd_ne nrl, upd_same], upd_same, by simp [hlen], ?_⟩
        · intro b o hb hn
          rw [upd_ne (ne_of_none hb nl0), upd_ne (ne_of_none hb nr), upd_ne hn]
          exact u2 b o hb hn
        · refine List.Perm.trans ?_ hp
          exact perm_move hj
    · rintro σ H2 ⟨v, rs, fs, rfl, u2, B2, hr2, hl2, hlen, hp⟩
      have hlr : rs.length + fs.length = ys.length := by
        have := hp.length_eq
        rw [List.length_append] at this
        exact this
      have e : rs = [] := List.eq_nil_of_length_eq_zero (by omega)
      subst e
      exact ⟨_, rfl, k H2 l fs u2 B2 nl0 npl.symm hl2 hp⟩
end
end K0
end
section
set_option Elab.async false
set_option linter.all false
set_option maxRecDepth 100000
namespace K0
open PySem PySem.Spec PyProof.Rows L2
theorem split_if {α : Type} {C : α → Prop} {G : Prop} (use : (∀ c, C c) → G) (key : ∀ c, C c) : G := use key
section
variable {P : Program} {w : World} {K : PySem.W.Frag} {mg : Str → Option Value} {base : Heap}
theorem cutV_sub {xs : List V} {a b : Option Int} {v : V} (h : v ∈ cutV xs a b) : v ∈ xs := by
  unfold cutV at h
  exact List.mem_of_mem_drop (List.mem_of_mem_take h)
theorem cutV_len {xs : List V} {a b : Option Int} : (cutV xs a b).length ≤ xs.length := by
  unfold cutV
  rw [List.length_take, List.length_drop]
  omega
theorem ok_bag {f : Addr} {fd : FuncData} (F : FnP K "_law_bag" sBag f fd) (B : Bl mg) : FnOk P w K mg base CX0 1 f fd ["_law_script", "_law_at", "_law_salt"] (spBag K) := by
  refine F.ok scBag (fun vs H Q E h => ?_) (fun cdv A outer s H vs Q E hr h => ?_)
  · obtain ⟨a, ns, i, z, rfl, _⟩ := h
    rfl
  · obtain ⟨a, ns, i, z, rfl, hS, hl, hi, hi2, hz, hz2, k⟩ := h
    refine ⟨_, PSs.nox (pss_cons
      (ps_set (i := 3) scBag.nd rfl (Or.inl rfl) (pe_ifExp (pt_cmpR op_lt (pv 1) (pe_callB call_len_seq (by rfl) B.len PySem.boot_len (pa_cons (pv 0) pa_nil)) (nomark _)) (pe_ix ix_list (pv 0) (pv 1) (fun _ _ => rfl)) pe_int))
      (pss_cons
      (ps_set (i := 4) scBag.nd rfl (Or.inl rfl) (pe_op op_add (pv 2) (pe_op op_mul pe_int (pv 1))))
      (pss_cons
      (ps_for PassesOwn.never rfl (pi_enum (by rfl) B.enumerate (pa_cons (pe_slice sl_list (pv 0) po_none (po_some pe_int)) pa_nil)) (pg_tup (by rfl) (pgs_cons (pg_name (i := 5) scBag.nd rfl (Or.inl rfl)) (pgs_cons (pg_name (i := 6) scBag.nd rfl (Or.inl rfl)) pgs_nil))) (pss_one
      (ps_set (i := 4) scBag.nd rfl (Or.inl rfl) (pe_op op_mod (pe_callTy call_int1 (by rfl) B.int (by decide +kernel) (pa_cons (pe_op op_add (pe_op op_add (pe_op op_add (pe_op op_mul (pv 4) pe_int) (pe_op op_mod (pe_callTy call_int1 (by rfl) B.int (by decide +kernel) (pa_cons (pv 6) pa_nil)) pe_int)) (pe_op op_mul pe_int (pv 5))) pe_int) pa_nil)) pe_int))))
      (pss_one
      (ps_ret (pe_lst (pa_cons (pe_ifExp (pt_cmpR op_ge (pe_callB call_abs (by rfl) B.abs (by decide +kernel) (pa_cons (pv 3) pa_nil)) (pe_op op_pow pe_int pe_int) (nomark _)) (pe_callB call_abs (by rfl) B.abs (by decide +kernel) (pa_cons (pv 3) pa_nil)) pe_int) (pa_cons (pv 4) pa_nil)))))))), ?_⟩
    refine ⟨_, rfl, _, rfl, a, _, rfl, .inl hS, i, (((ns.map V.int).length : Nat) : Int), rfl, rfl, _, rfl, ?_⟩
    refine split_if (α := Int) (C := ?C) ?use ?key
    case use =>
      intro key
      refine ite2 (fun hc => ?_) (fun hc => ?_)
      · have hc := of_decide_eq_true hc
        obtain ⟨j, ej⟩ : ∃ j : Nat, i = (j : Int) := ⟨i.toNat, by omega⟩
        rw [List.length_map] at hc
        have hj : j < ns.length := by omega
        obtain ⟨c, hcv⟩ : ∃ c : Int, (ns.map V.int)[j]? = some (.int c) := ⟨ns[j], by rw [List.getElem?_map, List.getElem?_eq_getElem hj]; rfl⟩
        refine ⟨_, rfl, _, rfl, a, _, _, _, rfl, rfl, hS, at_of ej hcv, ?_⟩
        exact key c
      · exact key 0
    case key =>
      intro c
      refine ⟨_, rfl, _, rfl, 1009, i, rfl, rfl, .inl ⟨by decide, by decide⟩, z, _, rfl, rfl, ?_⟩
      refine ⟨_, rfl, 63, rfl, a, _, rfl, hS, fun q nq => ⟨q, _, rfl, .inl (.inl upd_same), ?_⟩⟩
      refine for_it (walk_enum (xs := cutV (ns.map V.int) none (some 63))) (fun t σ H2 => ∃ (b : Int) (v1 v2 : Option V), σ = [some (.ref a), some (.int i), some (.int z), some (.int c), some (.int b), v1, v2] ∧ 0 ≤ b ∧ b < 2147483648 ∧ Same H H2 ∧ H2 q = some (.lst (cutV (ns.map V.int) none (some 63))))
        ⟨_, none, none, rfl, by omega, by omega, same_upd nq, upd_same⟩ (fun _ _ _ _ h => by obtain ⟨_, _, _, _, _, _, _, e⟩ := h; exact .inl (.inl e)) ?_ ?_
      · rintro t x σ H2 H3 ht ⟨b, v1, v2, rfl, hb0, hb1, sm, hq⟩ ⟨T, x1, x2, rfl, hT, rfl, e1, e2⟩
        have nq2 : q ≠ T := ne_of_none hq hT
        have ex1 : x1 = .int (t : Int) := (Option.some.inj e1).symm
        have hx2 : ∃ y : Int, x2 = .int y := by
          obtain ⟨y, _, ey⟩ := List.mem_map.mp (cutV_sub (List.mem_of_getElem? e2))
          exact ⟨y, ey.symm⟩
        obtain ⟨y, rfl⟩ := hx2
        subst ex1
        have ht' : t < 63 := by
          have h1 := cutV_len (xs := ns.map V.int) (a := none) (b := some 63)
          rw [List.length_map] at h1
          omega
        have r1 := mod_ok y (m := 2147483549) (by decide)
        have r2 := mod_ok (b * 44497 + y % 2147483549 + 71 * (t : Int) + 9) (m := 2147483549) (by decide)
        refine ⟨T, _, rfl, .inl (.inl upd_same), rfl, _, _, rfl, _, _, rfl, rfl, ?_⟩
        refine ⟨_, rfl, b, 44497, rfl, rfl, .inl ⟨by omega, by omega⟩, _, rfl, .inl ⟨y, rfl, _, _, rfl, rfl, (by show (0 : Int) < 2147483549; decide), _, _, rfl, rfl, ?_⟩⟩
        refine ⟨_, rfl, 71, (t : Int), rfl, rfl, .inl ⟨by decide, by decide⟩, _, _, rfl, rfl, _, _, rfl, rfl, .inl ⟨_, rfl, _, _, rfl, rfl, (by show (0 : Int) < 2147483549; decide), ?_⟩⟩
        refine ⟨_, _, _, rfl, r2.1, by omega, sm.trans (same_upd hT), ?_⟩
        rw [upd_ne nq2]
        exact hq
      · rintro σ H2 ⟨b, v1, v2, rfl, hb0, hb1, sm, hq⟩
        refine ⟨_, rfl, c, rfl, 10, 18, rfl, rfl, ⟨by decide, by decide, by decide⟩, _, _, rfl, rfl, _, rfl, ?_⟩
        have fin : ∀ (g : Int) (p : Addr), 0 ≤ g → H2 p = none → Q (.ref p) (upd H2 p (.lst [.int g, .int b])) := fun g p hg np =>
          k _ p (sm.trans (same_upd np)) (sm.free np) ⟨_, upd_same, g, b, rfl, hg, hb0, hb1⟩
        refine ite2 (fun _ => ?_) (fun _ => ?_)
        · refine ⟨_, rfl, c, rfl, _, rfl, by show 2 ≤ sizeLine; decide, fun p np => ?_⟩
          exact fin _ p (by split <;> omega) np
        · refine ⟨_, rfl, by show 2 ≤ sizeLine; decide, fun p np => ?_⟩
          exact fin 0 p (by omega) np
end
end K0
end
section
set_option linter.all false
namespace K0
open PySem
/-! ### names -/
def Low (c : Nat) : Prop := 97 ≤ c ∧ c ≤ 122
structure NameOk (x : Str) : Prop where
  one : 1 ≤ x.cps.toList.length
  most : x.cps.toList.length ≤ 8
  low : ∀ c ∈ x.cps.toList, Low c
theorem str_ext {x y : Str} (h : x.cps.toList = y.cps.toList) : x = y := by
  cases x with | mk a => cases y with | mk b =>
  have e : a = b := Array.ext' h
  rw [e]
theorem app_list (x y : Str) : (x ++ y).cps.toList = x.cps.toList ++ y.cps.toList := Array.toList_append
/-- the k-th mark, many names being asked for -/
def markL (many start k : Nat) : List Nat := [97 + (start + 5 * k) % 26] ++ (if 26 < many then [97 + k / 26] else [])
def shapeL (base mark : List Nat) (k : Nat) : Nat → List Nat
  | 0 => base ++ mark
  | 1 => mark ++ base
  | 2 => mark ++ base.take (k % (base.length + 1))
  | _ => base.take 1 ++ mark ++ base.drop 1
def seaL : List Nat := [115, 101, 97]
def seasL : List Nat := [115, 101, 97, 115]
def fixL (l : List Nat) : List Nat := if l = seaL then seasL else l
theorem markL_len (many start k : Nat) : (markL many start k).length = if 26 < many then 2 else 1 := by
  unfold markL
  split <;> rfl
theorem markL_inj {many start k j : Nat} (hm : many ≤ 52) (hk : k < many) (hj : j < many) (h : markL many start k = markL many start j) : k = j := by
  unfold markL at h
  have h1 := (List.cons_eq_cons.mp h).1
  by_cases c : 26 < many
  · have h2 := (List.cons_eq_cons.mp h).2
    rw [if_pos c, if_pos c] at h2
    have h3 := (List.cons_eq_cons.mp h2).1
    omega
  · omega
theorem markL_low {many start k : Nat} (hm : many ≤ 52) (hk : k < many) : ∀ c ∈ markL many start k, Low c := by
  intro c hc
  unfold markL at hc
  rcases List.mem_append.mp hc with h | h
  · rw [List.mem_singleton.mp h]
    constructor <;> omega
  · split at h
    · rw [List.mem_singleton.mp h]
      constructor <;> omega
    · cases h
theorem shape_mark {base m1 m2 : List Nat} {k j : Nat} {s : Nat} (hl : m1.length = m2.length) (h : shapeL base m1 k s = shapeL base m2 j s) : m1 = m2 := by
  match s, h with
  | 0, h => exact List.append_cancel_left h
  | 1, h => exact List.append_cancel_right h
  | 2, h => exact List.append_inj_left h hl
  | s + 3, h =>
    have h : base.take 1 ++ m1 ++ base.drop 1 = base.take 1 ++ m2 ++ base.drop 1 := h
    exact List.append_cancel_left (List.append_cancel_right h)
theorem shape_len {base m1 m2 : List Nat} {k j : Nat} {s : Nat} (hl : m1.length = m2.length) (hs : s ≠ 2) : (shapeL base m1 k s).length = (shapeL base m2 j s).length := by
  match s, hs with
  | 0, _ => simp [shapeL, hl]
  | 1, _ => simp [shapeL, hl]
  | s + 3, _ => simp [shapeL, hl]
theorem fix_mark {base : List Nat} {many start k j s : Nat} (h : fixL (shapeL base (markL many start k) k s) = fixL (shapeL base (markL many start j) j s)) : markL many start k = markL many start j := by
  have hl : (markL many start k).length = (markL many start j).length := by rw [markL_len, markL_len]
  have mixed : ∀ {k j : Nat}, shapeL base (markL many start k) k s = seaL → shapeL base (markL many start j) j s = seasL → markL many start k = markL many start j := by
    intro k j e1 e2
    have hl : (markL many start k).length = (markL many start j).length := by rw [markL_len, markL_len]
    by_cases hs : s = 2
    · subst hs
      have e1 : markL many start k ++ base.take (k % (base.length + 1)) = seaL := e1
      have e2 : markL many start j ++ base.take (j % (base.length + 1)) = seasL := e2
      have t1 : markL many start k = seaL.take (markL many start k).length := by rw [← e1, List.take_left']; rfl
      have t2 : markL many start j = seasL.take (markL many start j).length := by rw [← e2, List.take_left']; rfl
      rw [t1, t2, ← hl, markL_len]
      split <;> rfl
    · have q := shape_len (base := base) (k := k) (j := j) hl hs
      rw [e1, e2] at q
      exact absurd q (by decide)
  unfold fixL at h
  by_cases c1 : shapeL base (markL many start k) k s = seaL
  · rw [if_pos c1] at h
    by_cases c2 : shapeL base (markL many start j) j s = seaL
    · exact shape_mark hl (c1.trans c2.symm)
    · rw [if_neg c2] at h
      exact mixed c1 h.symm
  · rw [if_neg c1] at h
    by_cases c2 : shapeL base (markL many start j) j s = seaL
    · rw [if_pos c2] at h
      exact (mixed c2 h).symm
    · rw [if_neg c2] at h
      exact shape_mark hl h
theorem fix_inj {base : List Nat} {many start k j s : Nat} (hm : many ≤ 52) (hk : k < many) (hj : j < many) (h : fixL (shapeL base (markL many start k) k s) = fixL (shapeL base (markL many start j) j s)) : k = j :=
  markL_inj hm hk hj (fix_mark h)
theorem fix_ne (l : List Nat) : fixL l ≠ seaL := by
  unfold fixL
  split
  · decide
  · assumption
theorem shape_low {base mark : List Nat} {k s : Nat} (hb : ∀ c ∈ base, Low c) (hm : ∀ c ∈ mark, Low c) : ∀ c ∈ shapeL base mark k s, Low c := by
  have app : ∀ {a b : List Nat}, (∀ c ∈ a, Low c) → (∀ c ∈ b, Low c) → ∀ c ∈ a ++ b, Low c := fun h1 h2 c hc => (List.mem_append.mp hc).elim (h1 c) (h2 c)
  match s with
  | 0 => exact app hb hm
  | 1 => exact app hm hb
  | 2 => exact app hm fun c hc => hb c (List.mem_of_mem_take hc)
  | s + 3 => exact app (app (fun c hc => hb c (List.mem_of_mem_take hc)) hm) fun c hc => hb c (List.mem_of_mem_drop hc)
theorem shape_size {base mark : List Nat} {k s : Nat} (hb : base.length ≤ 6) (hm : 1 ≤ mark.length ∧ mark.length ≤ 2) : 1 ≤ (shapeL base mark k s).length ∧ (shapeL base mark k s).length ≤ 8 := by
  match s with
  | 0 => simp only [shapeL, List.length_append]; omega
  | 1 => simp only [shapeL, List.length_append]; omega
  | 2 => simp only [shapeL, List.length_append, List.length_take]; omega
  | s + 3 => simp only [shapeL, List.length_append, List.length_take, List.length_drop]; omega
theorem fix_low {l : List Nat} (h : ∀ c ∈ l, Low c) : ∀ c ∈ fixL l, Low c := by
  unfold fixL
  split
  · intro c hc
    have : c = 115 ∨ c = 101 ∨ c = 97 ∨ c = 115 := by simpa [seasL] using hc
    constructor <;> omega
  · exact h
theorem fix_size {l : List Nat} (h : 1 ≤ l.length ∧ l.length ≤ 8) : 1 ≤ (fixL l).length ∧ (fixL l).length ≤ 8 := by
  unfold fixL
  split
  · decide
  · exact h
/-! ### no name goes on from another one -/
theorem fix_take {l : List Nat} {n : Nat} (h : n ≤ 2) : (fixL l).take n = l.take n := by
  unfold fixL
  split
  · rename_i e
    subst e
    match n, h with
    | 0, _ => rfl
    | 1, _ => rfl
    | 2, _ => rfl
  · rfl
theorem fix_len (l : List Nat) : l.length ≤ (fixL l).length := by
  unfold fixL
  split
  · rename_i e
    subst e
    decide
  · exact Nat.le_refl _
theorem fix_on {base t : List Nat} {many start i j s : Nat} (hm : many ≤ 52) (hi : i < many) (hj : j < many) (ht : t ≠ []) (h1 : ∀ l, seasL = l ++ t → l.length = 3 → False)
    (h : fixL (shapeL base (markL many start j) j s) = fixL (shapeL base (markL many start i) i s) ++ t) : False := by
  have hl : (markL many start i).length = (markL many start j).length := by rw [markL_len, markL_len]
  have hmu : 1 ≤ (markL many start i).length ∧ (markL many start i).length ≤ 2 := by
    rw [markL_len]
    split <;> omega
  by_cases hs : s = 2
  · subst hs
    have e1 : (fixL (shapeL base (markL many start j) j 2)).take (markL many start j).length = markL many start j := by
      rw [fix_take (by omega)]
      exact List.take_left
    have e2 : (fixL (shapeL base (markL many start i) i 2)).take (markL many start i).length = markL many start i := by
      rw [fix_take (by omega)]
      exact List.take_left
    have hz : (markL many start i).length ≤ (fixL (shapeL base (markL many start i) i 2)).length := by
      refine Nat.le_trans ?_ (fix_len _)
      show _ ≤ (markL many start i ++ base.take (i % (base.length + 1))).length
      rw [List.length_append]
      omega
    have e3 : markL many start j = markL many start i := by
      rw [← e1, h, ← hl, List.take_append_of_le_length hz, e2]
    have e4 := markL_inj hm hj hi e3
    subst e4
    have := congrArg List.length h
    rw [List.length_append] at this
    exact ht (List.eq_nil_of_length_eq_zero (by omega))
  · have q := shape_len (base := base) (k := i) (j := j) hl hs
    have ht1 : 1 ≤ t.length := by
      cases t with
      | nil => exact absurd rfl ht
      | cons _ _ => rw [List.length_cons]; omega
    have hL := congrArg List.length h
    rw [List.length_append] at hL
    have hi2 := fix_len (shapeL base (markL many start i) i s)
    by_cases c : shapeL base (markL many start j) j s = seaL
    · have e1 : fixL (shapeL base (markL many start j) j s) = seasL := by unfold fixL; rw [if_pos c]
      rw [c] at q
      rw [e1] at hL h
      have q3 : seaL.length = 3 := rfl
      have q4 : seasL.length = 4 := rfl
      exact h1 _ h (by omega)
    · have e1 : fixL (shapeL base (markL many start j) j s) = shapeL base (markL many start j) j s := by unfold fixL; rw [if_neg c]
      rw [e1] at hL
      omega
theorem fix_gen {base t : List Nat} {many start i j s : Nat} (hm : many ≤ 52) (hi : i < many) (hj : j < many) (ht : t ≠ []) (hl : t.getLast? ≠ some 115) : fixL (shapeL base (markL many start j) j s) ≠ fixL (shapeL base (markL many start i) i s) ++ t := fun h =>
  fix_on hm hi hj ht (fun l e _ => by
    have := congrArg List.getLast? e
    rw [List.getLast?_append] at this
    cases q : t.getLast? with
    | none => exact ht (List.getLast?_eq_none_iff.mp q)
    | some c =>
      rw [q] at this
      have h2 : seasL.getLast? = some c := this
      have h3 : seasL.getLast? = some 115 := rfl
      rw [h3] at h2
      exact hl (by rw [q, ← h2])) h
theorem fix_q {base : List Nat} {many start i j s : Nat} (hm : many ≤ 52) (hi : i < many) (hj : j < many) : fixL (shapeL base (markL many start j) j s) ≠ fixL (shapeL base (markL many start i) i s) ++ [113] := fun h =>
  fix_on hm hi hj (by decide) (fun l e _ => by
    have := congrArg List.getLast? e
    rw [List.getLast?_append] at this
    have h2 : seasL.getLast? = some 113 := by rw [this]; rfl
    exact absurd h2 (by decide)) h
theorem fix_dd {base : List Nat} {many start i j s : Nat} (hm : many ≤ 52) (hi : i < many) (hj : j < many) : fixL (shapeL base (markL many start j) j s) ≠ fixL (shapeL base (markL many start i) i s) ++ fixL (shapeL base (markL many start i) i s) := fun h => by
  have hmu : 1 ≤ (markL many start i).length := by
    rw [markL_len]
    split <;> omega
  have hge : ∀ k, 1 ≤ (markL many start k).length → 1 ≤ (shapeL base (markL many start k) k s).length := fun k hk => by
    match s with
    | 0 => simp only [shapeL, List.length_append]; omega
    | 1 => simp only [shapeL, List.length_append]; omega
    | 2 => simp only [shapeL, List.length_append, List.length_take]; omega
    | s + 3 => simp only [shapeL, List.length_append, List.length_take, List.length_drop]; omega
  have h1 := Nat.le_trans (hge i hmu) (fix_len _)
  refine fix_on hm hi hj (fun z => by rw [z] at h1; exact absurd h1 (by decide)) (fun l e hl => ?_) h
  have e1 := congrArg List.length e
  rw [List.length_append, hl] at e1
  have q4 : seasL.length = 4 := rfl
  rw [q4] at e1
  have e2 := congrArg List.length h
  rw [List.length_append] at e2
  have e3 : (fixL (shapeL base (markL many start i) i s)).length = 1 := by omega
  have e4 : (fixL (shapeL base (markL many start j) j s)).length = 2 := by omega
  have hl2 : (markL many start i).length = (markL many start j).length := by rw [markL_len, markL_len]
  by_cases hs : s = 2
  · subst hs
    have f1 : (fixL (shapeL base (markL many start j) j 2)).take (markL many start j).length = markL many start j := by
      rw [fix_take (by rw [markL_len]; split <;> omega)]
      exact List.take_left
    have f2 : (fixL (shapeL base (markL many start i) i 2)).take (markL many start i).length = markL many start i := by
      rw [fix_take (by rw [markL_len]; split <;> omega)]
      exact List.take_left
    have hz : (markL many start i).length ≤ (fixL (shapeL base (markL many start i) i 2)).length := by
      refine Nat.le_trans ?_ (fix_len _)
      show _ ≤ (markL many start i ++ base.take (i % (base.length + 1))).length
      rw [List.length_append]
      omega
    have f3 : markL many start j = markL many start i := by
      rw [← f1, h, ← hl2, List.take_append_of_le_length hz, f2]
    have f4 := markL_inj hm hj hi f3
    subst f4
    omega
  · have q := shape_len (base := base) (k := i) (j := j) hl2 hs
    have g1 := fix_len (shapeL base (markL many start i) i s)
    unfold fixL at e4
    split at e4
    · revert e4
      decide
    · omega
end K0
end
section
set_option Elab.async false
set_option linter.all false
set_option maxRecDepth 100000
namespace K0
open PySem PySem.Spec PyProof.Rows L2
abbrev scNames_N : List Str := ["_law_bag_here", "_law_many", "_law_letters", "_law_base", "_law_start", "_law_shape", "_law_found", "_law_k", "_law_mark", "_law_some"]
abbrev scNames_S : Stmt := sNames
theorem scNames : FnScope scNames_N ["_law_bag_here", "_law_many"] (defScope sNames) := ⟨rfl, rfl, rfl, by decide +kernel, rfl, by decide +kernel, by decide +kernel⟩
/-- a list of unlike good names -/
structure NamesOk (ns : List Str) : Prop where
  ok : ∀ x ∈ ns, NameOk x
  sea : ∀ x ∈ ns, x ≠ "sea"
  nd : ns.Nodup
  qq : ∀ x ∈ ns, (x ++ ("q" : Str)) ∉ ns
  dd : ∀ x ∈ ns, (x ++ x) ∉ ns
  on : ∀ x ∈ ns, ∀ t : Str, t.cps.toList ≠ [] → t.cps.toList.getLast? ≠ some 115 → (x ++ t) ∉ ns
def spNames : Sp := fun vs H Q _ => ∃ (p : Addr) (m : Nat), vs = [.ref p, .int (m : Int)] ∧ BagAt H p ∧ m ≤ 52 ∧
  ∀ (H' : Hp) (l : Addr) (ns : List Str), Upto p H H' → BagAt H' p → H l = none → l ≠ p → H' l = some (.lst (ns.map V.str)) → ns.length = m → NamesOk ns → Q (.ref l) H'
theorem split_if' {α : Type} {R C : α → Prop} {G : Prop} (use : (∀ c, R c → C c) → G) (key : ∀ c, R c → C c) : G := use key
/-! ### texts -/
abbrev lettersT : Str := "abcdefghijklmnopqrstuvwxyz"
theorem letters_at : ∀ i : Nat, i < 26 → lettersT.cps[i]? = some (97 + i) := by decide +kernel
theorem letters_len : lettersT.length = 26 := by decide +kernel
theorem sea_list : ("sea" : Str).cps.toList = seaL := by decide +kernel
theorem seas_list : ("seas" : Str).cps.toList = seasL := by decide +kernel
theorem empty_list : ("" : Str).cps.toList = [] := by decide +kernel
def ofL (l : List Nat) : Str := ⟨l.toArray⟩
theorem ofL_list (l : List Nat) : (ofL l).cps.toList = l := rfl
theorem len_list (x : Str) : x.length = x.cps.toList.length := Array.length_toList.symm
theorem ofL_of (x : Str) : ofL x.cps.toList = x := str_ext rfl
theorem join_empty : ∀ cs : List Nat, (Str.join "" (cs.map fun c => ofL [c])).cps.toList = cs
  | [] => by decide +kernel
  | [c] => rfl
  | c :: d :: r => by
    have ih := join_empty (d :: r)
    show (ofL [c] ++ ("" : Str) ++ Str.join "" ((d :: r).map fun c => ofL [c])).cps.toList = c :: d :: r
    rw [app_list, app_list, empty_list, ih]
    rfl
theorem sum_ones (cs : List Nat) : ((cs.map fun c => ofL [c]).map (·.length)).sum = cs.length := by
  induction cs with
  | nil => rfl
  | cons c r ih =>
    rw [List.map_cons, List.map_cons, List.sum_cons, ih, List.length_cons]
    show 1 + r.length = r.length + 1
    omega
theorem cutS_take (z : Str) (n : Nat) : (cutS z none (some (n : Int))).cps.toList = z.cps.toList.take n := by
  unfold cutS
  rw [HT.sIx_none, HT.sIx_nat]
  show (z.cps.toList.drop 0).take (min n z.length - 0) = z.cps.toList.take n
  rw [List.drop_zero, Nat.sub_zero, len_list]
  exact (List.take_eq_take_min ..).symm
theorem cutS_drop (z : Str) (n : Nat) : (cutS z (some (n : Int)) none).cps.toList = z.cps.toList.drop n := by
  unfold cutS
  rw [HT.sIx_none, HT.sIx_nat]
  show (z.cps.toList.drop (min n z.length)).take (z.length - min n z.length) = z.cps.toList.drop n
  rw [len_list]
  by_cases h : n ≤ z.cps.toList.length
  · rw [Nat.min_eq_left h]
    exact List.take_of_length_le (by rw [List.length_drop]; omega)
  · rw [Nat.min_eq_right (by omega), Nat.sub_self, List.drop_of_length_le (Nat.le_refl _), List.drop_of_length_le (by omega)]
    rfl
theorem nodup_range {α : Type} (f : Nat → α) (m : Nat) (h : ∀ i j, i < m → j < m → f i = f j → i = j) : ((List.range m).map f).Nodup := by
  rw [List.Nodup, List.pairwise_map]
  refine List.Pairwise.imp_of_mem (fun {a b} ha hb hab e => hab (h a b (List.mem_range.mp ha) (List.mem_range.mp hb) e)) (List.nodup_range (n := m))
theorem ofL_inj {a b : List Nat} (h : ofL a = ofL b) : a = b := by
  have := congrArg (fun z : Str => z.cps.toList) h
  exact this
theorem names_ok {base : List Nat} {m st sh : Nat} (hb1 : ∀ c ∈ base, Low c) (hb2 : base.length ≤ 6) (hm2 : m ≤ 52) : NamesOk ((List.range m).map fun k => ofL (fixL (shapeL base (markL m st k) k sh))) := by
  refine ⟨?_, ?_, ?_, ?_, ?_, fun x hx t ht hl hq => ?_⟩
  rotate_left 5
  · obtain ⟨i, hi, rfl⟩ := List.mem_map.mp hx
    obtain ⟨j, hj, e⟩ := List.mem_map.mp hq
    have e2 := congrArg (fun z : Str => z.cps.toList) e
    have e3 : (ofL (fixL (shapeL base (markL m st i) i sh)) ++ t).cps.toList = fixL (shapeL base (markL m st i) i sh) ++ t.cps.toList := by
      rw [app_list]
      rfl
    exact fix_gen hm2 (List.mem_range.mp hi) (List.mem_range.mp hj) ht hl (e2.trans e3)
  · intro x hx
    obtain ⟨j, hj, rfl⟩ := List.mem_map.mp hx
    have hj := List.mem_range.mp hj
    have h1 := markL_low (start := st) hm2 hj
    have h2 : 1 ≤ (markL m st j).length ∧ (markL m st j).length ≤ 2 := by
      rw [markL_len]
      split <;> omega
    have h3 := fix_size (shape_size (k := j) (s := sh) hb2 h2)
    exact ⟨h3.1, h3.2, fix_low (shape_low hb1 h1)⟩
  · intro x hx e
    obtain ⟨j, hj, rfl⟩ := List.mem_map.mp hx
    have q : (ofL (fixL (shapeL base (markL m st j) j sh))).cps.toList = seaL := by rw [e]; exact sea_list
    exact fix_ne _ q
  · refine nodup_range _ _ fun i j hi hj e => ?_
    exact fix_inj hm2 hi hj (ofL_inj e)
  · intro x hx hq
    obtain ⟨i, hi, rfl⟩ := List.mem_map.mp hx
    obtain ⟨j, hj, e⟩ := List.mem_map.mp hq
    have e2 := congrArg (fun z : Str => z.cps.toList) e
    have e3 : (ofL (fixL (shapeL base (markL m st i) i sh)) ++ ("q" : Str)).cps.toList = fixL (shapeL base (markL m st i) i sh) ++ [113] := by
      rw [app_list]
      rfl
    exact fix_q hm2 (List.mem_range.mp hi) (List.mem_range.mp hj) (e2.trans e3)
  · intro x hx hq
    obtain ⟨i, hi, rfl⟩ := List.mem_map.mp hx
    obtain ⟨j, hj, e⟩ := List.mem_map.mp hq
    have e2 := congrArg (fun z : Str => z.cps.toList) e
    have e3 : (ofL (fixL (shapeL base (markL m st i) i sh)) ++ ofL (fixL (shapeL base (markL m st i) i sh))).cps.toList = fixL (shapeL base (markL m st i) i sh) ++ fixL (shapeL base (markL m st i) i sh) := by
      rw [app_list]
      rfl
    exact fix_dd hm2 (List.mem_range.mp hi) (List.mem_range.mp hj) (e2.trans e3)
section
variable {P : Program} {w : World} {K : PySem.W.Frag} {mg : Str → Option Value} {base : Heap}
theorem ok_names {f fT fO : Addr} {fd fdT fdO : FuncData} (F : FnP K "_law_names" sNames f fd) (F_law_take : FnP K "_law_take" sTake fT fdT) (F_law_of : FnP K "_law_of" sOf fO fdO) (B : Bl mg) (g_law_take : mg "_law_take" = some (.ref fT)) (g_law_of : mg "_law_of" = some (.ref fO)) :
    FnOk P w K mg base CX0 3 f fd ["_law_bag_here", "_law_many"] spNames := by
  have G_law_take : FnOk P w K mg base CX0 1 fT fdT ["_law_bag_here", "_law_many"] spTake := ok_take F_law_take B
  have b_law_take : Binds K fdT ["_law_bag_here", "_law_many"] [] := F_law_take.bindsN fun _ _ _ _ _ _ us hl => match us, hl with | [_, _], _ => rfl
  have G_law_of : FnOk P w K mg base CX0 2 fO fdO ["_law_bag_here", "_law_some"] (spOf K) := ok_of F_law_of F_law_take B g_law_take
  have b_law_of : Binds K fdO ["_law_bag_here", "_law_some"] [] := F_law_of.bindsN fun _ _ _ _ _ _ us hl => match us, hl with | [_, _], _ => rfl
  refine F.ok scNames (fun vs H Q E h => ?_) (fun cdv A outer s H vs Q E hr h => ?_)
  · obtain ⟨p, m, rfl, _⟩ := h
    rfl
  · obtain ⟨p, m, rfl, hB, hm2, k⟩ := h
    have hr_law_take : Room 1 _ := hr.mono (by decide)
    have hr_law_of : Room 2 _ := hr.mono (by decide)
    refine ⟨_, PSs.nox (pss_cons
      (ps_set (i := 2) scNames.nd rfl (Or.inr rfl) pe_str)
      (pss_cons
      (ps_set (i := 3) scNames.nd rfl (Or.inl rfl) (pe_join pe_str (pe_lc (own := [("_law_k", 7)]) (g := gName 7) (tt := tYes) (by rfl) scNames.nd (pi_range1 (by rfl) B.range (pa_cons (pe_call G_law_of hr_law_of (by rfl) g_law_of F_law_of.kp b_law_of .nil pass0 (pa_cons (pv 0) (pa_cons (pe_lst (pa_cons pe_int (pa_cons pe_int (pa_cons pe_int (pa_cons pe_int (pa_cons pe_int pa_nil)))))) pa_nil))) pa_nil)) (blkOk_by (own := [("_law_k", 7)]) (N := scNames_N) (sc := defScope scNames_S) (by decide +kernel)) (fun _ _ _ _ _ => (pg_name (i := 7) scNames.nd rfl (Or.inl rfl))) (fun _ _ _ _ _ => pts_nil) (fun _ _ _ _ _ => (pe_item_str (pv 2) (pe_call G_law_take hr_law_take (by rfl) g_law_take F_law_take.kp b_law_take .nil pass0 (pa_cons (pv 0) (pa_cons pe_int pa_nil))) (fun _ _ => rfl))))))
      (pss_cons
      (ps_par (i := 4) (j := 5) (by rfl) scNames.nd rfl rfl (by decide) rfl rfl (pa_cons (pe_call G_law_take hr_law_take (by rfl) g_law_take F_law_take.kp b_law_take .nil pass0 (pa_cons (pv 0) (pa_cons pe_int pa_nil))) (pa_cons (pe_call G_law_take hr_law_take (by rfl) g_law_take F_law_take.kp b_law_take .nil pass0 (pa_cons (pv 0) (pa_cons pe_int pa_nil))) pa_nil)) (by rfl))
      (pss_cons
      (ps_set (i := 6) scNames.nd rfl (Or.inl rfl) (pe_lst pa_nil))
      (pss_cons
      (ps_for PassesOwn.never rfl (pi_range1 (by rfl) B.range (pa_cons (pv 1) pa_nil)) (pg_name (i := 7) scNames.nd rfl (Or.inl rfl)) (pss_cons
      (ps_set (i := 8) scNames.nd rfl (Or.inl rfl) (pe_op op_add_str (pe_item_str (pv 2) (pe_op op_mod (pe_op op_add (pv 4) (pe_op op_mul pe_int (pv 7))) pe_int) (fun _ _ => rfl)) (pe_ifExp (pt_cmpR op_gt (pv 1) pe_int (nomark _)) (pe_item_str (pv 2) (pe_op op_fdiv (pv 7) pe_int) (fun _ _ => rfl)) pe_str)))
      (pss_cons
      (ps_set (i := 9) scNames.nd rfl (Or.inl rfl) (pe_lst (pa_cons (pe_op op_add_str (pv 3) (pv 8)) (pa_cons (pe_op op_add_str (pv 8) (pv 3)) (pa_cons (pe_op op_add_str (pv 8) (pe_slice sl_str (pv 3) po_none (po_some (pe_op op_mod (pv 7) (pe_op op_add (pe_callB call_len_str (by rfl) B.len PySem.boot_len (pa_cons (pv 3) pa_nil)) pe_int))))) (pa_cons (pe_op op_add_str (pe_op op_add_str (pe_slice sl_str (pv 3) po_none (po_some pe_int)) (pv 8)) (pe_slice sl_str (pv 3) (po_some pe_int) po_none)) pa_nil))))))
      (pss_one
      (ps_expr (pe_bm PySem.F.plainAttrs_list PySem.F.slot_list_append PySem.F.type_list_append mt_append (pv 6) (pa_cons (pe_ifExp (pt_cmpR op_eq (pe_ix ix_list (pv 9) (pv 5) (fun _ _ => rfl)) pe_str (nomark _)) pe_str (pe_ix ix_list (pv 9) (pv 5) (fun _ _ => rfl))) pa_nil)))))))
      (pss_one
      (ps_ret (pv 6)))))))), ?_⟩
    obtain ⟨b0, hb0, hv0⟩ := id hB
    refine ⟨⟨_, rfl⟩, _, rfl, by show 5 ≤ sizeLine; decide, fun q nq => ?_⟩
    have npq : p ≠ q := ne_of_none hb0 nq
    refine ⟨p, q, [.int 0, .int 0, .int 1, .int 2, .int 6], rfl, ⟨b0, by rw [upd_ne npq]; exact hb0, hv0⟩, npq.symm, .inl (.inl upd_same), by decide, by decide, fun i0 v b1 hv hx1 => ?_⟩
    obtain ⟨n, hn6, rfl⟩ : ∃ n : Nat, n ≤ 6 ∧ v = V.int (n : Int) := by
      have hm : v ∈ ([.int 0, .int 0, .int 1, .int 2, .int 6] : List V) := List.mem_of_getElem? hv
      simp only [List.mem_cons, List.not_mem_nil, or_false] at hm
      rcases hm with rfl | rfl | rfl | rfl | rfl
      · exact ⟨0, by omega, rfl⟩
      · exact ⟨0, by omega, rfl⟩
      · exact ⟨1, by omega, rfl⟩
      · exact ⟨2, by omega, rfl⟩
      · exact ⟨6, by omega, rfl⟩
    refine ⟨(n : Int), rfl, by omega, by omega, fun D hD => ?_⟩
    have u1 : Upto p H (upd (upd H q (.lst [.int 0, .int 0, .int 1, .int 2, .int 6])) p (.lst b1)) := (Upto.of (same_upd nq)).trans Upto.at_
    have npD : p ≠ D := fun e => by
      rw [← e, upd_same] at hD
      cases hD
    refine lc_range (lo := 0) (n := ((n : Int) - 0).toNat) (fun i H2 => Upto p H H2 ∧ BagAt H2 p ∧ ∃ cs : List Nat, cs.length = i ∧ (∀ c ∈ cs, Low c) ∧ H2 D = some (.lst (cs.map fun c => V.str (ofL [c])))) ?_ ?_ ?_
    · exact ⟨u1.trans (Upto.of (same_upd hD)), ⟨b1, by rw [upd_ne npD, upd_same], hx1⟩, [], rfl, (fun c hc => nomatch hc), upd_same⟩
    · rintro i H2 hi ⟨u2, B2, cs, hl, hlow, hD2⟩
      have nlp : p ≠ D := npD
      refine ⟨rfl, ?_⟩
      unfold tYes
      refine iteT ?_
      refine ⟨_, rfl, _, rfl, p, 26, rfl, B2, by decide, by decide, fun r xs hr0 hr1 hx => ?_⟩
      have hrn : r.toNat < 26 := by omega
      refine ⟨lettersT, r, 97 + r.toNat, rfl, rfl, hr0, by omega, by rw [letters_len]; omega, letters_at _ hrn, ?_⟩
      refine ⟨cs.map fun c => V.str (ofL [c]), by rw [upd_ne npD.symm]; exact hD2, ?_, ?_, ?_, cs ++ [97 + r.toNat], ?_, ?_, ?_⟩
      · rw [List.length_map]
        exact small1000 (by omega)
      · intro b o hb hn
        have hbD : b ≠ D := by
          intro e
          have hh : (upd (upd H q (.lst [.int 0, .int 0, .int 1, .int 2, .int 6])) p (.lst b1)) b = some o := u1 b o hb hn
          rw [e, hD] at hh
          cases hh
        rw [upd_ne hbD, upd_ne hn]
        exact u2 b o hb hn
      · exact ⟨xs, by rw [upd_ne npD, upd_same], hx⟩
      · rw [List.length_append, hl]
        rfl
      · intro c hc
        rcases List.mem_append.mp hc with h | h
        · exact hlow c h
        · rw [List.mem_singleton.mp h]
          constructor <;> omega
      · rw [upd_same, List.map_append]
        rfl
    · rintro H2 ⟨u2, B2, cs, hl, hlow, hD2⟩
      have hl6 : cs.length ≤ 6 := by omega
      have hmap : (cs.map fun c => V.str (ofL [c])) = (cs.map fun c => ofL [c]).map V.str := by
        rw [List.map_map]
        rfl
      refine ⟨"", D, cs.map fun c => ofL [c], rfl, rfl, .inl (.inl (.inl (by rw [← hmap]; exact hD2))), ?_, ?_⟩
      · rw [sum_ones, List.length_map, show ("" : Str).length = 0 from rfl]
        omega
      · rw [TL.join_eq]
        generalize hbase : Str.join "" (cs.map fun c => ofL [c]) = base
        have hbl : base.cps.toList = cs := by rw [← hbase]; exact join_empty cs
        have hb1 : ∀ c ∈ base.cps.toList, Low c := by rw [hbl]; exact hlow
        have hb2 : base.cps.toList.length ≤ 6 := by rw [hbl]; exact hl6
        have hbz : base.length ≤ 6 := by rw [len_list]; exact hb2
        clear hbase hmap hbl hl6 hlow hl hD2 cs
        -- start, shape
        refine ⟨_, rfl, p, 26, rfl, B2, by decide, by decide, fun r1 xs1 hr10 hr11 hx1 => ?_⟩
        refine ⟨_, rfl, p, 4, rfl, ⟨xs1, upd_same, hx1⟩, by decide, by decide, fun r2 xs2 hr20 hr21 hx2 => ?_⟩
        obtain ⟨st, rfl⟩ : ∃ st : Nat, r1 = (st : Int) := ⟨r1.toNat, by omega⟩
        obtain ⟨sh, rfl⟩ : ∃ sh : Nat, r2 = (sh : Int) := ⟨r2.toNat, by omega⟩
        have hsh : sh < 4 := by omega
        refine ⟨_, _, rfl, Nat.zero_le _, fun l nl => ?_⟩
        have npl : p ≠ l := fun e => by
          rw [← e, upd_same] at nl
          cases nl
        have u3 : Upto p H (upd (upd H2 p (.lst xs1)) p (.lst xs2)) := (u2.trans Upto.at_).trans Upto.at_
        have nlH : H l = none := by
          cases e : H l with
          | none => rfl
          | some o =>
            rw [u3 l o e npl.symm] at nl
            cases nl
        refine ⟨_, rfl, (m : Int), rfl, by omega, by omega, ?_⟩
        refine for_range (lo := 0) (n := ((m : Int) - 0).toNat) (fun i σ H3 => ∃ (v7 v8 v9 : Option V), σ = [some (.ref p), some (.int (m : Int)), some (.str lettersT), some (.str base), some (.int (st : Int)), some (.int (sh : Int)), some (.ref l), v7, v8, v9] ∧
            Upto p H H3 ∧ BagAt H3 p ∧ H3 l = some (.lst (((List.range i).map fun k => ofL (fixL (shapeL base.cps.toList (markL m st k) k sh))).map V.str))) ?_ ?_ ?_
        · refine ⟨_, _, _, rfl, u3.trans (Upto.of (same_upd nl)), ⟨xs2, by rw [upd_ne npl, upd_same], hx2⟩, upd_same⟩
        · rintro i σ H3 hi ⟨v7, v8, v9, rfl, u4, B4, hl4⟩
          have him : i < m := by omega
          have hmod : (st + 5 * i) % 26 < 26 := Nat.mod_lt _ (by decide)
          refine ⟨_, rfl, _, rfl, _, rfl, 5, _, rfl, rfl, .inl ⟨by decide, by decide⟩, _, _, rfl, rfl, _, _, rfl, rfl, (by show (0 : Int) < 26; decide), ?_⟩
          refine ⟨lettersT, _, 97 + (st + 5 * i) % 26, rfl, rfl, by omega, by omega, by rw [letters_len]; omega, ?_, ?_⟩
          · rw [show (((st : Int) + 5 * (0 + (i : Int))) % 26).toNat = (st + 5 * i) % 26 by omega]
            exact letters_at _ hmod
          refine ⟨_, rfl, (m : Int), 26, rfl, rfl, _, rfl, ?_⟩
          refine split_if' (α := Str) (R := fun t => t.cps.toList = if 26 < m then [97 + i / 26] else []) (C := ?C) ?use ?key
          case use =>
            intro key
            refine ite2 (fun hc => ?_) (fun hc => ?_)
            · have hc := of_decide_eq_true hc
              have hc' : 26 < m := by omega
              refine ⟨_, rfl, _, rfl, _, 26, rfl, rfl, ⟨by decide, by decide⟩, ?_⟩
              refine ⟨lettersT, _, 97 + i / 26, rfl, rfl, by omega, by omega, by rw [letters_len]; omega, ?_, ?_⟩
              · rw [show ((0 + (i : Int)) / 26).toNat = i / 26 by omega]
                exact letters_at _ (by omega)
              · have hh : (⟨#[97 + i / 26]⟩ : Str).cps.toList = if 26 < m then [97 + i / 26] else [] := by rw [if_pos hc']
                generalize (⟨#[97 + i / 26]⟩ : Str) = t at hh
                exact key t hh
            · have hc' : ¬ 26 < m := fun z => hc (decide_eq_true (by omega))
              exact key "" (by rw [if_neg hc', empty_list])
          case key =>
            intro t ht
            have hml : ((⟨#[97 + (st + 5 * i) % 26]⟩ : Str) ++ t).cps.toList = markL m st i := by
              rw [app_list, ht]
              rfl
            have htl : t.length ≤ 1 := by
              rw [len_list, ht]
              split <;> simp
            refine ⟨_, _, rfl, rfl, ?_, ?_⟩
            · show 1 + t.length ≤ sizeLine
              exact Nat.le_of_lt (small1000 (by omega))
            generalize (⟨#[97 + (st + 5 * i) % 26]⟩ : Str) ++ t = mark at hml
            have hmz : mark.length ≤ 2 := by
              rw [len_list, hml, markL_len]
              split <;> omega
            -- the four texts
            have z1 : base.length + mark.length ≤ sizeLine := Nat.le_of_lt (small1000 (by omega))
            have z2 : mark.length + base.length ≤ sizeLine := Nat.le_of_lt (small1000 (by omega))
            have ek : (0 + (i : Int)) % ((base.length : Int) + 1) = ((i % (base.length + 1) : Nat) : Int) := by
              rw [Int.zero_add]
              exact (Int.natCast_emod i (base.length + 1)).symm
            have zc : ∀ a b : Option Int, (cutS base a b).length ≤ 6 := fun a b => Nat.le_trans (cutS_length base a b) hbz
            refine ⟨_, rfl, _, rfl, _, _, rfl, rfl, z1, _, rfl, _, rfl, _, _, rfl, rfl, z2, ?_⟩
            refine ⟨_, rfl, _, rfl, _, rfl, _, rfl, _, rfl, Nat.le_of_lt (small1000 (by omega)), _, _, rfl, rfl, _, _, rfl, rfl, (by show (0 : Int) < (base.length : Int) + 1; omega), _, rfl, base, rfl, Nat.le_of_lt (small1000 (by omega)), _, _, rfl, rfl, ?_, ?_⟩
            · have := zc none (some ((0 + (i : Int)) % ((base.length : Int) + 1)))
              exact Nat.le_of_lt (small1000 (by omega))
            have c1 := zc none (some 1)
            have c2 := zc (some 1) none
            have c3 : (cutS base none (some 1) ++ mark).length ≤ 8 := by
              rw [strLen_append]
              omega
            refine ⟨_, rfl, 1, rfl, base, rfl, Nat.le_of_lt (small1000 (by omega)), _, rfl, _, _, rfl, rfl, Nat.le_of_lt (small1000 (by omega)), _, rfl, 1, rfl, base, rfl, Nat.le_of_lt (small1000 (by omega)), _, _, rfl, rfl, Nat.le_of_lt (small1000 (by omega)), by show 4 ≤ sizeLine; decide, fun q2 nq2 => ?_⟩
            have e0 : base ++ mark = ofL (shapeL base.cps.toList mark.cps.toList i 0) := str_ext (by rw [app_list, ofL_list]; rfl)
            have e1 : mark ++ base = ofL (shapeL base.cps.toList mark.cps.toList i 1) := str_ext (by rw [app_list, ofL_list]; rfl)
            have e2 : mark ++ cutS base none (some ((0 + (i : Int)) % ((base.length : Int) + 1))) = ofL (shapeL base.cps.toList mark.cps.toList i 2) := str_ext (by
              rw [app_list, ofL_list, ek, cutS_take, len_list]
              rfl)
            have e3 : cutS base none (some 1) ++ mark ++ cutS base (some 1) none = ofL (shapeL base.cps.toList mark.cps.toList i 3) := str_ext (by
              rw [app_list, app_list, ofL_list, show (1 : Int) = ((1 : Nat) : Int) from rfl, cutS_take, cutS_drop]
              rfl)
            have hat : ([V.str (base ++ mark), V.str (mark ++ base), V.str (mark ++ cutS base none (some ((0 + (i : Int)) % ((base.length : Int) + 1)))), V.str (cutS base none (some 1) ++ mark ++ cutS base (some 1) none)] : List V)[sh]? = some (V.str (ofL (shapeL base.cps.toList mark.cps.toList i sh))) := by
              rw [e0, e1, e2, e3]
              match sh, hsh with
              | 0, _ => rfl
              | 1, _ => rfl
              | 2, _ => rfl
              | 3, _ => rfl
            have nlq : l ≠ q2 := ne_of_none hl4 nq2
            generalize ([V.str (base ++ mark), V.str (mark ++ base), V.str (mark ++ cutS base none (some ((0 + (i : Int)) % ((base.length : Int) + 1)))), V.str (cutS base none (some 1) ++ mark ++ cutS base (some 1) none)] : List V) = four at hat
            rw [hml] at hat
            have hl5 : (upd H3 q2 (.lst four)) l = some (.lst (((List.range i).map fun k => ofL (fixL (shapeL base.cps.toList (markL m st k) k sh))).map V.str)) := by
              rw [upd_ne nlq]
              exact hl4
            have u5 : Upto p H (upd H3 q2 (.lst four)) := u4.trans (Upto.of (same_upd nq2))
            have B5 : BagAt (upd H3 q2 (.lst four)) p := by
              obtain ⟨b, hb, hv⟩ := B4
              exact ⟨b, by rw [upd_ne (ne_of_none hb nq2)]; exact hb, hv⟩
            refine ⟨_, rfl, .inl ⟨rfl, _, .inl (.inl hl5)⟩, ?_⟩
            refine ⟨_, rfl, _, rfl, q2, _, _, _, rfl, rfl, .inl (.inl upd_same), atI_nat hat, rfl, _, rfl, ?_⟩
            have more : (((List.range i).map fun k => ofL (fixL (shapeL base.cps.toList (markL m st k) k sh))).map V.str) ++ [V.str (ofL (fixL (shapeL base.cps.toList (markL m st i) i sh)))] = ((List.range (i + 1)).map fun k => ofL (fixL (shapeL base.cps.toList (markL m st k) k sh))).map V.str := by
              rw [List.range_succ, List.map_append, List.map_append]
              rfl
            have fin : ∀ y : Str, y = ofL (fixL (shapeL base.cps.toList (markL m st i) i sh)) → Upto p H (upd (upd H3 q2 (.lst four)) l (.lst ((((List.range i).map fun k => ofL (fixL (shapeL base.cps.toList (markL m st k) k sh))).map V.str) ++ [V.str y]))) ∧
                BagAt (upd (upd H3 q2 (.lst four)) l (.lst ((((List.range i).map fun k => ofL (fixL (shapeL base.cps.toList (markL m st k) k sh))).map V.str) ++ [V.str y]))) p ∧
                (upd (upd H3 q2 (.lst four)) l (.lst ((((List.range i).map fun k => ofL (fixL (shapeL base.cps.toList (markL m st k) k sh))).map V.str) ++ [V.str y]))) l = some (.lst (((List.range (i + 1)).map fun k => ofL (fixL (shapeL base.cps.toList (markL m st k) k sh))).map V.str)) := by
              rintro y rfl
              refine ⟨?_, ?_, ?_⟩
              · intro b o hb hn
                rw [upd_ne (ne_of_none hb nlH)]
                exact u5 b o hb hn
              · obtain ⟨b, hb, hv⟩ := B5
                exact ⟨b, by rw [upd_ne npl]; exact hb, hv⟩
              · rw [upd_same, more]
            have sz : (((List.range i).map fun k => ofL (fixL (shapeL base.cps.toList (markL m st k) k sh))).map V.str).length < sizeLine := by
              rw [List.length_map, List.length_map, List.length_range]
              exact small1000 (by omega)
            refine ite2 (fun hc => ?_) (fun hc => ?_)
            · have hc := of_decide_eq_true hc
              have hc : ofL (shapeL base.cps.toList (markL m st i) i sh) = "sea" := V.str.inj hc
              have hL : shapeL base.cps.toList (markL m st i) i sh = seaL := by
                rw [← sea_list, ← hc, ofL_list]
              have ey : ("seas" : Str) = ofL (fixL (shapeL base.cps.toList (markL m st i) i sh)) := str_ext (by
                rw [seas_list, ofL_list, fixL, if_pos hL])
              obtain ⟨f1, f2, f3⟩ := fin _ ey
              exact ⟨l, _, _, rfl, rfl, hl5, sz, _, _, _, rfl, f1, f2, f3⟩
            · have hL : ¬ shapeL base.cps.toList (markL m st i) i sh = seaL := fun z => hc (decide_eq_true (by rw [z]; exact congrArg V.str (str_ext (by rw [sea_list, ofL_list]))))
              have ey : ofL (shapeL base.cps.toList (markL m st i) i sh) = ofL (fixL (shapeL base.cps.toList (markL m st i) i sh)) := by
                rw [fixL, if_neg hL]
              obtain ⟨f1, f2, f3⟩ := fin _ ey
              refine ⟨_, rfl, _, rfl, q2, _, _, _, rfl, rfl, .inl (.inl upd_same), atI_nat hat, ?_⟩
              exact ⟨l, _, _, rfl, rfl, hl5, sz, _, _, _, rfl, f1, f2, f3⟩
        · rintro σ H3 ⟨v7, v8, v9, rfl, u4, B4, hl4⟩
          have em : ((m : Int) - 0).toNat = m := by omega
          rw [em] at hl4
          exact ⟨_, rfl, k H3 l _ u4 B4 nlH npl.symm hl4 (by simp) (names_ok hb1 hb2 hm2)⟩
end
end K0
end
section
set_option Elab.async false
set_option linter.all false
set_option maxRecDepth 100000
namespace K0
open PySem PySem.Spec PyProof.Rows L2
abbrev Row := Str × Str
/-- rows that make a river -/
structure GoodRows (R : List Row) : Prop where
  one : 1 ≤ R.length
  most : R.length ≤ 40
  nm : NamesOk (R.map (·.1))
  rank : ∃ rk : Str → Nat, ∀ r ∈ R, r.2 = "sea" ∨ (r.2 ∈ R.map (·.1) ∧ rk r.2 < rk r.1)
theorem NamesOk.perm {a b : List Str} (p : a.Perm b) (h : NamesOk b) : NamesOk a := ⟨fun x hx => h.ok x (p.mem_iff.mp hx), fun x hx => h.sea x (p.mem_iff.mp hx), p.nodup_iff.mpr h.nd, fun x hx hq => h.qq x (p.mem_iff.mp hx) (p.mem_iff.mp hq), fun x hx hq => h.dd x (p.mem_iff.mp hx) (p.mem_iff.mp hq), fun x hx t h1 h2 hq => h.on x (p.mem_iff.mp hx) t h1 h2 (p.mem_iff.mp hq)⟩
theorem GoodRows.perm {a b : List Row} (p : a.Perm b) (h : GoodRows b) : GoodRows a := by
  obtain ⟨rk, hr⟩ := h.rank
  refine ⟨by rw [p.length_eq]; exact h.one, by rw [p.length_eq]; exact h.most, h.nm.perm (p.map _), rk, fun r hm => ?_⟩
  rcases hr r (p.mem_iff.mp hm) with e | ⟨e1, e2⟩
  · exact .inl e
  · exact .inr ⟨(p.map _).mem_iff.mpr e1, e2⟩
theorem perm_lift {α β : Type} {f : α → β} {l1 l2 : List β} (p : l1.Perm l2) : ∀ xs : List α, l2 = xs.map f → ∃ xs' : List α, l1 = xs'.map f ∧ xs'.Perm xs := by
  induction p with
  | nil => intro xs e; cases xs with
    | nil => exact ⟨[], rfl, .nil⟩
    | cons a t => cases e
  | cons x _ ih => intro xs e; cases xs with
    | nil => cases e
    | cons a t =>
      injection e with e1 e2
      obtain ⟨t', h1, h2⟩ := ih t e2
      exact ⟨a :: t', by rw [List.map_cons, ← h1, e1], h2.cons a⟩
  | swap x y l => intro xs e; match xs, e with
    | a :: b :: t, e =>
      injection e with e1 e2
      injection e2 with e2 e3
      exact ⟨b :: a :: t, by rw [List.map_cons, List.map_cons, ← e1, ← e2, ← e3], .swap a b t⟩
  | trans _ _ ih1 ih2 =>
    intro xs e
    obtain ⟨ys, h1, h2⟩ := ih2 xs e
    obtain ⟨zs, h3, h4⟩ := ih1 ys h1
    exact ⟨zs, h3, h4.trans h2⟩
/-- a list of pairs of texts, each in a tuple of its own -/
structure RowsAt (H : Hp) (l : Addr) (AR : List (Addr × Row)) : Prop where
  lst : H l = some (.lst (AR.map fun q => V.ref q.1))
  tup : ∀ q ∈ AR, H q.1 = some (.tup [.str q.2.1, .str q.2.2])
abbrev rowsOf (AR : List (Addr × Row)) : List Row := AR.map (·.2)
theorem bag_ne {H : Hp} {p : Addr} {a : Addr} {xs : List V} (B : BagAt H p) (h : H a = some (.tup xs)) : a ≠ p := by
  obtain ⟨b, hb, _⟩ := B
  exact ne_of h hb (fun z => by cases z)
theorem RowsAt.upto {H H' : Hp} {p l : Addr} {AR : List (Addr × Row)} (r : RowsAt H l AR) (B : BagAt H p) (n : l ≠ p) (u : Upto p H H') : RowsAt H' l AR :=
  ⟨u _ _ r.lst n, fun q hq => u _ _ (r.tup q hq) (bag_ne B (r.tup q hq))⟩
theorem RowsAt.same {H H' : Hp} {l : Addr} {AR : List (Addr × Row)} (r : RowsAt H l AR) (u : Same H H') : RowsAt H' l AR :=
  ⟨u _ _ r.lst, fun q hq => u _ _ (r.tup q hq)⟩
def spLRiver : Sp := fun vs H Q _ => ∃ (p : Addr) (m : Nat), vs = [.ref p, .int (m : Int)] ∧ BagAt H p ∧ 1 ≤ m ∧ m ≤ 40 ∧
  ∀ (H' : Hp) (l : Addr) (AR : List (Addr × Row)), Upto p H H' → BagAt H' p → H l = none → l ≠ p → RowsAt H' l AR → GoodRows (rowsOf AR) → (rowsOf AR).length = m → Q (.ref l) H'
/-- rows built so far -/
structure Sofar (ns : List Str) (i : Nat) (R : List Row) : Prop where
  fst : R.map (·.1) = ns.take i
  snd : ∀ r ∈ R, r.2 = "sea" ∨ (r.2 ∈ ns ∧ ns.idxOf r.2 < ns.idxOf r.1)
theorem Sofar.good {ns : List Str} {R : List Row} (h : Sofar ns ns.length R) (hn : NamesOk ns) (h1 : 1 ≤ ns.length) (h2 : ns.length ≤ 40) : GoodRows R := by
  have e := h.fst
  rw [List.take_length] at e
  have el : R.length = ns.length := by rw [← e, List.length_map]
  refine ⟨by omega, by omega, by rw [e]; exact hn, fun x => ns.idxOf x, fun r hr => ?_⟩
  rw [e]
  exact h.snd r hr
theorem idx_at {ns : List Str} (hd : ns.Nodup) {i : Nat} {x : Str} (h : ns[i]? = some x) : ns.idxOf x = i := by
  obtain ⟨h1, h2⟩ := List.getElem?_eq_some_iff.mp h
  have h3 : ns.idxOf x < ns.length := List.idxOf_lt_length_iff.mpr (List.mem_of_getElem? h)
  have h4 : ns[ns.idxOf x]? = some x := by
    rw [List.getElem?_eq_getElem h3, List.getElem_idxOf h3]
  exact nd_ix hd h4 h
theorem Sofar.more {ns : List Str} {i : Nat} {R : List Row} (hd : ns.Nodup) (h : Sofar ns i R) {x y : Str} (hx : ns[i]? = some x) (hy : y = "sea" ∨ ∃ j, j < i ∧ ns[j]? = some y) : Sofar ns (i + 1) (R ++ [(x, y)]) := by
  refine ⟨?_, fun r hr => ?_⟩
  · rw [List.map_append, h.fst, List.take_add_one, hx]
    rfl
  · rcases List.mem_append.mp hr with hr | hr
    · exact h.snd r hr
    · rw [List.mem_singleton.mp hr]
      rcases hy with e | ⟨j, hj, e⟩
      · exact .inl e
      · refine .inr ⟨List.mem_of_getElem? e, ?_⟩
        show ns.idxOf y < ns.idxOf x
        rw [idx_at hd hx, idx_at hd e]
        exact hj
abbrev scLRiver_N : List Str := ["_law_bag_here", "_law_many", "_law_names_here", "_law_rows", "_law_k", "_law_way_here"]
theorem scLRiver : FnScope scLRiver_N ["_law_bag_here", "_law_many"] (defScope sLRiver) := ⟨rfl, rfl, rfl, by decide +kernel, rfl, by decide +kernel, by decide +kernel⟩
section
variable {P : Program} {w : World} {K : PySem.W.Frag} {mg : Str → Option Value} {base : Heap}
/-- the functions of the law's helpers, by their addresses -/
structure Hf (K : PySem.W.Frag) (mg : Str → Option Value) : Prop where
  B : Bl mg
  take : ∃ f fd, FnP K "_law_take" sTake f fd ∧ mg "_law_take" = some (.ref f)
  of : ∃ f fd, FnP K "_law_of" sOf f fd ∧ mg "_law_of" = some (.ref f)
  mixed : ∃ f fd, FnP K "_law_mixed" sMixed f fd ∧ mg "_law_mixed" = some (.ref f)
  names : ∃ f fd, FnP K "_law_names" sNames f fd ∧ mg "_law_names" = some (.ref f)
theorem ok_lriver {f : Addr} {fd : FuncData} (F : FnP K "_law_river" sLRiver f fd) (T : Hf K mg) : FnOk P w K mg base CX0 4 f fd ["_law_bag_here", "_law_many"] spLRiver := by
  obtain ⟨fT, fdT, F_law_take, g_law_take⟩ := T.take
  obtain ⟨fO, fdO, F_law_of, g_law_of⟩ := T.of
  obtain ⟨fM, fdM, F_law_mixed, g_law_mixed⟩ := T.mixed
  obtain ⟨fN, fdN, F_law_names, g_law_names⟩ := T.names
  have B := T.B
  have G_law_take : FnOk P w K mg base CX0 1 fT fdT ["_law_bag_here", "_law_many"] spTake := ok_take F_law_take B
  have b_law_take : Binds K fdT ["_law_bag_here", "_law_many"] [] := F_law_take.bindsN fun _ _ _ _ _ _ us hl => match us, hl with | [_, _], _ => rfl
  have G_law_mixed : FnOk P w K mg base CX0 2 fM fdM ["_law_bag_here", "_law_some"] (spMixed K) := ok_mixed F_law_mixed F_law_take B g_law_take
  have b_law_mixed : Binds K fdM ["_law_bag_here", "_law_some"] [] := F_law_mixed.bindsN fun _ _ _ _ _ _ us hl => match us, hl with | [_, _], _ => rfl
  have G_law_names : FnOk P w K mg base CX0 3 fN fdN ["_law_bag_here", "_law_many"] spNames := ok_names F_law_names F_law_take F_law_of B g_law_take g_law_of
  have b_law_names : Binds K fdN ["_law_bag_here", "_law_many"] [] := F_law_names.bindsN fun _ _ _ _ _ _ us hl => match us, hl with | [_, _], _ => rfl
  refine F.ok scLRiver (fun vs H Q E h => ?_) (fun cdv A outer s H vs Q E hr h => ?_)
  · obtain ⟨p, m, rfl, _⟩ := h
    rfl
  · obtain ⟨p, m, rfl, hB, hm1, hm2, k⟩ := h
    have hr_law_take : Room 1 _ := hr.mono (by decide)
    have hr_law_mixed : Room 2 _ := hr.mono (by decide)
    have hr_law_names : Room 3 _ := hr.mono (by decide)
    refine ⟨_, PSs.nox (pss_cons
      (ps_par (i := 2) (j := 3) (by rfl) scLRiver.nd rfl rfl (by decide) rfl rfl (pa_cons (pe_call G_law_names hr_law_names (by rfl) g_law_names F_law_names.kp b_law_names .nil pass0 (pa_cons (pv 0) (pa_cons (pv 1) pa_nil))) (pa_cons (pe_lst pa_nil) pa_nil)) (by rfl))
      (pss_cons
      (ps_for PassesOwn.never rfl (pi_range1 (by rfl) B.range (pa_cons (pv 1) pa_nil)) (pg_name (i := 4) scLRiver.nd rfl (Or.inl rfl)) (pss_cons
      (ps_set (i := 5) scLRiver.nd rfl (Or.inl rfl) (pe_call G_law_take hr_law_take (by rfl) g_law_take F_law_take.kp b_law_take .nil pass0 (pa_cons (pv 0) (pa_cons pe_int pa_nil))))
      (pss_one
      (ps_if (PW.pt (pw_or (pt_cmpR op_eq (pv 4) pe_int (nomark _)) (pw_or1 (pt_cmpR op_eq (pv 5) pe_int (nomark _))))) (pss_one
      (ps_expr (pe_bm PySem.F.plainAttrs_list PySem.F.slot_list_append PySem.F.type_list_append mt_append (pv 3) (pa_cons (pe_tup (pa_cons (pe_ix ix_list (pv 2) (pv 4) (fun _ _ => rfl)) (pa_cons pe_str pa_nil))) pa_nil)))) (pss_one
      (ps_expr (pe_bm PySem.F.plainAttrs_list PySem.F.slot_list_append PySem.F.type_list_append mt_append (pv 3) (pa_cons (pe_tup (pa_cons (pe_ix ix_list (pv 2) (pv 4) (fun _ _ => rfl)) (pa_cons (pe_ifExp (pt_cmpR op_lt (pv 5) pe_int (nomark _)) (pe_ix ix_list (pv 2) (pe_op op_sub (pv 4) pe_int) (fun _ _ => rfl)) (pe_ix ix_list (pv 2) (pe_call G_law_take hr_law_take (by rfl) g_law_take F_law_take.kp b_law_take .nil pass0 (pa_cons (pv 0) (pa_cons (pv 4) pa_nil))) (fun _ _ => rfl))) pa_nil))) pa_nil))))))))
      (pss_one
      (ps_ret (pe_call G_law_mixed hr_law_mixed (by rfl) g_law_mixed F_law_mixed.kp b_law_mixed .nil pass0 (pa_cons (pv 0) (pa_cons (pv 3) pa_nil))))))), ?_⟩
    refine ⟨_, rfl, _, rfl, p, m, rfl, hB, by omega, fun H1 n ns u1 B1 nn nnp hn hlen hok => ?_⟩
    refine ⟨Nat.zero_le _, fun l nl => ⟨_, _, rfl, ?_⟩⟩
    have nln : n ≠ l := ne_of_none hn nl
    obtain ⟨b1, hb1, hv1⟩ := id B1
    have npl : p ≠ l := ne_of_none hb1 nl
    have nlH : H l = none := by
      cases e : H l with
      | none => rfl
      | some o =>
        rw [u1 l o e npl.symm] at nl
        cases nl
    refine ⟨_, rfl, (m : Int), rfl, by omega, by omega, ?_⟩
    refine for_range (lo := 0) (n := ((m : Int) - 0).toNat) (fun i σ H3 => ∃ (v4 v5 : Option V) (AR : List (Addr × Row)), σ = [some (.ref p), some (.int (m : Int)), some (.ref n), some (.ref l), v4, v5] ∧ Upto p H H3 ∧ BagAt H3 p ∧ H3 n = some (.lst (ns.map V.str)) ∧ RowsAt H3 l AR ∧ Sofar ns i (rowsOf AR))
      ⟨none, none, [], rfl, u1.trans (Upto.of (same_upd nl)), ⟨b1, by rw [upd_ne npl]; exact hb1, hv1⟩, by rw [upd_ne nln]; exact hn, ⟨upd_same, fun q hq => nomatch hq⟩, ⟨by rw [List.take_zero]; rfl, fun r hr => nomatch hr⟩⟩ ?_ ?_
    · rintro i σ H3 hi ⟨v4, v5, AR, rfl, u3, B3, hn3, hR, hS⟩
      have him : i < ns.length := by omega
      have hnx : ns[i]? = some ns[i] := List.getElem?_eq_getElem him
      have hat : (ns.map V.str)[i]? = some (.str ns[i]) := by
        rw [List.getElem?_map, hnx]
        rfl
      have hARl : AR.length = i := by
        have := congrArg List.length hS.fst
        rw [List.length_map, List.length_map, List.length_take] at this
        omega
      have fin : ∀ (H4 : Hp) (t : Addr) (y : Str), Upto p H H4 → BagAt H4 p → H4 n = some (.lst (ns.map V.str)) → RowsAt H4 l AR → H4 t = none → (y = "sea" ∨ ∃ j, j < i ∧ ns[j]? = some y) →
          (upd H4 t (.tup [.str ns[i], .str y])) l = some (.lst (AR.map fun q => V.ref q.1)) ∧ (AR.map fun q => V.ref q.1).length < sizeLine ∧ ∃ AR' : List (Addr × Row),
          Upto p H (upd (upd H4 t (.tup [.str ns[i], .str y])) l (.lst ((AR.map fun q => V.ref q.1) ++ [.ref t]))) ∧ BagAt (upd (upd H4 t (.tup [.str ns[i], .str y])) l (.lst ((AR.map fun q => V.ref q.1) ++ [.ref t]))) p ∧
          (upd (upd H4 t (.tup [.str ns[i], .str y])) l (.lst ((AR.map fun q => V.ref q.1) ++ [.ref t]))) n = some (.lst (ns.map V.str)) ∧ RowsAt (upd (upd H4 t (.tup [.str ns[i], .str y])) l (.lst ((AR.map fun q => V.ref q.1) ++ [.ref t]))) l AR' ∧ Sofar ns (i + 1) (rowsOf AR') := by
        intro H4 t y u4 B4 hn4 hR4 ht hy
        have nlt : l ≠ t := ne_of_none hR4.lst ht
        have nnt : n ≠ t := ne_of_none hn4 ht
        obtain ⟨b4, hb4, hv4⟩ := B4
        have npt : p ≠ t := ne_of_none hb4 ht
        refine ⟨by rw [upd_ne nlt]; exact hR4.lst, by rw [List.length_map]; exact small1000 (by omega), AR ++ [(t, (ns[i], y))], ?_, ⟨b4, by rw [upd_ne npl, upd_ne npt]; exact hb4, hv4⟩, by rw [upd_ne nln, upd_ne nnt]; exact hn4, ⟨?_, ?_⟩, ?_⟩
        · intro b o hb hne
          have h4 := u4 b o hb hne
          rw [upd_ne (ne_of_none hb nlH), upd_ne (ne_of_none h4 ht)]
          exact h4
        · rw [upd_same, List.map_append]
          rfl
        · intro q hq
          rcases List.mem_append.mp hq with hq | hq
          · have h4 := hR4.tup q hq
            rw [upd_ne (ne_of h4 hR4.lst (fun z => by cases z)), upd_ne (ne_of_none h4 ht)]
            exact h4
          · rw [List.mem_singleton.mp hq, upd_ne nlt.symm, upd_same]
        · show Sofar ns (i + 1) ((AR ++ [(t, (ns[i], y))]).map (·.2))
          rw [List.map_append]
          exact hS.more hok.nd hnx hy
      have nlp : l ≠ p := npl.symm
      have nnp : n ≠ p := nnp
      have step : ∀ xs, BagV xs → Upto p H (upd H3 p (.lst xs)) ∧ BagAt (upd H3 p (.lst xs)) p ∧ (upd H3 p (.lst xs)) n = some (.lst (ns.map V.str)) ∧ RowsAt (upd H3 p (.lst xs)) l AR := fun xs hx =>
        ⟨u3.trans Upto.at_, ⟨xs, upd_same, hx⟩, by rw [upd_ne nnp]; exact hn3, hR.upto B3 nlp Upto.at_⟩
      refine ⟨_, rfl, p, 6, rfl, B3, by decide, by decide, fun r xs hr0 hr1 hx => ?_⟩
      obtain ⟨u4, B4, hn4, hR4⟩ := step xs hx
      refine ⟨_, rfl, rfl, _, rfl, ?_⟩
      refine split_if' (α := Unit) (R := fun _ => True) (C := fun _ => ?C) ?use ?key
      case use =>
        intro key
        refine ite2 (fun hc => ?_) (fun hc => ?_)
        · exact key () trivial
        · refine ⟨_, rfl, rfl, _, rfl, ?_⟩
          refine ite2 (fun hd => ?_) (fun hd => ?_)
          · exact key () trivial
          · have hi0 : 0 < i := by
              rcases Nat.eq_zero_or_pos i with e | e
              · subst e
                exact absurd (decide_eq_true rfl) hc
              · exact e
            refine ⟨_, rfl, .inl ⟨rfl, _, .inl (.inl hR4.lst)⟩, _, rfl, _, rfl, n, _, _, _, rfl, rfl, .inl (.inl hn4), at_of (by omega) hat, ?_⟩
            refine ⟨_, rfl, r, 4, rfl, rfl, _, rfl, ?_⟩
            refine ite2 (fun he => ?_) (fun he => ?_)
            · have hat2 : (ns.map V.str)[i - 1]? = some (.str ns[i - 1]) := by
                rw [List.getElem?_map, List.getElem?_eq_getElem (by omega)]
                rfl
              refine ⟨_, rfl, _, rfl, _, _, rfl, rfl, n, _, _, _, rfl, rfl, .inl (.inl hn4), at_of (j := i - 1) (by omega) hat2, ?_⟩
              refine ⟨by show 2 ≤ sizeLine; decide, fun t nt => ?_⟩
              obtain ⟨f1, f2, AR', f3, f4, f5, f6, f7⟩ := fin _ t ns[i - 1] u4 B4 hn4 hR4 nt (.inr ⟨i - 1, by omega, List.getElem?_eq_getElem (by omega)⟩)
              exact ⟨l, _, _, rfl, rfl, f1, f2, _, _, AR', rfl, f3, f4, f5, f6, f7⟩
            · refine ⟨_, rfl, _, rfl, _, rfl, p, _, rfl, B4, by omega, by omega, fun r2 xs2 hr20 hr21 hx2 => ?_⟩
              have hj : r2.toNat < i := by omega
              have hat2 : (ns.map V.str)[r2.toNat]? = some (.str ns[r2.toNat]) := by
                rw [List.getElem?_map, List.getElem?_eq_getElem (by omega)]
                rfl
              have u5 : Upto p H (upd (upd H3 p (.lst xs)) p (.lst xs2)) := u4.trans Upto.at_
              have hn5 : (upd (upd H3 p (.lst xs)) p (.lst xs2)) n = some (.lst (ns.map V.str)) := by
                rw [upd_ne nnp]
                exact hn4
              refine ⟨n, _, _, _, rfl, rfl, .inl (.inl hn5), at_of (j := r2.toNat) (by omega) hat2, ?_⟩
              refine ⟨by show 2 ≤ sizeLine; decide, fun t nt => ?_⟩
              obtain ⟨f1, f2, AR', f3, f4, f5, f6, f7⟩ := fin _ t ns[r2.toNat] u5 ⟨xs2, upd_same, hx2⟩ hn5 (hR4.upto B4 nlp Upto.at_) nt (.inr ⟨r2.toNat, hj, List.getElem?_eq_getElem (by omega)⟩)
              exact ⟨l, _, _, rfl, rfl, f1, f2, _, _, AR', rfl, f3, f4, f5, f6, f7⟩
      case key =>
        intro _ _
        refine ⟨_, rfl, .inl ⟨rfl, _, .inl (.inl hR4.lst)⟩, _, rfl, _, rfl, n, _, _, _, rfl, rfl, .inl (.inl hn4), at_of (by omega) hat, ?_⟩
        refine ⟨by show 2 ≤ sizeLine; decide, fun t nt => ?_⟩
        obtain ⟨f1, f2, AR', f3, f4, f5, f6, f7⟩ := fin _ t "sea" u4 B4 hn4 hR4 nt (.inl rfl)
        exact ⟨l, _, _, rfl, rfl, f1, f2, _, _, AR', rfl, f3, f4, f5, f6, f7⟩
    · rintro σ H3 ⟨v4, v5, AR, rfl, u3, B3, hn3, hR, hS⟩
      have em : ((m : Int) - 0).toNat = ns.length := by omega
      rw [em] at hS
      have hG : GoodRows (rowsOf AR) := hS.good hok (by omega) (by omega)
      have hlA : (rowsOf AR).length = AR.length := List.length_map _
      have hG1 := hG.most
      refine ⟨_, rfl, _, rfl, p, l, _, rfl, B3, npl.symm, .inl (.inl hR.lst), by rw [List.length_map]; omega, fun H5 l5 zs u5 B5 nl5 nl5p hl5 hp => ?_⟩
      obtain ⟨AR', e1, hp'⟩ := perm_lift hp AR rfl
      subst e1
      have nl5H : H l5 = none := by
        cases e : H l5 with
        | none => rfl
        | some o =>
          rw [u3 l5 o e nl5p] at nl5
          cases nl5
      refine k H5 l5 AR' (u3.trans u5) B5 nl5H nl5p ⟨hl5, fun q hq => ?_⟩ (hG.perm (hp'.map _)) ?_
      · have h3 := hR.tup q (hp'.mem_iff.mp hq)
        exact u5 _ _ h3 (bag_ne B3 h3)
      · rw [(hp'.map (·.2)).length_eq]
        have := congrArg List.length hS.fst
        rw [List.length_map, List.take_length] at this
        show (rowsOf AR).length = m
        omega
end
end K0
end
section
set_option Elab.async false
set_option linter.all false
set_option maxRecDepth 100000
namespace L2
open PySem PySem.Spec PyProof.Rows
section
variable {X : Cx}
/-- name = {..} on one line, the name a local -/
theorem k0_setDc {i : Nat} {y : Str} {py : Pos} {kx vx tg iter : Expr} {ifs : List Expr} {scope : Scope} {own : List (Str × Nat)} {pos spos : Pos} {wi : TI} {g : TG} {tt : TT} {tk tv : TE} (hc : X.calm = true) (hN : X.N.Nodup) (hy : X.N[i]? = some y) (hyl : X.env.scope.names.lookup y = some .local)
    (hsw : swapsWith (.DictComp kx vx [⟨tg, iter, ifs, 0⟩] scope pos) (some (.Name y py)) spos.line X.env = pure true) (hi : PI X tg iter wi) (ok : BlkOk X.N X.env.scope scope own)
    (hg : ∀ (s : Shared) (H : Hp) (C : Addr) (cl : List (Str × Addr)) (fp : List Addr), PG (X.blk s H scope (compEnvC scope cl C X.env) fp) tg g) (ht : ∀ (s : Shared) (H : Hp) (C : Addr) (cl : List (Str × Addr)) (fp : List Addr), PTs (X.blk s H scope (compEnvC scope cl C X.env) fp) ifs tt)
    (hk : ∀ (s : Shared) (H : Hp) (C : Addr) (cl : List (Str × Addr)) (fp : List Addr), PE (X.blk s H scope (compEnvC scope cl C X.env) fp) kx tk)
    (he : ∀ (s : Shared) (H : Hp) (C : Addr) (cl : List (Str × Addr)) (fp : List Addr), PE (X.blk s H scope (compEnvC scope cl C X.env) fp) vx tv) (hs : ∀ x, foldedSetIterable iter X.env x = pure x := by intro _; rfl) :
    PS X (.Assign [.Name y py] (.DictComp kx vx [⟨tg, iter, ifs, 0⟩] scope pos) spos) (tAsg (tDc wi g tt tk tv (own.map (·.2))) (gName i)) := by
  refine ⟨fun pins s σ H D I h => ?_⟩
  rw [exec_Assign_Name_used _ _ _ _ hsw]
  refine wpAny_bind (wpAny_standAt (wpAny_bind ?_))
  show wpAny _ X.A (do let _ ← comprehension (.DictComp kx vx [⟨tg, iter, ifs, 0⟩] scope pos) scope X.env (firstIterPos [⟨tg, iter, ifs, 0⟩] pos) newDict false (eval iter X.env) (some (assign (.Name y py) X.env))) _ _ s
  have h : tDc wi g tt tk tv (own.map (·.2)) σ H (fun x H1 => gName i x σ H1 D.nx) := h
  refine wpAny_bind (thn (dc_core (Qf := fun _ s' => SP X pins D .next s') hc hN I hi ok hg ht hk he hs h fun L C s' m H' I' q hn f => ?_) fun _ s' hq => wpAny_pure (wpAny_pure hq))
  show wpAny _ _ (assign (.Name y py) X.env (.ref L)) _ _ _
  refine wpAny_assign_Name (store_ok2 (v := V.ref L) I' hN hy (.inl hyl) rfl (fun s2 I2 ⟨a, sb, ha⟩ => ?_) (.inr hyl))
  obtain ⟨f0, f1, f2, f3, f4, f5⟩ := f
  have haC : C ≠ a := by
    rcases ha with z | z
    · rw [z]; exact f1
    · exact fun e => f4 y a z e.symm
  refine ⟨m, hn.sameBut sb haC, fun h3 sb3 => ?_⟩
  exact ⟨_, H', I2.turned (t' := s2.toks) (fun b o hb e => (sb3.2 b hb).trans e) f0 f1 f3 f4 f5, q⟩
theorem k0_sw {kx vx : Expr} {gs : List Comprehension} {scope : Scope} {pos py : Pos} {y : Str} {l : Nat} {env : Env} (hk : env.scope.kind = .function) (hy : env.scope.names.lookup y = some .local) (hl : (py.line == pos.line) = true)
    (ha : (scope.names.any fun (n, k) => n == y && (k == .local || k == .cell)) = false) : swapsWith (.DictComp kx vx gs scope pos) (some (.Name y py)) l env = pure true := by
  have ky : env.kindOf y = some .local := hy
  have hb : env.blockKind = .function := by unfold Env.blockKind; rw [hk]; rfl
  unfold swapsWith
  simp only [hb, ky, ha, Expr.pos, hl]
  rfl
/-- len of a dict, locked or not -/
theorem k0_lenD : CallR X (.builtin "len") (fun xs H Q => ∃ a kvs, xs = [V.ref a] ∧ Rd H a (.dK kvs) ∧ Q (.int kvs.length) H) := by
  intro pins s σ H xs us Q I r h
  obtain ⟨a, kvs, rfl, ha, q⟩ := h
  obtain ⟨u, rfl, ru⟩ := vals1 r
  cases ru
  exact d_len I ha fun t s' I' => ⟨.int kvs.length, H, I', ⟨t, rfl⟩, q⟩
end
end L2
namespace K0
open PySem PySem.Spec PyProof.Rows L2
theorem iteD {c A B : Prop} [Decidable c] (hc : c) (h : A) : if decide c = true then A else B := by
  rw [decide_eq_true hc]
  exact iteT h
theorem iteDn {c A B : Prop} [Decidable c] (hc : ¬ c) (h : B) : if decide c = true then A else B := by
  rw [decide_eq_false hc]
  exact iteF h
/-- the module's constants -/
structure Gc (mg : Str → Option Value) (tS tM tL : Tok) : Prop where
  SEA : mg "SEA" = some (.str "sea" tS)
  MOST_ROWS : mg "MOST_ROWS" = some (.int 40 tM)
  LONGEST_NAME : mg "LONGEST_NAME" = some (.int 8 tL)
abbrev scIsName_N : List Str := ["value", "letter"]
abbrev scIsName_S : Stmt := sIsName
theorem scIsName : FnScope scIsName_N ["value"] (defScope sIsName) := ⟨rfl, rfl, rfl, by decide +kernel, rfl, by decide +kernel, by decide +kernel⟩
theorem scIsRow : FnScope ["entry"] ["entry"] (defScope sIsRow) := ⟨rfl, rfl, rfl, by decide +kernel, rfl, by decide +kernel, by decide +kernel⟩
def spIsName : Sp := fun vs H Q _ => ∃ x : Str, vs = [.str x] ∧ NameOk x ∧ ∀ H', Same H H' → Q (.bl true) H'
/-- a row: a name that is not the sea's, and a name -/
structure RowOk (r : Row) : Prop where
  a : NameOk r.1
  b : NameOk r.2
  s : r.1 ≠ "sea"
def spIsRow (K : PySem.W.Frag) : Sp := fun vs H Q _ => ∃ (t : Addr) (r : Row), vs = [.ref t] ∧ H t = some (.tup [.str r.1, .str r.2]) ∧ RowOk r ∧ ∀ H', Same H H' → Q (.bl true) H'
theorem le_low1 {c : Nat} (h : Low c) : (!decide (([c] : List Nat) < [97])) = true := by
  have : ¬ ([c] : List Nat) < [97] := by
    intro z
    rw [List.cons_lt_cons_iff] at z
    rcases z with z | ⟨_, z⟩
    · have := h.1; omega
    · exact absurd z (List.not_lt_nil _)
  rw [decide_eq_false this]
  rfl
theorem le_low2 {c : Nat} (h : Low c) : (!decide (([122] : List Nat) < [c])) = true := by
  have : ¬ ([122] : List Nat) < [c] := by
    intro z
    rw [List.cons_lt_cons_iff] at z
    rcases z with z | ⟨_, z⟩
    · have := h.2; omega
    · exact absurd z (List.not_lt_nil _)
  rw [decide_eq_false this]
  rfl
theorem sea_ok : NameOk "sea" := ⟨by rw [sea_list]; decide, by rw [sea_list]; decide, by
  rw [sea_list]
  intro c hc
  have : c = 115 ∨ c = 101 ∨ c = 97 := by simpa [seaL] using hc
  constructor <;> omega⟩
section
variable {P : Program} {w : World} {K : PySem.W.Frag} {mg : Str → Option Value} {base : Heap} {tS tM tL : Tok}
theorem ok_isname {f : Addr} {fd : FuncData} (F : FnP K "is_name" sIsName f fd) (B : Bl mg) (C : Gc mg tS tM tL) : FnOk P w K mg base CX0 1 f fd ["value"] spIsName := by
  refine F.ok scIsName (fun vs H Q E h => ?_) (fun cdv A outer s H vs Q E hr h => ?_)
  · obtain ⟨x, rfl, _⟩ := h
    rfl
  · obtain ⟨x, rfl, hx, k⟩ := h
    refine ⟨_, PSs.nox (pss_cons
      (ps_if (pt_not (pt_val (pe_callB call_isi (by rfl) B.isinstance (by decide +kernel) (pa_cons (pv 0) (pa_cons (pe_bltn (v := .ty "str") (by rfl) B.str (by decide +kernel) rfl) pa_nil))))) (pss_one
      (ps_ret pe_bl)) pss_nil)
      (pss_one
      (ps_ret (pe_and (pe_chain op_le op_le pe_int (pe_callB call_len_str (by rfl) B.len PySem.boot_len (pa_cons (pv 0) pa_nil)) (pe_glob (v := .int 8) (by rfl) C.LONGEST_NAME ⟨_, rfl⟩)) (pe_one (pe_callB (cr_all rfl) (by rfl) B.all (by decide +kernel) (pa_cons (pe_lc (own := [("letter", 1)]) (g := gName 1) (tt := tYes) (by rfl) scIsName.nd (pi_str (pv 0)) (blkOk_by (own := [("letter", 1)]) (N := scIsName_N) (sc := defScope scIsName_S) (by decide +kernel)) (fun _ _ _ _ _ => (pg_name (i := 1) scIsName.nd rfl (Or.inl rfl))) (fun _ _ _ _ _ => pts_nil) (fun _ _ _ _ _ => (pe_chain op_le_str op_le_str pe_str (pv 1) pe_str))) pa_nil))))))), ?_⟩
    refine ⟨_, rfl, .str x, .ty "str", _, _, true, rfl, .ty "str", .base (.str x), kit_ty (by decide +kernel), _, rfl, ?_⟩
    refine iteF ?_
    have hz : x.length ≤ sizeLine := Nat.le_of_lt (small1000 (by have := hx.most; rw [len_list]; omega))
    have hz1 : 1 ≤ x.length := by rw [len_list]; exact hx.one
    have hz2 : x.length ≤ 8 := by rw [len_list]; exact hx.most
    refine ⟨_, rfl, x, rfl, hz, 1, (x.length : Int), rfl, rfl, _, rfl, ?_⟩
    refine iteD (by omega) ?_
    refine ⟨_, _, rfl, rfl, _, rfl, ?_⟩
    refine iteD (by omega) ?_
    refine ⟨_, rfl, x, rfl, fun D hD => ?_⟩
    refine lc_it (walk_str (z := x)) (fun i H2 => Same H H2 ∧ H2 D = some (.lst ((List.replicate i true).map V.bl))) ⟨same_upd hD, upd_same⟩ (fun _ _ _ _ => trivial) ?_ ?_
    · rintro i v H2 H3 hi ⟨s2, hD2⟩ ⟨e, c, hc, ev⟩
      subst e
      subst ev
      have hlow : Low c := hx.low c (by
        rw [← Array.getElem?_toList] at hc
        exact List.mem_of_getElem? hc)
      refine ⟨rfl, ?_⟩
      unfold tYes
      refine iteT ?_
      refine ⟨_, rfl, "a", ⟨#[c]⟩, rfl, rfl, _, rfl, ?_⟩
      have q1 := le_low1 hlow
      have q2 := le_low2 hlow
      refine Eq.mpr (if_pos q1) ?_
      refine ⟨⟨#[c]⟩, "z", rfl, rfl, _, hD2, ?_, fun b o hb => ?_, ?_⟩
      · rw [List.length_map, List.length_replicate]
        have h8 := hx.most
        rw [Array.length_toList] at h8
        exact small1000 (by omega)
      · rw [upd_ne (ne_of_none hb hD)]
        exact s2 b o hb
      · rw [upd_same, List.replicate_succ', List.map_append]
        have q3 : (!decide ((("z" : Str)).cps.toList < (⟨#[c]⟩ : Str).cps.toList)) = true := q2
        rw [q3]
        rfl
    · rintro H2 ⟨s2, hD2⟩
      refine ⟨D, List.replicate x.cps.size true, rfl, .inl (.inl hD2), ?_⟩
      have e : ((List.replicate x.cps.size true).all id) = true := by
        rw [List.all_eq_true]
        intro b hb
        exact (List.mem_replicate.mp hb).2
      rw [e]
      exact k H2 s2
theorem ok_isrow {f fN : Addr} {fd fdN : FuncData} (F : FnP K "_is_row" sIsRow f fd) (F_is_name : FnP K "is_name" sIsName fN fdN) (gis_name : mg "is_name" = some (.ref fN)) (B : Bl mg) (C : Gc mg tS tM tL) : FnOk P w K mg base CX0 2 f fd ["entry"] (spIsRow K) := by
  have Gis_name : FnOk P w K mg base CX0 1 fN fdN ["value"] spIsName := ok_isname F_is_name B C
  have bis_name : Binds K fdN ["value"] [] := F_is_name.bindsN fun _ _ _ _ _ _ us hl => match us, hl with | [_], _ => rfl
  refine F.ok scIsRow (fun vs H Q E h => ?_) (fun cdv A outer s H vs Q E hr h => ?_)
  · obtain ⟨t, r, rfl, _⟩ := h
    rfl
  · obtain ⟨t, r, rfl, ht, hR, k⟩ := h
    have hris_name : Room 1 _ := hr.mono (by decide)
    have Fis_name := F_is_name
    refine ⟨_, PSs.nox (pss_cons
      (ps_if (PW.pt (pw_or (pt_not (pt_val (pe_callB call_isi (by rfl) B.isinstance (by decide +kernel) (pa_cons (pv 0) (pa_cons (pe_bltn (v := .ty "tuple") (by rfl) B.tuple (by decide +kernel) rfl) pa_nil))))) (pw_or1 (pt_cmpR op_ne (pe_callB call_len_seq (by rfl) B.len PySem.boot_len (pa_cons (pv 0) pa_nil)) pe_int (nomark _))))) (pss_one
      (ps_ret pe_bl)) pss_nil)
      (pss_one
      (ps_ret (pe_and (pe_call Gis_name hris_name (by rfl) gis_name Fis_name.kp bis_name .nil pass0 (pa_cons (pe_ix ix_tup (pv 0) pe_int (fun _ _ => rfl)) pa_nil)) (pe_and (pe_call Gis_name hris_name (by rfl) gis_name Fis_name.kp bis_name .nil pass0 (pa_cons (pe_ix ix_tup (pv 0) pe_int (fun _ _ => rfl)) pa_nil)) (pe_one (pe_cmpR op_ne (pe_ix ix_tup (pv 0) pe_int (fun _ _ => rfl)) (pe_glob (v := .str "sea") (by rfl) C.SEA ⟨_, rfl⟩) (nomark _)))))))), ?_⟩
    have g : ∀ H', Same H H' → SqT K H' t [.str r.1, .str r.2] := fun H' s => .inl (.inl (s _ _ ht))
    refine ⟨_, rfl, .ref t, .ty "tuple", _, _, true, rfl, .ty "tuple", .base (.tup ht), kit_ty (by decide +kernel), _, rfl, ?_⟩
    refine iteF ?_
    refine ⟨_, rfl, t, _, rfl, .inr (g _ (.refl _)), rfl, _, rfl, ?_⟩
    refine iteNS rfl ?_
    refine ⟨_, rfl, t, _, _, _, rfl, rfl, g _ (.refl _), atI_nat (j := 0) rfl, r.1, rfl, hR.a, fun H1 s1 => ⟨_, rfl, iteT ?_⟩⟩
    refine ⟨_, rfl, t, _, _, _, rfl, rfl, g _ s1, atI_nat (j := 1) rfl, r.2, rfl, hR.b, fun H2 s2 => ⟨_, rfl, iteT ?_⟩⟩
    refine ⟨_, rfl, t, _, _, _, rfl, rfl, g _ (s1.trans s2), atI_nat (j := 0) rfl, rfl, ?_⟩
    have e : (!decide (V.str r.1 = V.str "sea")) = true := by
      rw [decide_eq_false (fun z => hR.s (V.str.inj z))]
      rfl
    show Q (.bl (!decide (V.str r.1 = V.str "sea"))) H2
    rw [e]
    exact k H2 (s1.trans s2)
end
end K0
end
section
set_option Elab.async false
set_option linter.all false
set_option maxRecDepth 100000
namespace K0
open PySem PySem.Spec PyProof.Rows L2
/-! ### dicts by names -/
def kmap (f : Str → V) (ns : List Str) : List (Key × V) := ns.map fun n => ((Sum.inr n : Key), f n)
theorem kmap_len (f : Str → V) (ns : List Str) : (kmap f ns).length = ns.length := List.length_map _
theorem kmap_keys (f : Str → V) (ns : List Str) : (kmap f ns).map (·.1) = ns.map Sum.inr := by
  unfold kmap
  rw [List.map_map]
  rfl
theorem kmap_not {f : Str → V} {ns : List Str} {x : Str} (h : x ∉ ns) : valV (kmap f ns) (Sum.inr x) = none := by
  cases e : valV (kmap f ns) (Sum.inr x) with
  | none => rfl
  | some v =>
    have m := valV_in e
    rw [kmap_keys] at m
    obtain ⟨y, hy, ey⟩ := List.mem_map.mp m
    rw [Sum.inr.inj ey] at hy
    exact absurd hy h
theorem kmap_at {f : Str → V} : ∀ {ns : List Str} {x : Str}, x ∈ ns → valV (kmap f ns) (Sum.inr x) = some (f x)
  | n :: r, x, h => by
    by_cases e : n = x
    · subst e
      unfold kmap valV
      rw [List.map_cons, List.find?_cons_of_pos (by simp)]
      rfl
    · have h' : x ∈ r := (List.mem_cons.mp h).resolve_left fun z => e z.symm
      have ih := kmap_at (f := f) h'
      unfold kmap valV at ih ⊢
      rw [List.map_cons, List.find?_cons_of_neg (by simp [e])]
      exact ih
theorem kmap_put {f : Str → V} {ns : List Str} {x : Str} (h : x ∉ ns) : putK (kmap f ns) (Sum.inr x) (f x) = kmap f (ns ++ [x]) := by
  rw [putK_new _ (kmap_not h)]
  unfold kmap
  rw [List.map_append]
  rfl
theorem GoodRows.row {R : List Row} (g : GoodRows R) {r : Row} (h : r ∈ R) : RowOk r := by
  have h1 : r.1 ∈ R.map (·.1) := List.mem_map.mpr ⟨r, h, rfl⟩
  obtain ⟨rk, hr⟩ := g.rank
  refine ⟨g.nm.ok _ h1, ?_, g.nm.sea _ h1⟩
  rcases hr r h with e | ⟨e, _⟩
  · rw [e]
    exact sea_ok
  · exact g.nm.ok _ e
theorem row_at {AR : List (Addr × Row)} {i : Nat} {x : V} (e : (AR.map fun q => V.ref q.1)[i]? = some x) (hi : i < AR.length) : x = .ref AR[i].1 := by
  rw [List.getElem?_map, List.getElem?_eq_getElem hi] at e
  exact (Option.some.inj e).symm
theorem nmlen (AR : List (Addr × Row)) : ((rowsOf AR).map (·.1)).length = AR.length := by rw [List.length_map, List.length_map]
abbrev scNeedRows_N : List Str := ["rows", "weirs", "place", "entry", "_", "low"]
theorem scNeedRows : FnScope scNeedRows_N ["rows"] (defScope sNeedRows) := ⟨rfl, rfl, rfl, by decide +kernel, rfl, by decide +kernel, by decide +kernel⟩
def spNeedRows (K : PySem.W.Frag) : Sp := fun vs H Q _ => ∃ (l : Addr) (AR : List (Addr × Row)), vs = [.ref l] ∧ RowsAt H l AR ∧ GoodRows (rowsOf AR) ∧ ∀ H', Same H H' → Q .non H'
section
variable {P : Program} {w : World} {K : PySem.W.Frag} {mg : Str → Option Value} {base : Heap} {tS tM tL : Tok}
theorem ok_needrows {f fN fR : Addr} {fd fdN fdR : FuncData} (F : FnP K "_need_rows" sNeedRows f fd) (F_is_name : FnP K "is_name" sIsName fN fdN) (gis_name : mg "is_name" = some (.ref fN))
    (F_is_row : FnP K "_is_row" sIsRow fR fdR) (g_is_row : mg "is_row_rivers" = some (.ref fR)) (B : Bl mg) (C : Gc mg tS tM tL) : FnOk P w K mg base CX0 3 f fd ["rows"] (spNeedRows K) := by
  have G_is_row : FnOk P w K mg base CX0 2 fR fdR ["entry"] (spIsRow K) := ok_isrow F_is_row F_is_name gis_name B C
  have b_is_row : Binds K fdR ["entry"] [] := F_is_row.bindsN fun _ _ _ _ _ _ us hl => match us, hl with | [_], _ => rfl
  refine F.ok scNeedRows (fun vs H Q E h => ?_) (fun cdv A outer s H vs Q E hr h => ?_)
  · obtain ⟨l, AR, rfl, _⟩ := h
    rfl
  · obtain ⟨l, AR, rfl, hR, hG, k⟩ := h
    have hu := hu_of hr
    have hr_is_row : Room 2 _ := hr.mono (by decide)
    refine ⟨_, PSs.nox (pss_cons
      (ps_if (PW.pt (pw_or (pt_not (pt_val (pe_callB call_isi (by rfl) B.isinstance (by decide +kernel) (pa_cons (pv 0) (pa_cons (pe_bltn (v := .ty "list") (by rfl) B.list (by decide +kernel) rfl) pa_nil))))) (pw_or1 (pt_not (pt_chain op_le op_le pe_int (pe_callB call_len_seq (by rfl) B.len PySem.boot_len (pa_cons (pv 0) pa_nil)) (pe_glob (v := .int 40) (by rfl) C.MOST_ROWS ⟨_, rfl⟩)))))) (pss_one
      ps_never) pss_nil)
      (pss_cons
      (ps_set (i := 1) scNeedRows.nd rfl (Or.inl rfl) pe_dnewK)
      (pss_cons
      (ps_for PassesOwn.never rfl (pi_enum (by rfl) B.enumerate (pa_cons (pv 0) pa_nil)) (pg_tup (by rfl) (pgs_cons (pg_name (i := 2) scNeedRows.nd rfl (Or.inl rfl)) (pgs_cons (pg_name (i := 3) scNeedRows.nd rfl (Or.inl rfl)) pgs_nil))) (pss_cons
      (ps_if (PW.pt (pw_or (pt_not (pt_val (pe_call G_is_row hr_is_row (by rfl) g_is_row F_is_row.kp b_is_row .nil pass0 (pa_cons (pv 3) pa_nil)))) (pw_or1 (pt_cmp (pc_din hu (pe_ix ix_tup (pv 3) pe_int (fun _ _ => rfl)) (pv 1)))))) (pss_one
      ps_never) pss_nil)
      (pss_one
      (ps_dput hu (pv 1) (pe_ix ix_tup (pv 3) pe_int (fun _ _ => rfl)) pe_bl rfl))))
      (pss_one
      (ps_for PassesOwn.never rfl (pi_enum (by rfl) B.enumerate (pa_cons (pv 0) pa_nil)) (pg_tup (by rfl) (pgs_cons (pg_name (i := 2) scNeedRows.nd rfl (Or.inl rfl)) (pgs_cons (pg_tup (by rfl) (pgs_cons (pg_name (i := 4) scNeedRows.nd rfl (Or.inl rfl)) (pgs_cons (pg_name (i := 5) scNeedRows.nd rfl (Or.inl rfl)) pgs_nil))) pgs_nil))) (pss_one
      (ps_if (PW.pt (pw_and (pt_cmpR op_ne (pv 5) (pe_glob (v := .str "sea") (by rfl) C.SEA ⟨_, rfl⟩) (nomark _)) (pw_and1 (pt_cmp (pc_dnotin hu (pv 5) (pv 1)))))) (pss_one
      ps_never) pss_nil))))))), ?_⟩
    refine ⟨_, rfl, .ref l, .ty "list", _, _, true, rfl, .ty "list", .base (.lst hR.lst), kit_ty (by decide +kernel), _, rfl, ?_⟩
    refine iteF ?_
    have hlen : (AR.map fun q => V.ref q.1).length = (rowsOf AR).length := by rw [List.length_map, List.length_map]
    have ho := hG.one
    have hm := hG.most
    refine ⟨_, rfl, l, _, rfl, .inl (.inl (.inl hR.lst)), 1, _, rfl, rfl, _, rfl, ?_⟩
    refine iteD (by omega) ?_
    refine ⟨_, _, rfl, rfl, _, rfl, ?_⟩
    refine iteNS (by omega) ?_
    intro D hD
    have s0 : Same H (upd H D (.dK [])) := same_upd hD
    have hnd := hG.nm.nd
    -- the first loop
    refine ⟨_, rfl, l, _, rfl, s0.seq (.inl (.inl hR.lst)), ?_⟩
    refine for_it (walk_enum (xs := AR.map fun q => V.ref q.1)) (fun i σ H2 => ∃ (v2 v3 v4 v5 : Option V), σ = [some (.ref l), some (.ref D), v2, v3, v4, v5] ∧ Same H H2 ∧ H2 D = some (.dK (kmap (fun _ => .bl true) (((rowsOf AR).map (·.1)).take i))))
      ⟨_, _, _, _, rfl, s0, by rw [upd_same, List.take_zero]; rfl⟩ (fun _ _ _ _ h => by obtain ⟨_, _, _, _, _, s, _⟩ := h; exact s.seq (.inl (.inl hR.lst))) ?_ ?_
    · rintro i x σ H2 H3 hi ⟨v2, v3, v4, v5, rfl, s2, hD2⟩ ⟨T, x1, x2, rfl, hT, rfl, e1, e2⟩
      rw [List.length_map] at hi
      have hx1 : x1 = .int (i : Int) := (Option.some.inj e1).symm
      subst hx1
      have hx2 : x2 = .ref AR[i].1 := row_at e2 hi
      subst hx2
      have hmem : AR[i] ∈ AR := List.getElem_mem hi
      have hrow : AR[i].2 ∈ rowsOf AR := List.mem_map.mpr ⟨_, hmem, rfl⟩
      have hok := hG.row hrow
      have s3 : Same H (upd H2 T (.tup [.int (i : Int), .ref AR[i].1])) := s2.trans (same_upd hT)
      have hD3 : (upd H2 T (.tup [.int (i : Int), .ref AR[i].1])) D = some (.dK (kmap (fun _ => .bl true) (((rowsOf AR).map (·.1)).take i))) := by
        rw [upd_ne (ne_of_none hD2 hT)]
        exact hD2
      have hni : ((rowsOf AR).map (·.1))[i]? = some AR[i].2.1 := by
        rw [List.getElem?_map, List.getElem?_map, List.getElem?_eq_getElem hi]
        rfl
      have hnot : AR[i].2.1 ∉ ((rowsOf AR).map (·.1)).take i := by
        intro hm2
        obtain ⟨j, hj⟩ := List.getElem?_of_mem hm2
        have hji : j < i := by
          have := (List.getElem?_eq_some_iff.mp hj).1
          rw [List.length_take] at this
          omega
        rw [List.getElem?_take_of_lt hji] at hj
        have := nd_ix hnd hj hni
        omega
      refine ⟨T, _, rfl, .inl (.inl upd_same), rfl, _, _, rfl, _, _, rfl, rfl, ?_⟩
      refine ⟨_, rfl, AR[i].1, AR[i].2, rfl, s3 _ _ (hR.tup _ hmem), hok, fun H4 s4 => ⟨_, rfl, ?_⟩⟩
      refine iteF ?_
      have s5 : Same H H4 := s3.trans s4
      have hD4 := s4 _ _ hD3
      have ht4 : SqT K H4 AR[i].1 [.str AR[i].2.1, .str AR[i].2.2] := .inl (.inl (s5 _ _ (hR.tup _ hmem)))
      refine ⟨_, rfl, AR[i].1, _, _, _, rfl, rfl, ht4, atI_nat (j := 0) rfl, _, rfl, D, _, rfl, DGet.k (k := Sum.inr AR[i].2.1) hD4, _, rfl, ?_⟩
      rw [kmap_not hnot]
      refine iteF ?_
      refine ⟨_, rfl, _, rfl, AR[i].1, _, _, _, rfl, rfl, ht4, atI_nat (j := 0) rfl, D, _, rfl, DPut.k (k := Sum.inr AR[i].2.1) hD4 ?_, ?_⟩
      · rw [kmap_len, List.length_take, nmlen]
        rw [List.length_map] at hm
        exact small1000 (by omega)
      · refine ⟨_, _, _, _, rfl, fun b o hb => ?_, ?_⟩
        · rw [upd_ne (ne_of_none hb hD)]
          exact s5 b o hb
        · have := kmap_put (f := fun _ => .bl true) hnot
          rw [upd_same, this, List.take_add_one, hni]
          rfl
    · rintro σ H2 ⟨v2, v3, v4, v5, rfl, s2, hD2⟩
      rw [List.take_of_length_le (by rw [List.length_map, List.length_map, List.length_map]; exact Nat.le_refl _)] at hD2
      obtain ⟨rk, hrk⟩ := hG.rank
      refine ⟨_, rfl, l, _, rfl, s2.seq (.inl (.inl hR.lst)), ?_⟩
      refine for_it (walk_enum (xs := AR.map fun q => V.ref q.1)) (fun i σ H3 => ∃ (v2 v3 v4 v5 : Option V), σ = [some (.ref l), some (.ref D), v2, v3, v4, v5] ∧ Same H2 H3)
        ⟨_, _, _, _, rfl, .refl _⟩ (fun _ _ _ _ h => by obtain ⟨_, _, _, _, _, s⟩ := h; exact (s2.trans s).seq (.inl (.inl hR.lst))) ?_ ?_
      · rintro i x σ H3 H4 hi ⟨v2, v3, v4, v5, rfl, s3⟩ ⟨T, x1, x2, rfl, hT, rfl, e1, e2⟩
        rw [List.length_map] at hi
        have hx2 : x2 = .ref AR[i].1 := row_at e2 hi
        subst hx2
        have hmem : AR[i] ∈ AR := List.getElem_mem hi
        have hrow : AR[i].2 ∈ rowsOf AR := List.mem_map.mpr ⟨_, hmem, rfl⟩
        have s4 : Same H2 (upd H3 T (.tup [x1, .ref AR[i].1])) := s3.trans (same_upd hT)
        have ht4 : SqT K (upd H3 T (.tup [x1, .ref AR[i].1])) AR[i].1 [.str AR[i].2.1, .str AR[i].2.2] := .inl (.inl (s4 _ _ (s2 _ _ (hR.tup _ hmem))))
        refine ⟨T, _, rfl, .inl (.inl upd_same), rfl, _, _, rfl, _, _, rfl, _, _, rfl, ht4, rfl, _, _, rfl, _, _, rfl, rfl, rfl, ?_⟩
        have hc : AR[i].2.2 = "sea" ∨ AR[i].2.2 ∈ (rowsOf AR).map (·.1) := by
          rcases hrk _ hrow with e | ⟨e, _⟩
          · exact .inl e
          · exact .inr e
        refine ⟨_, rfl, rfl, _, rfl, ?_⟩
        refine ite2 (fun h1 => ?_) (fun h1 => ?_)
        · have hmm : AR[i].2.2 ∈ (rowsOf AR).map (·.1) := by
            rcases hc with e | e
            · rw [decide_eq_true (congrArg V.str e)] at h1
              cases h1
            · exact e
          refine ⟨_, rfl, _, rfl, D, _, rfl, DGet.k (k := Sum.inr AR[i].2.2) (s4 _ _ hD2), _, rfl, ?_⟩
          rw [kmap_at hmm]
          refine iteF ?_
          exact ⟨_, _, _, _, rfl, s4⟩
        · exact ⟨_, _, _, _, rfl, s4⟩
      · rintro σ H3 ⟨v2, v3, v4, v5, rfl, s3⟩
        exact k H3 (s2.trans s3)
end
end K0
end
section
set_option Elab.async false
set_option linter.all false
set_option maxRecDepth 100000
namespace K0
open PySem PySem.Spec PyProof.Rows L2
/-! ### courses -/
def lowR (R : List Row) (x : Str) : Str := ((R.find? fun r => decide (r.1 = x)).map (·.2)).getD "sea"
def itr (low : Str → Str) : Nat → Str → Str
  | 0, x => x
  | n + 1, x => low (itr low n x)
theorem itr_shift (low : Str → Str) : ∀ (n : Nat) (x : Str), itr low (n + 1) x = itr low n (low x)
  | 0, _ => rfl
  | n + 1, x => by
    show low (itr low (n + 1) x) = low (itr low n (low x))
    rw [itr_shift low n x]
def crs (low : Str → Str) : Nat → Str → List Str
  | 0, _ => []
  | n + 1, x => if x = "sea" then [] else x :: crs low n (low x)
def course (R : List Row) (x : Str) : List Str := crs (lowR R) R.length x
theorem low_row {R : List Row} {x : Str} (h : x ∈ R.map (·.1)) : ∃ r ∈ R, r.1 = x ∧ r.2 = lowR R x := by
  unfold lowR
  cases e : R.find? (fun r => decide (r.1 = x)) with
  | none =>
    obtain ⟨r, hr, er⟩ := List.mem_map.mp h
    have := List.find?_eq_none.mp e r hr
    exact absurd (decide_eq_true er) this
  | some r =>
    have h1 := List.mem_of_find?_eq_some e
    have h2 := List.find?_some e
    exact ⟨r, h1, of_decide_eq_true h2, rfl⟩
theorem low_at {R : List Row} (hd : (R.map (·.1)).Nodup) {r : Row} (h : r ∈ R) : lowR R r.1 = r.2 := by
  obtain ⟨q, hq, e1, e2⟩ := low_row (List.mem_map.mpr ⟨r, h, rfl⟩)
  obtain ⟨i, hi⟩ := List.getElem?_of_mem h
  obtain ⟨j, hj⟩ := List.getElem?_of_mem hq
  have g1 : (R.map (·.1))[i]? = some r.1 := by rw [List.getElem?_map, hi]; rfl
  have g2 : (R.map (·.1))[j]? = some r.1 := by rw [List.getElem?_map, hj, ← e1]; rfl
  have : i = j := nd_ix hd g1 g2
  subst this
  rw [hi] at hj
  rw [← e2, Option.some.inj hj]
theorem sub_length : ∀ {c ns : List Str}, c.Nodup → (∀ x ∈ c, x ∈ ns) → c.length ≤ ns.length
  | [], _, _, _ => Nat.zero_le _
  | a :: r, ns, h, hs => by
    obtain ⟨h1, h2⟩ := List.nodup_cons.mp h
    have ha : a ∈ ns := hs a List.mem_cons_self
    have ih := sub_length (ns := ns.erase a) h2 fun x hx => (List.mem_erase_of_ne (fun e => h1 (by rw [← e]; exact hx))).mpr (hs x (List.mem_cons_of_mem _ hx))
    rw [List.length_erase_of_mem ha] at ih
    have : 0 < ns.length := List.length_pos_of_mem ha
    rw [List.length_cons]
    omega
theorem crs_full (low : Str → Str) : ∀ (m n : Nat) (x : Str), m ≤ n → (∀ i, i < m → itr low i x ≠ "sea") → itr low m x = "sea" → crs low n x = (List.range m).map fun i => itr low i x
  | 0, n, x, _, _, h => by
    have h : x = "sea" := h
    subst h
    cases n with
    | zero => rfl
    | succ n => rfl
  | m + 1, 0, _, h, _, _ => absurd h (by omega)
  | m + 1, n + 1, x, h, h1, h2 => by
    have h0 : x ≠ "sea" := h1 0 (by omega)
    have ih := crs_full low m n (low x) (by omega) (fun i hi => by rw [← itr_shift]; exact h1 (i + 1) (by omega)) (by rw [← itr_shift]; exact h2)
    show (if x = "sea" then [] else x :: crs low n (low x)) = _
    rw [if_neg h0, ih, List.range_succ_eq_map, List.map_cons, List.map_map]
    refine congrArg (x :: ·) (List.map_congr_left fun i _ => ?_)
    exact (itr_shift low i x).symm
theorem reach {R : List Row} {rk : Str → Nat} (hr : ∀ r ∈ R, r.2 = "sea" ∨ (r.2 ∈ R.map (·.1) ∧ rk r.2 < rk r.1)) : ∀ (k : Nat) (x : Str), rk x ≤ k → x ∈ R.map (·.1) →
    ∃ m, 1 ≤ m ∧ (∀ i, i < m → itr (lowR R) i x ∈ R.map (·.1)) ∧ (∀ i j, i < j → j < m → rk (itr (lowR R) j x) < rk (itr (lowR R) i x)) ∧ itr (lowR R) m x = "sea" := by
  intro k
  induction k with
  | zero =>
    intro x hk hx
    obtain ⟨r, hrm, e1, e2⟩ := low_row hx
    rcases hr r hrm with e | ⟨e, h⟩
    · refine ⟨1, Nat.le_refl _, fun i hi => ?_, fun i j hij hj => by omega, ?_⟩
      · have : i = 0 := by omega
        subst this
        exact hx
      · show lowR R x = "sea"
        rw [← e2, e]
    · rw [e1] at h
      omega
  | succ k ih =>
    intro x hk hx
    obtain ⟨r, hrm, e1, e2⟩ := low_row hx
    rcases hr r hrm with e | ⟨e, h⟩
    · refine ⟨1, Nat.le_refl _, fun i hi => ?_, fun i j hij hj => by omega, ?_⟩
      · have : i = 0 := by omega
        subst this
        exact hx
      · show lowR R x = "sea"
        rw [← e2, e]
    · rw [e1, e2] at h
      rw [e2] at e
      obtain ⟨m, h1, h2, h3, h4⟩ := ih (lowR R x) (by omega) e
      have first : ∀ j, j < m → rk (itr (lowR R) j (lowR R x)) < rk x := by
        intro j hj
        rcases Nat.eq_zero_or_pos j with z | z
        · subst z
          exact h
        · exact Nat.lt_trans (h3 0 j z hj) h
      refine ⟨m + 1, by omega, fun i hi => ?_, fun i j hij hj => ?_, by rw [itr_shift]; exact h4⟩
      · cases i with
        | zero => exact hx
        | succ i =>
          rw [itr_shift]
          exact h2 i (by omega)
      · cases j with
        | zero => omega
        | succ j =>
          rw [itr_shift]
          cases i with
          | zero => exact first j (by omega)
          | succ i =>
            rw [itr_shift]
            exact h3 i j (by omega) (by omega)
/-- the course of a weir, and how long it is -/
structure CourseIs (R : List Row) (x : Str) (m : Nat) : Prop where
  one : 1 ≤ m
  most : m ≤ R.length
  eq : course R x = (List.range m).map fun i => itr (lowR R) i x
  mem : ∀ i, i < m → itr (lowR R) i x ∈ R.map (·.1)
  sea : itr (lowR R) m x = "sea"
theorem course_is {R : List Row} (g : GoodRows R) {x : Str} (hx : x ∈ R.map (·.1)) : ∃ m, CourseIs R x m := by
  obtain ⟨rk, hr⟩ := g.rank
  obtain ⟨m, h1, h2, h3, h4⟩ := reach hr (rk x) x (Nat.le_refl _) hx
  have hm : m ≤ R.length := by
    have nd : ((List.range m).map fun i => itr (lowR R) i x).Nodup := nodup_range _ _ fun i j hi hj e => by
      rcases Nat.lt_trichotomy i j with z | z | z
      · have := h3 i j z hj
        rw [e] at this
        omega
      · exact z
      · have := h3 j i z hi
        rw [e] at this
        omega
    have := sub_length nd fun y hy => by
      obtain ⟨i, hi, e⟩ := List.mem_map.mp hy
      rw [← e]
      exact h2 i (List.mem_range.mp hi)
    rw [List.length_map, List.length_range, List.length_map] at this
    exact this
  exact ⟨m, h1, hm, crs_full _ _ _ _ hm (fun i hi => g.nm.sea _ (h2 i hi)) h4, h2, h4⟩
theorem CourseIs.len {R : List Row} {x : Str} {m : Nat} (c : CourseIs R x m) : (course R x).length = m := by
  rw [c.eq, List.length_map, List.length_range]
end K0
end
section
set_option Elab.async false
set_option linter.all false
set_option maxRecDepth 100000
namespace L2
open PySem PySem.Spec PyProof.Rows
/-! ### rules with the text's part named, for the blocks of comprehensions -/
section
variable {X : Cx} {K : PySem.W.Frag}
theorem inK (e : X.K = K := by rfl) : OpR X (compareOp .In) (rIn K false) := e ▸ op_in_seq
theorem notInK (e : X.K = K := by rfl) : OpR X (compareOp .NotIn) (rIn K true) := e ▸ op_notIn_seq
theorem ixLK (e : X.K = K := by rfl) : IxR X (rIxL K) := e ▸ ix_list
theorem ixTK (e : X.K = K := by rfl) : IxR X (rIxT K) := e ▸ ix_tup
theorem lenK (e : X.K = K := by rfl) : CallR X (.builtin "len") (fun xs H Q => ∃ p ys, xs = [.ref p] ∧ (SqL K H p ys ∨ SqT K H p ys) ∧ Q (.int ys.length) H) := e ▸ call_len_seq
theorem listK (e : X.K = K := by rfl) : CallR X (.type "list") (fun xs H Q => ∃ p ys, xs = [.ref p] ∧ (SqL K H p ys ∨ SqT K H p ys) ∧ ∀ l, H l = none → Q (.ref l) (upd H l (.lst ys))) := e ▸ call_list_of
theorem tupleK (e : X.K = K := by rfl) : CallR X (.type "tuple") (fun xs H Q => ∃ p ys, xs = [.ref p] ∧ ((SqL K H p ys ∧ ∀ l, H l = none → Q (.ref l) (upd H l (.tup ys))) ∨ (SqT K H p ys ∧ Q (.ref p) H))) := e ▸ call_tuple_of
theorem fldK {o : Expr} {f : Str} {pos : Pos} {ta : TE} (he : PE X o ta) (hb : attributeBase o f X.env (eval o X.env) = eval o X.env) (e : X.K = K := by rfl) : PE X (.Attribute o f pos) (tFld K ta f) := e ▸ pe_fld he hb
theorem tgK {es : List Expr} {k : Nat} {pos : Pos} {t : TGs} {n : Nat} (hc : X.calm = true) (h : PGs X es t)
    (hn : (assignEach es X.env).length = n := by rfl) (hst : (assignEach es X.env).findIdx? (·.1) = none := by rfl) (e : X.K = K := by rfl) : PG X (.Tuple es k pos) (gTup K n t) := e ▸ pg_tup hc h hn hst
end
end L2
namespace L2
open PySem PySem.Spec PyProof.Rows
/-! ### tuples whose methods are called: the object is known to be plain -/
structure PlainT (o : Obj) : Prop where
  cls : o.cls = .type "tuple"
  dict : o.dict = none
section
variable {X : Cx} {K : PySem.W.Frag}
theorem k0_tupleF : CallR X (.type "tuple") (fun xs H Q => ∃ p ys, xs = [.ref p] ∧ SqL X.K H p ys ∧ ∀ l o, H l = none → PlainT o → Q (.ref l) (upd H l (.frz o (.tup ys)))) := by
  intro pins s σ H xs us Q I r h
  obtain ⟨p, ys, rfl, hq, q⟩ := h
  obtain ⟨u, rfl, rx⟩ := vals1 r
  cases rx
  obtain ⟨its, r', pl, hz⟩ := I.list hq
  have hlen := r'.length
  refine call_tuple_list pl.isList (fun h' kp => ?_) (by simp only [List.size_toArray] <;> omega)
  have I1 : Inv X pins σ H { s with heap := h' } := I.kept (t' := s.toks) kp
  have I2 : Inv X pins σ (upd H h'.objs.size (.frz { cls := .type "tuple", data := .seq its.toArray } (.tup ys))) { s with heap := h'.push { cls := .type "tuple", data := .seq its.toArray } } :=
    I1.laid (t' := s.toks) (fun b o e => Heap.get?_push_of_some _ e) (Nat.le_refl _) (show ObjOk X.prog X.w _ _ _ (.frz _ (.tup ys)) from ⟨Heap.get?_push_size _ rfl, hz, its, r', IsTup.new _ _⟩)
  exact ⟨.ref h'.objs.size, _, I2, rfl, q _ _ (I1.hok.fresh (Nat.le_refl _)) ⟨rfl, rfl⟩⟩
theorem tupleF (e : X.K = K := by rfl) : CallR X (.type "tuple") (fun xs H Q => ∃ p ys, xs = [.ref p] ∧ SqL K H p ys ∧ ∀ l o, H l = none → PlainT o → Q (.ref l) (upd H l (.frz o (.tup ys)))) := e ▸ k0_tupleF
/-- t.m(e, ..), t such a tuple -/
def tBMT (r : V → List V → Hp → VK → Prop) (to : TE) (t : TA) : TE := fun σ H Q => to σ H fun x H1 => (∃ p o xs, x = .ref p ∧ H1 p = some (.frz o (.tup xs)) ∧ PlainT o) ∧ t σ H1 fun xs H2 => r x xs H2 Q
variable {o e : Expr} {es : List Expr} {to : TE} {t : TA} {name : Str} {apos cpos : Pos} {id : String} {r : V → List V → Hp → VK → Prop}
theorem k0_bmT (slot : Slot "tuple" name id) (hty : typeOf (.builtin id) = pure (.type "method_descriptor")) (hm : MtR X id r) (ho : PE X o to) (ha : PA X (e :: es) t)
    (hbase : attributeBase o name X.env (eval o X.env) = eval o X.env := by rfl)
    (hfew : ((backTo cpos (starEach (e :: es) X.env)).all (fun x => !x.1) && (backToKw cpos (keywordEach [] X.env)).all (fun x => x.1.isSome)
      && decide ((e :: es).length + ([] : List Keyword).length + (if ([] : List Keyword).isEmpty then 0 else 1) < 30)) = true := by rfl)
    (hline : (apos.endLine == cpos.line) = true := by rfl) (hs : starEach (e :: es) X.env = (false, eval e X.env) :: starEach es X.env := by rfl) (hplain : (backTo cpos (starEach es X.env)).any (·.1) = false := by rfl) :
    PE X (.Call (.Attribute o name apos) (e :: es) [] cpos) (tBMT r to t) := by
  refine ⟨fun pins s σ H Q I h => ?_⟩
  refine wpAny_Call_method_late hbase hfew hline rfl (thn (ho.run pins s σ H _ I h) fun v s1 ⟨x, H1, I1, r1, ⟨p, ob, xs, ex, hp, pl⟩, q1⟩ => ?_)
  subst ex
  obtain rfl : v = Value.ref p := r1
  obtain ⟨hob, _⟩ := I1.hok p _ hp
  refine ⟨"tuple", id, PySem.F.plainAttrs_tuple, slot, hty, ⟨ob, hob, pl.cls⟩, fun a e => ?_, ?_⟩
  · cases e
    exact ⟨ob, hob, pl.dict⟩
  have hA := ha.run cpos pins s1 σ H1 _ I1 q1
  rw [hs] at hA ⊢
  refine Calls.callWith_builtin (by show (false || (backTo cpos (starEach es X.env)).any (·.1)) = false; rw [hplain] <;> rfl) (Calls.evalArgs_plain ?_)
  exact thn hA fun us s2 ⟨vs, H2, I2, r2, q2⟩ => hm pins s2 σ H2 (.ref p) vs (.ref p) us Q I2 rfl r2 q2
end
end L2
namespace K0
open PySem PySem.Spec PyProof.Rows L2
/-- such a tuple of texts -/
def FT (H : Hp) (t : Addr) (l : List Str) : Prop := ∃ o, PlainT o ∧ H t = some (.frz o (.tup (l.map V.str)))
theorem FT.rd {H : Hp} {t : Addr} {l : List Str} (h : FT H t l) : Rd H t (.tup (l.map V.str)) := by
  obtain ⟨o, _, e⟩ := h
  exact .inr ⟨o, e⟩
theorem FT.to {H H' : Hp} {t : Addr} {l : List Str} (h : FT H t l) (k : ∀ u, H t = some u → (∀ xs, u ≠ .lst xs) → (∀ xs, u ≠ .tup xs) → (∀ kvs, u ≠ .dK kvs) → (∀ a b c, u ≠ .ins a b c) → (∀ ps, u ≠ .tbl ps) → H' t = some u) : FT H' t l := by
  obtain ⟨o, p, e⟩ := h
  exact ⟨o, p, k _ e (fun _ z => by cases z) (fun _ z => by cases z) (fun _ z => by cases z) (fun _ _ _ z => by cases z) (fun _ z => by cases z)⟩
theorem FT.same {H H' : Hp} {t : Addr} {l : List Str} (h : FT H t l) (s : Same H H') : FT H' t l := h.to fun _ e _ _ _ _ _ => s _ _ e
theorem FT.upd {H : Hp} {t a : Addr} {l : List Str} {u : HO} (h : FT H t l) (n : t ≠ a) : FT (upd H a u) t l := h.to fun _ e _ _ _ _ _ => (upd_ne n).trans e
theorem FT.ne {H : Hp} {t a : Addr} {l : List Str} {u : HO} (h : FT H t l) (e : H a = some u) (n : ∀ o l, u ≠ .frz o (.tup l)) : t ≠ a := by
  obtain ⟨o, p, q⟩ := h
  intro z
  rw [z, e] at q
  exact n _ _ (Option.some.inj q)
theorem FT.new {H : Hp} {t a : Addr} {l : List Str} (h : FT H t l) (e : H a = none) : t ≠ a := by
  obtain ⟨o, p, q⟩ := h
  exact ne_of_none q e
end K0
end
section
set_option Elab.async false
set_option linter.all false
set_option maxRecDepth 100000
namespace K0
open PySem PySem.Spec PyProof.Rows L2
abbrev nmsOf (R : List Row) : List Str := R.map (·.1)
abbrev belowK (R : List Row) : List (Key × V) := kmap (fun y => .str (lowR R y)) (nmsOf R)
abbrev scCourse_N : List Str := ["below", "weir", "course"]
theorem scCourse : FnScope scCourse_N ["below", "weir"] (defScope sCourse) := ⟨rfl, rfl, rfl, by decide +kernel, rfl, by decide +kernel, by decide +kernel⟩
def spCourse (K : PySem.W.Frag) : Sp := fun vs H Q _ => ∃ (d : Addr) (R : List Row) (x : Str), vs = [.ref d, .str x] ∧ Rd H d (.dK (belowK R)) ∧ GoodRows R ∧ x ∈ nmsOf R ∧
  ∀ (H' : Hp) (t : Addr), Same H H' → H t = none → FT H' t (course R x) → Q (.ref t) H'
theorem same_rd {H H' : Hp} {a : Addr} {u : HO} (s : Same H H') (r : Rd H a u) : Rd H' a u := r.elim (fun h => .inl (s _ _ h)) fun ⟨o, h⟩ => .inr ⟨o, s _ _ h⟩
theorem dget_rk {H : Hp} {a : Addr} {kvs : List (Key × V)} {k : Key} (e : Rd H a (.dK kvs)) : DGet H a (kV k) (valV kvs k) := .inl ⟨kvs, k, e, rfl, rfl⟩
theorem dget_rn {H : Hp} {a : Addr} {f : Str → V} {ns : List Str} {x : Str} (e : Rd H a (.dK (kmap f ns))) (h : x ∈ ns) : DGet H a (.str x) (some (f x)) := by
  have := dget_rk (k := Sum.inr x) e
  rw [kmap_at h] at this
  exact this
theorem last_of {m : Nat} {f : Nat → Str} (h : 1 ≤ m) : atI (((List.range m).map f).map V.str) (-1) = some (.str (f (m - 1))) := by
  unfold atI ixN
  rw [List.length_map, List.length_map, List.length_range, if_neg (by omega), if_pos (by omega)]
  show (((List.range m).map f).map V.str)[((-1 : Int) + (m : Int)).toNat]? = _
  rw [show ((-1 : Int) + (m : Int)).toNat = m - 1 by omega, List.getElem?_map, List.getElem?_map, List.getElem?_range (by omega)]
  rfl
section
variable {P : Program} {w : World} {K : PySem.W.Frag} {mg : Str → Option Value} {base : Heap} {tS tM tL : Tok}
theorem ok_course {f : Addr} {fd : FuncData} (F : FnP K "_course" sCourse f fd) (B : Bl mg) (C : Gc mg tS tM tL) : FnOk P w K mg base CX0 1 f fd ["below", "weir"] (spCourse K) := by
  refine F.ok scCourse (fun vs H Q E h => ?_) (fun cdv A outer s H vs Q E hr h => ?_)
  · obtain ⟨d, R, x, rfl, _⟩ := h
    rfl
  · obtain ⟨d, R, x, rfl, hd, hG, hx, k⟩ := h
    have hu := hu_of hr
    obtain ⟨m, hC⟩ := course_is hG hx
    refine ⟨_, PSs.nox (pss_cons
      (ps_set (i := 2) scCourse.nd rfl (Or.inl rfl) (pe_lst (pa_cons (pv 1) pa_nil)))
      (pss_cons
      (ps_while PassesOwn.never (PW.pt (pw_and (pt_cmpR op_ne (pe_dget hu (pv 0) (pe_ix (ixLK (K := K)) (pv 2) (pe_un un_neg pe_int) (fun _ _ => rfl)) (fun _ _ => rfl)) (pe_glob (v := .str "sea") (by rfl) C.SEA ⟨_, rfl⟩) (nomark _)) (pw_and1 (pt_cmpR op_le (pe_callB (lenK (K := K)) (by rfl) B.len PySem.boot_len (pa_cons (pv 2) pa_nil)) (pe_callB k0_lenD (by rfl) B.len PySem.boot_len (pa_cons (pv 0) pa_nil)) (nomark _))))) (pss_one
      (ps_expr (pe_bm PySem.F.plainAttrs_list PySem.F.slot_list_append PySem.F.type_list_append mt_append (pv 2) (pa_cons (pe_dget hu (pv 0) (pe_ix (ixLK (K := K)) (pv 2) (pe_un un_neg pe_int) (fun _ _ => rfl)) (fun _ _ => rfl)) pa_nil)))))
      (pss_one
      (ps_ret (pe_callTy (tupleF (K := K)) (by rfl) B.tuple (by decide +kernel) (pa_cons (pv 2) pa_nil)))))), ?_⟩
    refine ⟨_, rfl, by show 1 ≤ sizeLine; decide, fun c nc => ?_⟩
    have s0 : Same H (upd H c (.lst [.str x])) := same_upd nc
    refine while_by (fun σ H2 => ∃ i, 1 ≤ i ∧ i ≤ m ∧ σ = [some (.ref d), some (.str x), some (.ref c)] ∧ Same H H2 ∧ H2 c = some (.lst (((List.range i).map fun j => itr (lowR R) j x).map V.str)))
      (fun _ H2 => match H2 c with | some (.lst xs) => m - xs.length | _ => 0) ⟨1, Nat.le_refl _, hC.one, rfl, s0, upd_same⟩ ?_ ?_
    · rintro σ H2 ⟨i, h1, h2, rfl, s2, hc⟩
      have hmem : itr (lowR R) (i - 1) x ∈ nmsOf R := hC.mem _ (by omega)
      refine ⟨_, rfl, _, rfl, 1, rfl, c, _, _, _, rfl, rfl, .inl (.inl hc), last_of h1, d, _, rfl, dget_rn (same_rd s2 hd) hmem, rfl, _, rfl, ?_⟩
      have enext : lowR R (itr (lowR R) (i - 1) x) = itr (lowR R) i x := by
        have e : i = i - 1 + 1 := by omega
        exact (congrArg (fun j => itr (lowR R) j x) e).symm
      have hl0 : (((List.range i).map fun j => itr (lowR R) j x).map V.str).length = i := by
        rw [List.length_map, List.length_map, List.length_range]
      have hn0 : (belowK R).length = R.length := by
        rw [kmap_len, List.length_map]
      have hmost := hC.most
      have hRm := hG.most
      refine ite2 (fun h => ?_) (fun h => ?_)
      · have him : i < m := by
          rcases Nat.lt_or_ge i m with z | z
          · exact z
          · have e : i = m := by omega
            have e2 : V.str (lowR R (itr (lowR R) (i - 1) x)) = V.str "sea" := by rw [enext, e, hC.sea]
            rw [decide_eq_true e2] at h
            cases h
        refine ⟨_, rfl, c, _, rfl, .inl (.inl (.inl hc)), _, rfl, d, _, rfl, same_rd s2 hd, _, _, rfl, rfl, _, rfl, ?_⟩
        refine iteD (by omega) ?_
        refine ⟨_, rfl, .inl ⟨rfl, _, .inl (.inl hc)⟩, _, rfl, _, rfl, 1, rfl, c, _, _, _, rfl, rfl, .inl (.inl hc), last_of h1, d, _, rfl, dget_rn (same_rd s2 hd) hmem, ?_⟩
        refine ⟨c, _, _, rfl, rfl, hc, by rw [hl0]; exact small1000 (by omega), ?_⟩
        have ecat : (((List.range i).map fun j => itr (lowR R) j x).map V.str) ++ [V.str (lowR R (itr (lowR R) (i - 1) x))] = ((List.range (i + 1)).map fun j => itr (lowR R) j x).map V.str := by
          rw [List.range_succ, List.map_append, List.map_append, enext]
          rfl
        rw [ecat]
        refine ⟨⟨i + 1, by omega, by omega, rfl, fun b o hb => ?_, upd_same⟩, ?_⟩
        · rw [upd_ne (ne_of_none hb nc)]
          exact s2 b o hb
        · show (match upd H2 c (.lst (((List.range (i + 1)).map fun j => itr (lowR R) j x).map V.str)) c with | some (.lst xs) => m - xs.length | _ => 0) < (match H2 c with | some (.lst xs) => m - xs.length | _ => 0)
          rw [upd_same, hc]
          show m - (((List.range (i + 1)).map fun j => itr (lowR R) j x).map V.str).length < m - (((List.range i).map fun j => itr (lowR R) j x).map V.str).length
          rw [hl0, List.length_map, List.length_map, List.length_range]
          omega
      · have him : i = m := by
          rcases Nat.lt_or_ge i m with z | z
          · exfalso
            have hne := hG.nm.sea _ (hC.mem i z)
            refine h ?_
            rw [enext, decide_eq_false (fun q => hne (V.str.inj q))]
            rfl
          · omega
        subst him
        refine ⟨_, rfl, c, _, rfl, .inl (.inl hc), fun t ot nt pt => ?_⟩
        rw [← hC.eq]
        exact k _ t (s2.trans (same_upd nt)) (s2.free nt) ⟨ot, pt, upd_same⟩
    · intro σ H2 Q1 Q2 hQ h
      obtain ⟨v1, e1, v2, e2, i, e3, p, xs, j, v, e4, e5, h6, h7, a, u, e8, g, hs, b, e9, h⟩ := h
      refine ⟨v1, e1, v2, e2, i, e3, p, xs, j, v, e4, e5, h6, h7, a, u, e8, g, hs, b, e9, ?_⟩
      cases b with
      | false => exact hQ _ _ h
      | true =>
        obtain ⟨w1, f1, q, ys, f2, f3, w2, f4, q2, kv, f5, f6, n1, n2, f7, f8, b2, f9, h⟩ := h
        exact ⟨w1, f1, q, ys, f2, f3, w2, f4, q2, kv, f5, f6, n1, n2, f7, f8, b2, f9, hQ _ _ h⟩
end
end K0
end
section
set_option Elab.async false
set_option linter.all false
set_option maxRecDepth 100000
namespace L2
open PySem PySem.Spec PyProof.Rows
/-! ### enumerate of a dict -/
section
variable {prog : Program} {w : World} {A : Around} {E : Value → Shared → Prop} {s : Shared}
theorem k0_key_item {it d : Addr} {i n ep : Nat} {od : Obj} {es : Array DictEntry} {en : DictEntry} {Q : Value → Shared → Prop} (hit : s.heap.IsKeyIter it d i n ep) (hod : s.heap.get? d = some od) (hdd : od.data = .dict es ep)
    (hsz : es.size = n) (hx : es[i]? = some en) (hQ : ∀ h', h'.IsKeyIter it d (i + 1) n ep → Heap.SameBut it s.heap h' → Q en.key { s with heap := h' }) : wpAny (model prog w) A (Builtin.SmallTypes.nextOf (.ref it)) Q E s := by
  obtain ⟨o, ho, hc, hd⟩ := id hit
  unfold Builtin.SmallTypes.nextOf
  refine wpAny_bind (wpAny_callSpecial?_slot (name := Str.ofString "__next__") hit.typeIs F.slot_dict_keyiterator_next
    (wpAny_call_entry F.slot_dict_keyiterator_next hit.typeIs F.entry_dict_keyiterator_next ?_ (F.args_dict_keyiterator_next_1 _)))
  refine wpAny_bind (wpAny_pure ?_)
  refine wpAny_bind ?_
  refine wpAny_bind ?_
  first | refine wpAny_bind (wpAny_typeNameOfWhole_keyiter hit.typeIs (wpAny_pure ?_)) | refine wpAny_bind (wpAny_typeNameOf_keyiter hit.typeIs (wpAny_pure ?_))
  refine wpAny_bind (wpAny_fieldsOf ho hd ?_)
  have hown : Builtin.Dict_items.ownsTuple "dict_keyiterator" = false := by decide
  simp only [hown, Bool.false_eq_true, if_false]
  show wpAny _ _ (if (Value.ref d == Value.none) = true then _ else _) _ _ s
  rw [if_neg (show ¬ ((Value.ref d == Value.none) = true) from Bool.false_ne_true)]
  refine wpAny_bind (wpAny_pure ?_)
  refine wpAny_bind (wpAny_dictEntries hod hdd ?_)
  rw [if_neg (by rw [hsz]; simp)]
  refine wpAny_bind (wpAny_pure ?_)
  refine wpAny_bind (wpAny_dictEpoch hod hdd ?_)
  rw [if_neg (by simp)]
  refine wpAny_pure ?_
  obtain ⟨hlt', hen⟩ := Array.getElem?_eq_some_iff.mp hx
  simp only [show ¬ ((i : Int) < 0) from by omega, if_false, Int.toNat_natCast, Array.getElem?_eq_getElem hlt']
  refine wpAny_bind ?_
  first | refine wpAny_bind (wpAny_typeNameOfWhole_keyiter hit.typeIs (wpAny_pure ?_)) | refine wpAny_bind (wpAny_typeNameOf_keyiter hit.typeIs (wpAny_pure ?_))
  refine wpAny_bind (wpAny_isOneOf_keyiter hit.typeIs ?_)
  show wpAny _ _ (setField (.ref it) 1 (rawInt ((i : Int) + 1)) >>= _) _ _ s
  refine wpAny_bind (wpAny_setField ho hd (by simp) ?_)
  have hit' : (s.heap.update it (Obj.mapFields (·.setIfInBounds 1 (rawInt ((i : Int) + 1))))).IsKeyIter it d (i + 1) n ep :=
    ⟨_, Heap.get?_update_self _ ho (Obj.isFreed_of_fields (Obj.data_mapFields hd _)), (Obj.cls_mapFields ..).trans hc, by rw [Obj.data_mapFields hd]; simp [rawInt]⟩
  refine wpAny_bind (wpAny_holding ?_)
  refine wpAny_bind (wpAny_isOneOf_keyiter (s := { s with heap := s.heap.update it (Obj.mapFields (·.setIfInBounds 1 (rawInt ((i : Int) + 1)))) }) hit'.typeIs ?_)
  show wpAny _ _ (pure es[i].key) _ _ _
  rw [hen]
  exact wpAny_pure (wpAny_pure ⟨_, rfl, wpAny_pure (hQ _ hit' (Heap.SameBut.update ..))⟩)
theorem k0_key_end {it d : Addr} {i n ep : Nat} {od : Obj} {es : Array DictEntry} {Q : Value → Shared → Prop} (hh : A.handled = none) (hit : s.heap.IsKeyIter it d i n ep) (hod : s.heap.get? d = some od) (hdd : od.data = .dict es ep)
    (hsz : es.size = n) (hge : n ≤ i) (hE : ∀ h' e, Heap.ExtBut it s.heap h' → (∃ o, h'.get? e = some o ∧ o.cls = .type "StopIteration") → E (.ref e) { s with heap := h' }) : wpAny (model prog w) A (Builtin.SmallTypes.nextOf (.ref it)) Q E s := by
  obtain ⟨o, ho, hc, hd⟩ := id hit
  unfold Builtin.SmallTypes.nextOf
  refine wpAny_bind (wpAny_callSpecial?_slot (name := Str.ofString "__next__") hit.typeIs F.slot_dict_keyiterator_next
    (wpAny_call_entry F.slot_dict_keyiterator_next hit.typeIs F.entry_dict_keyiterator_next ?_ (F.args_dict_keyiterator_next_1 _)))
  refine wpAny_bind (wpAny_pure ?_)
  refine wpAny_bind ?_
  refine wpAny_bind ?_
  first | refine wpAny_bind (wpAny_typeNameOfWhole_keyiter hit.typeIs (wpAny_pure ?_)) | refine wpAny_bind (wpAny_typeNameOf_keyiter hit.typeIs (wpAny_pure ?_))
  refine wpAny_bind (wpAny_fieldsOf ho hd ?_)
  have hown : Builtin.Dict_items.ownsTuple "dict_keyiterator" = false := by decide
  simp only [hown, Bool.false_eq_true, if_false]
  show wpAny _ _ (if (Value.ref d == Value.none) = true then _ else _) _ _ s
  rw [if_neg (show ¬ ((Value.ref d == Value.none) = true) from Bool.false_ne_true)]
  refine wpAny_bind (wpAny_pure ?_)
  refine wpAny_bind (wpAny_dictEntries hod hdd ?_)
  rw [if_neg (by rw [hsz]; simp)]
  refine wpAny_bind (wpAny_pure ?_)
  refine wpAny_bind (wpAny_dictEpoch hod hdd ?_)
  rw [if_neg (by simp)]
  refine wpAny_pure ?_
  have hge' : es.size ≤ i := by rw [hsz]; exact hge
  simp only [show ¬ ((i : Int) < 0) from by omega, if_false, Int.toNat_natCast, Array.getElem?_eq_none hge']
  refine wpAny_bind ?_
  first | refine wpAny_bind (wpAny_typeNameOfWhole_keyiter hit.typeIs (wpAny_pure ?_)) | refine wpAny_bind (wpAny_typeNameOf_keyiter hit.typeIs (wpAny_pure ?_))
  show wpAny _ _ (setField (.ref it) 0 .none >>= _) _ _ s
  refine wpAny_bind (wpAny_setField ho hd (by simp) ?_)
  show wpAny _ _ (newExc (.type "StopIteration") [] >>= _) _ _ _
  refine wpAny_bind ?_
  simp only [newExc, newTuple]
  refine wpAny_bind (wpAny_newObj_type ?_ (by size_fits))
  refine wpAny_bind (m := firstArgMember _ _) (wpAny_of_eq (a := Value.none) (by first | rfl | (simp only [firstArgMember]; rfl)) ?_)
  refine wpAny_newObj_type ?_ (by size_fits)
  simp only [raiseNew]
  refine wpAny_bind (wpAny_handled ?_)
  first | rw [show A.in1.handled = none from hh] | rw [hh]
  refine wpAny_bind (wpAny_pure (wpAny_throw ?_))
  exact hE _ _ (((Heap.SameBut.update ..).extBut.push _).push _) ⟨_, Heap.get?_push_size _ rfl, rfl⟩
end
theorem k0_draws {prog : Program} {w : World} {A : Around} (hh : A.handled = none) (it d : Addr) (hne : d ≠ it) (od : Obj) (es : Array DictEntry) (ep : Nat) (hdd : od.data = .dict es ep) :
    Draws prog w A it [it, d] es.size (fun i v => ∃ en, es[i]? = some en ∧ v = en.key) (fun i h => h.IsKeyIter it d i es.size ep ∧ h.get? d = some od) where
  live := fun _ _ st => let ⟨o, ho, _⟩ := st.1; ⟨o, ho⟩
  frame := fun _ _ _ st hk => ⟨st.1.at fun o e => hk it (by simp) o e, hk d (by simp) _ st.2⟩
  item := fun i s Q E hi st hQ => by
    refine k0_key_item st.1 st.2 hdd rfl (en := es[i]) (by simp [hi]) fun h' hit' hs' => ?_
    exact hQ _ h' s.toks ⟨_, by simp [hi], rfl⟩ ⟨hit', (hs'.2 d hne).trans st.2⟩ hs'
  done := fun s Q E st hE => k0_key_end hh st.1 st.2 hdd rfl (Nat.le_refl _) hE
theorem k0_begins {d : Addr} {o : Obj} {es : Array DictEntry} {ep : Nat} (hd : (d == sysModules) = false) (hc : o.ExactDict) (hdat : o.data = .dict es ep) :
    PySem.Begins (.ref d) { cls := .type "dict_keyiterator", data := .fields #[.ref d, .int 0 0, .int es.size 0, .int ep 0] } fun h => h.get? d = some o where
  iter := fun prog w A E s Q ho h => iter_keys hd ho hc hdat h
  keeps := fun h h' x hk => hk d _ x
  free := rfl
set_option maxHeartbeats 1000000 in
theorem k0_meets {v : Value} {o : Obj} {H : Heap → Prop} (B : PySem.Begins v o H) :
    Meets (Builtin.«enumerate.__new__» ⟨[.type "enumerate", v], []⟩) (fun _ R s => H s.heap ∧
      R (.ok (.ret (.ref (s.heap.push o).objs.size))) { s with heap := (s.heap.push o).push { cls := .type "enumerate", data := .fields #[.none, .bool false, .ref s.heap.objs.size, rawInt 0, .none, .none] } }) :=
  .of_wp fun prog w A R s h => by
    obtain ⟨hp, g, d, tk, os⟩ := s; obtain ⟨h1, h⟩ := h
    have hsub := sub_enumerate
    have q1 : ∀ {A' : Around} {E : Value → Shared → Prop} {Q : Value → Shared → Prop}, Q (.ref hp.objs.size) ⟨hp.push o, g, d, tk, os⟩ → wpAny (model prog w) A' (pyIter v) Q E ⟨hp, g, d, tk, os⟩ :=
      fun q => B.iter prog w _ _ ⟨hp, g, d, tk, os⟩ _ h1 q
    wp_walk using q1
    refine wpAny_stack_any fun st => wpAny_pure ?_
    split
    · rename_i c _ _ _ _ _
      cases (c == Value.type "enumerate")
      · wp_walk using q1
        exact ⟨_, rfl, h⟩
      · wp_walk using q1
        exact ⟨_, rfl, h⟩
    · wp_walk using q1
      exact ⟨_, rfl, h⟩
section
variable {prog : Program} {w : World} {A : Around} {E : Value → Shared → Prop} {s : Shared}
theorem k0_enum_call {v : Value} {o : Obj} {H : Heap → Prop} {Q : Value → Shared → Prop} (B : PySem.Begins v o H) (h1 : H s.heap)
    (h : ∀ h', IsEnum h' (s.heap.objs.size + 1) s.heap.objs.size 0 .none → h'.get? s.heap.objs.size = some o → h'.objs.size = s.heap.objs.size + 2 →
      (∀ b o, s.heap.get? b = some o → h'.get? b = some o) → Q (.ref (s.heap.objs.size + 1)) { s with heap := h' }) :
    wpAny (model prog w) A (call (.type "enumerate") [v]) Q E s := by
  refine callType_new F.called_enumerate (by decide) (F.typeCall_enumerate_1 _) (F.newCall_enumerate_1 _) (fun obj => F.args_object_init_2 obj _) F.entry_enumerate_new
    (k0_meets B) ⟨h1, ?_⟩
  have hz : (s.heap.push o).objs.size = s.heap.objs.size + 1 := Heap.size_push ..
  show _ ∧ _
  rw [hz]
  have he : IsEnum ((s.heap.push o).push { cls := .type "enumerate", data := .fields #[.none, .bool false, .ref s.heap.objs.size, rawInt 0, .none, .none] }) (s.heap.objs.size + 1) s.heap.objs.size 0 .none := by
    have := Heap.get?_push_size (s.heap.push o) (o := { cls := .type "enumerate", data := .fields #[.none, .bool false, .ref s.heap.objs.size, rawInt 0, .none, .none] }) rfl
    rw [hz] at this; exact this
  refine ⟨⟨_, he, rfl⟩, h _ he (Heap.get?_push_of_some _ (Heap.get?_push_size _ B.free)) (by rw [Heap.size_push, hz]) fun b o x => Heap.get?_push_of_some _ (Heap.get?_push_of_some _ x)⟩
end
/-- the keys of the locked dict at d, each with its number in a new pair -/
def ItEd (d : Addr) (o : Obj) (kvs : List (Key × V)) : It :=
  ⟨fun i H => H d = some (.frz o (.dK kvs)) ∧ i < kvs.length, fun i H v H' => ∃ T k u, v = .ref T ∧ H T = none ∧ H' = upd H T (.tup [.int (i : Nat), kV k]) ∧ kvs[i]? = some (k, u), fun i H => H d = some (.frz o (.dK kvs)) ∧ kvs.length ≤ i⟩
theorem turn_enumD {P : Program} {w : World} {K : PySem.W.Frag} {elts : List Expr} {kk : Nat} {tpos : Pos} {d : Addr} {o : Obj} {es : Array DictEntry} {ep : Nat} {kvs : List (Key × V)} (e it : Addr) (hod : o.data = .dict es ep) (hsz0 : es.size = kvs.length) :
    Turn P w K (.Tuple elts kk tpos) (ItEd d o kvs) [e, it] e (fun i h => (∃ old, IsEnum h e it ((i : Nat) : Int) old) ∧ h.IsKeyIter it d i es.size ep ∧ e ≠ it) where
  mem := by simp
  obj := fun i h st b hb => by
    obtain ⟨⟨old, he⟩, ⟨o', ho, hc, hd⟩, _⟩ := st
    have e' : b = e ∨ b = it := by simpa using hb
    rcases e' with z | z
    · rw [z]; exact ⟨_, he, fun v q => nomatch q⟩
    · rw [z]; exact ⟨o', ho, fun v q => by rw [hd] at q; cases q⟩
  keep := fun i h h' st k => let ⟨⟨old, he⟩, hi, hne⟩ := st; ⟨⟨old, k e (by simp) _ he⟩, hi.at fun o q => k it (by simp) o q, hne⟩
  item := by
    intro X hP hw hK hc i pins s σ H E I hf st hg
    subst hP hw hK
    obtain ⟨⟨old, he⟩, hit, hne⟩ := st
    obtain ⟨hd, hi⟩ := hg
    obtain ⟨hs, hgd, hx, es', ep', vs, hdt, hsz, kv, hm⟩ := I.frzK hd
    obtain ⟨rfl, rfl⟩ := dict_ep hod hdt
    have hel : e < s.heap.objs.size := Heap.lt_size he
    have hil : it < s.heap.objs.size := by obtain ⟨_, q, _⟩ := hit; exact Heap.lt_size q
    have hed : e ≠ d := fun z => by
      have q := he
      unfold IsEnum at q
      rw [z, hgd] at q
      rw [Option.some.inj q] at hod
      cases hod
    have hid : it ≠ d := fun z => by
      obtain ⟨o', q, _, hdd⟩ := id hit
      rw [z, hgd] at q
      rw [← Option.some.inj q, hod] at hdd
      cases hdd
    refine wpAny_pyNext_enum_itemD (k0_draws (A := X.A.in1) (show X.A.in1.handled = none from I.ok.hd hc) it d (Ne.symm hid) o es' ep' hod) he ⟨hit, hgd⟩ (by omega) hne (by simp [hne, hed]) fun x h' tk hP ho hit' hT hsz' hk => ?_
    obtain ⟨en, hen, rfl⟩ := hP
    obtain ⟨⟨k, v⟩, hkv⟩ : ∃ p, kvs[i]? = some p := ⟨kvs[i], List.getElem?_eq_getElem hi⟩
    have rk : RelV (kV k) en.key := by
      obtain ⟨u, hu, ru⟩ := kv_get kv hkv
      obtain ⟨od, es2, hod2, hcd, hdd, hkk, hp, hn⟩ := id hm
      rw [hgd] at hod2
      cases hod2
      obtain ⟨rfl, _⟩ := dict_ep hod hdd
      exact relV_key (hp.get? (by rw [Array.getElem?_toList]; exact hen) hu).1
    refine ⟨_, rfl, wpAny_letOwnedTupleGo_enum (s := { s with heap := h', toks := tk + 1 }) ho fun h'' he' sb => ?_⟩
    have hT2 : h''.get? s.heap.objs.size = some { cls := .type "tuple", data := .seq #[.int i tk, en.key] } := (sb.2 _ (Nat.ne_of_gt hel)).trans hT
    have new : ObjOk X.prog X.w (upd H s.heap.objs.size (.tup [.int (i : Nat), kV k])) h'' s.heap.objs.size (.tup [.int (i : Nat), kV k]) :=
      ⟨by show 2 ≤ sizeLine; decide, [.int i tk, en.key], .cons ⟨_, rfl⟩ (.cons rk .nil), ⟨_, hT2, rfl, _, rfl⟩⟩
    have I1 : Inv X pins σ (upd H s.heap.objs.size (.tup [.int (i : Nat), kV k])) { s with heap := h'', toks := tk + 1 } :=
      I.turnedNew (ch := [e, it]) (fun b ob hb q => (sb.2 b (fun z => hb (by simp [z]))).trans (hk b ob (fun z => hb (by simp [z])) (fun z => hb (by simp [z])) q)) hf (Nat.le_refl _) new
    refine ⟨.ref s.heap.objs.size, _, I1, rfl, ⟨_, k, v, rfl, I.hok.fresh (Nat.le_refl _), rfl, hkv⟩, ⟨⟨en.key, ?_⟩, hit'.1.at fun o q => (sb.2 it (Ne.symm hne)).trans q, hne⟩, fun b hb => ?_⟩
    · have e1 : ((i + 1 : Nat) : Int) = (i : Int) + 1 := by omega
      rw [e1]; exact he'
    · have hb' : b < s.heap.objs.size := by
        have e' : b = e ∨ b = it := by simpa using hb
        rcases e' with z | z
        · rw [z]; exact hel
        · rw [z]; exact hil
      rw [upd_ne (Nat.ne_of_lt hb')]
      exact (hf b hb).1
  done := by
    intro X hP hw hK hc i pins s σ H E I hf st hg
    subst hP hw hK
    obtain ⟨⟨old, he⟩, hit, hne⟩ := st
    obtain ⟨hd, hi⟩ := hg
    obtain ⟨hs, hgd, hx, es', ep', vs, hdt, hsz, kv, hm⟩ := I.frzK hd
    obtain ⟨rfl, rfl⟩ := dict_ep hod hdt
    obtain ⟨f0, f1, f2, f3, f4, f5⟩ := hf it (by simp)
    have hT : s.TypeIs (.ref e) "enumerate" := ⟨_, he, rfl⟩
    unfold pyNext
    refine wpAny_bind (wpAny_attempt (wpAny_callSpecial?_slot (name := Str.ofString "__next__") hT F.slot_enumerate_next
      (wpAny_call_entry F.slot_enumerate_next hT F.entry_enumerate_next ?_ (F.args_enumerate_next_1 _))))
    show wpAny _ _ (field (.ref e) 2 >>= _) _ _ _
    refine wpAny_bind (wpAny_field he rfl (x := .ref it) rfl ?_)
    refine wpAny_bind (k0_key_end (I.ok.hd hc) hit hgd hod rfl (by omega) fun h' x he' hx' => ?_)
    obtain ⟨o', ho, hc'⟩ := hx'
    refine wpAny_bind (wpAny_isInstance (T := "StopIteration") (b := true) ⟨o', ho, hc'⟩ isSubtype_stop ?_)
    exact wpAny_pure ⟨rfl, I.turned (t' := s.toks) (fun b ob hb q => he' b ob hb q) f0 f1 f3 f4 f5⟩
  self := fun A i s Q E st h => let ⟨⟨_, he⟩, _⟩ := st; wpAny_pyIter_enum he h
def iEnumD (ta : TA) : TI := fun σ H R => ta σ H fun vs H1 => ∃ d o kvs, vs = [.ref d] ∧ H1 d = some (.frz o (.dK kvs)) ∧ R (ItEd d o kvs) H1
theorem pi_enumD {X : Cx} {e : Expr} {ta : TA} {p pos tpos : Pos} {elts : List Expr} {kk : Nat} (hg : Gl X "enumerate") (hm : X.mg "enumerate" = none) (ha : PA X [e] ta) (hs : starEach [e] X.env = [(false, eval e X.env)] := by rfl) :
    PI X (.Tuple elts kk tpos) (.Call (.Name "enumerate" p) [e] [] pos) (iEnumD ta) := by
  refine ⟨fun pins s σ H R I h => ?_⟩
  refine Call_ (ld_blt I hg hm boot_enumerate (PyProof.Rows.callWith_type1 (thn (ha.run pos pins s σ H _ I h) fun us s1 ⟨vs, H1, I1, r1, q1⟩ => ?_) hs rfl))
  obtain ⟨d, o, kvs, ex, hd, q⟩ := q1
  subst ex
  cases r1 with
  | cons r rr =>
    cases rr
    cases r
    obtain ⟨hss, hgd, hx, es, ep, vs, hdt, hsz, kv, hm2⟩ := I1.frzK hd
    refine k0_enum_call (k0_begins hss hx hdt) hgd fun h' he hit hsz' hk => wpAny_pyIter_enum he ?_
    have I2 : Inv X pins σ H1 { s1 with heap := h' } := I1.kept (t' := s1.toks) hk
    refine ⟨s1.heap.objs.size + 1, [s1.heap.objs.size + 1, s1.heap.objs.size], _, _, H1, rfl, I2, turn_enumD (s1.heap.objs.size + 1) s1.heap.objs.size hdt hsz, ⟨⟨.none, he⟩, ⟨_, hit, rfl, rfl⟩, Nat.succ_ne_self _⟩, fun b hb => ?_, q⟩
    have e' : b = s1.heap.objs.size + 1 ∨ b = s1.heap.objs.size := by simpa using hb
    have hle : s1.heap.objs.size ≤ b := by
      rcases e' with z | z
      · rw [z]; exact Nat.le_add_right _ _
      · rw [z]; exact Nat.le_refl _
    exact I1.fpOk hle (I1.hok.fresh hle)
theorem walk_enumD {d : Addr} {o : Obj} {kvs : List (Key × V)} : Walk (ItEd d o kvs) kvs.length (fun H => H d = some (.frz o (.dK kvs))) (YPair (fun i => some (.int (i : Nat))) (fun i => kvs[i]?.map fun kv => kV kv.1)) := by
  refine ⟨fun _ _ hi q => ⟨q, hi⟩, fun _ q => ⟨q, Nat.le_refl _⟩, fun i H x H' _ _ y => ?_⟩
  obtain ⟨T, k, v, h2, h3, h4, h1⟩ := y
  exact ⟨T, .int (i : Nat), kV k, h2, h3, h4, rfl, by simp [h1]⟩
/-- a dict comprehension over a walk -/
theorem dc_it {J : It} {n : Nat} {G : Hp → Prop} {Y : Nat → Hp → V → Hp → Prop} (w : Walk J n G Y) {g : TG} {tt : TT} {tk tv : TE} {vs : List Nat} {σ : St} {H1 : Hp} {D : Addr} {Qd : Hp → Prop} (Pv : Nat → Hp → Prop) (h0 : Pv 0 (upd H1 D (.dK []))) (hG : ∀ i H, i ≤ n → Pv i H → G H)
    (hs : ∀ i x H H', i < n → Pv i H → Y i H x H' → g x (wipe σ vs) H' fun σ2 H2 => wipe σ2 vs = wipe σ vs ∧ tt σ2 H2 fun b H3 =>
      if b = true then tk σ2 H3 fun y H4 => tv σ2 H4 fun z H5 => ∃ kvs k, y = kV k ∧ H5 D = some (.dK kvs) ∧ kvs.length < sizeLine ∧ Pv (i + 1) (upd H5 D (.dK (putK kvs k z))) else Pv (i + 1) H3) (hd : ∀ H, Pv n H → Qd H) :
    ∃ W : Nat → Nat → Hp → Prop, (∃ m, W 0 m (upd H1 D (.dK []))) ∧ ∀ i m H, W i m H →
      (J.stop i H ∧ Qd H) ∨ (J.go i H ∧ ∃ Nx : Hp → Prop, (∀ H', Nx H' → ∃ m', m' < m ∧ W (i + 1) m' H') ∧ ∀ x H', J.yld i H x H' → g x (wipe σ vs) H' fun σ2 H2 => wipe σ2 vs = wipe σ vs ∧ tt σ2 H2 fun b H3 =>
        if b = true then tk σ2 H3 fun y H4 => tv σ2 H4 fun z H5 => ∃ kvs k, y = kV k ∧ H5 D = some (.dK kvs) ∧ kvs.length < sizeLine ∧ Nx (upd H5 D (.dK (putK kvs k z))) else Nx H3) := by
  refine ⟨fun i m H => m = n - i ∧ i ≤ n ∧ Pv i H, ⟨n, by simp, Nat.zero_le _, h0⟩, ?_⟩
  rintro i m H ⟨rfl, hi, p⟩
  have q := hG i H hi p
  by_cases hlt : i < n
  · refine .inr ⟨w.goes i H hlt q, Pv (i + 1), fun H' p' => ⟨n - (i + 1), by omega, rfl, hlt, p'⟩, fun x H' y => hs i x H H' hlt p (w.yields i H x H' hlt q y)⟩
  · have e : i = n := by omega
    subst e
    exact .inl ⟨w.stops H q, hd H p⟩
end L2
end
section
set_option Elab.async false
set_option linter.all false
set_option maxRecDepth 100000
namespace K0
open PySem PySem.Spec PyProof.Rows L2
theorem same_unlock {H H' : Hp} {d : Addr} {u z : HO} (h : H d = some u) (s : Same (upd H d z) H') : Same H (upd H' d u) := fun b o hb => by
  by_cases e : b = d
  · rw [e] at hb ⊢
    rw [upd_same, ← hb, h]
  · rw [upd_ne e]
    exact s b o (by rw [upd_ne e]; exact hb)
theorem kmap_congr {f g : Str → V} : ∀ {ns : List Str}, (∀ x ∈ ns, f x = g x) → kmap f ns = kmap g ns
  | [], _ => rfl
  | n :: r, h => by
    unfold kmap
    rw [List.map_cons, List.map_cons, h n List.mem_cons_self]
    exact congrArg _ (kmap_congr fun x hx => h x (List.mem_cons_of_mem _ hx))
/-- a dict from each of these names to a tuple of its own of texts -/
structure TupsAt (H : Hp) (c : Addr) (ns : List Str) (g : Str → List Str) : Prop where
  ex : ∃ ta : Str → Addr, H c = some (.dK (kmap (fun x => .ref (ta x)) ns)) ∧ ∀ x ∈ ns, FT H (ta x) (g x)
theorem TupsAt.same {H H' : Hp} {c : Addr} {ns : List Str} {g : Str → List Str} (t : TupsAt H c ns g) (s : Same H H') : TupsAt H' c ns g := by
  obtain ⟨ta, h1, h2⟩ := t.ex
  exact ⟨ta, s _ _ h1, fun x hx => (h2 x hx).same s⟩
/-- one more -/
theorem tups_more {H : Hp} {D t : Addr} {ns : List Str} {g : Str → List Str} {x : Str} {ta : Str → Addr} (h1 : H D = some (.dK (kmap (fun y => .ref (ta y)) ns))) (h2 : ∀ y ∈ ns, FT H (ta y) (g y))
    (hx : x ∉ ns) (ht : FT H t (g x)) : TupsAt (upd H D (.dK (putK (kmap (fun y => .ref (ta y)) ns) (Sum.inr x) (.ref t)))) D (ns ++ [x]) g := by
  have htD : t ≠ D := ht.ne h1 (fun _ _ z => by cases z)
  refine ⟨fun y => if y = x then t else ta y, ?_, fun y hy => ?_⟩
  · rw [upd_same]
    have e1 : kmap (fun y => .ref (ta y)) ns = kmap (fun y => V.ref (if y = x then t else ta y)) ns := kmap_congr fun y hy => by
      rw [if_neg (fun e => hx (by rw [← e]; exact hy))]
    rw [e1]
    have := kmap_put (f := fun y => V.ref (if y = x then t else ta y)) hx
    rw [if_pos rfl] at this
    rw [this]
  · show FT (upd H D (.dK (putK (kmap (fun y => .ref (ta y)) ns) (Sum.inr x) (.ref t)))) (if y = x then t else ta y) (g y)
    rcases List.mem_append.mp hy with h | h
    · rw [if_neg (fun e => hx (by rw [← e]; exact h))]
      exact (h2 y h).upd ((h2 y h).ne h1 (fun _ _ z => by cases z))
    · rw [List.mem_singleton.mp h, if_pos rfl]
      exact ht.upd htD
theorem nodup_take {ns : List Str} (hd : ns.Nodup) {i : Nat} {x : Str} (h : ns[i]? = some x) : x ∉ ns.take i := by
  intro hm2
  obtain ⟨j, hj⟩ := List.getElem?_of_mem hm2
  have hji : j < i := by
    have := (List.getElem?_eq_some_iff.mp hj).1
    rw [List.length_take] at this
    omega
  rw [List.getElem?_take_of_lt hji] at hj
  have := nd_ix hd hj h
  omega
theorem kmap_get {f : Str → V} {ns : List Str} {i : Nat} {k : Key} {v : V} (h : (kmap f ns)[i]? = some (k, v)) : ∃ x, ns[i]? = some x ∧ k = Sum.inr x ∧ v = f x := by
  unfold kmap at h
  rw [List.getElem?_map] at h
  cases e : ns[i]? with
  | none => rw [e] at h; cases h
  | some x =>
    rw [e] at h
    injection h with h
    injection h with h1 h2
    exact ⟨x, rfl, h1.symm, h2.symm⟩
abbrev scFind_N : List Str := ["below", "weir", "courses", "place"]
abbrev scFind_S : Stmt := sFind
theorem scFind : FnScope scFind_N ["below"] (defScope sFind) := ⟨rfl, rfl, rfl, by decide +kernel, rfl, by decide +kernel, by decide +kernel⟩
def spFind (K : PySem.W.Frag) : Sp := fun vs H Q _ => ∃ (d : Addr) (R : List Row), vs = [.ref d] ∧ H d = some (.dK (belowK R)) ∧ GoodRows R ∧
  ∀ (H' : Hp) (c : Addr), Same H H' → H c = none → TupsAt H' c (nmsOf R) (course R) → Q (.ref c) H'
section
variable {P : Program} {w : World} {K : PySem.W.Frag} {mg : Str → Option Value} {base : Heap} {tS tM tL : Tok}
theorem ok_find {f fC : Addr} {fd fdC : FuncData} (F : FnP K "_find_courses" sFind f fd) (F_course : FnP K "_course" sCourse fC fdC) (g_course : mg "_course" = some (.ref fC)) (B : Bl mg) (C : Gc mg tS tM tL) : FnOk P w K mg base CX0 2 f fd ["below"] (spFind K) := by
  have G_course : FnOk P w K mg base CX0 1 fC fdC ["below", "weir"] (spCourse K) := ok_course F_course B C
  have b_course : Binds K fdC ["below", "weir"] [] := F_course.bindsN fun _ _ _ _ _ _ us hl => match us, hl with | [_, _], _ => rfl
  refine F.ok scFind (fun vs H Q E h => ?_) (fun cdv A outer s H vs Q E hr h => ?_)
  · obtain ⟨d, R, rfl, _⟩ := h
    rfl
  · obtain ⟨d, R, rfl, hd, hG, k⟩ := h
    have hu := hu_of hr
    have hr_course : Room 1 _ := hr.mono (by decide)
    refine ⟨_, PSs.nox (pss_cons
      (ps_lock (k0_setDc (i := 2) (own := [("weir", 1)]) (g := gName 1) (tt := tYes) (by rfl) scFind.nd rfl rfl (k0_sw rfl rfl rfl (by decide +kernel)) (pi_keys (pv 0)) (blkOk_by (own := [("weir", 1)]) (N := scFind_N) (sc := defScope scFind_S) (by decide +kernel)) (fun _ _ _ _ _ => (pg_name (i := 1) scFind.nd rfl (Or.inl rfl))) (fun _ _ _ _ _ => pts_nil) (fun _ _ _ _ _ => (pv 1)) (fun _ _ _ _ _ => (pe_call G_course hr_course (by rfl) g_course F_course.kp b_course .nil pass0 (pa_cons (pv 0) (pa_cons (pv 1) pa_nil))))))
      (pss_cons
      (ps_lock (ps_for PassesOwn.never rfl (pi_enumD (by rfl) B.enumerate (pa_cons (pv 2) pa_nil)) (pg_tup (by rfl) (pgs_cons (pg_name (i := 3) scFind.nd rfl (Or.inl rfl)) (pgs_cons (pg_name (i := 1) scFind.nd rfl (Or.inl rfl)) pgs_nil))) (pss_one (ps_if (pt_cmpR op_gt (pe_callB (lenK (K := K)) (by rfl) B.len PySem.boot_len (pa_cons (pe_dget hu (pv 2) (pv 1) (fun _ _ => rfl)) pa_nil)) (pe_callB k0_lenD (by rfl) B.len PySem.boot_len (pa_cons (pv 0) pa_nil)) (nomark _)) (pss_one ps_never) pss_nil))))
      (pss_one
      (ps_ret (pv 2))))), ?_⟩
    have hnd := hG.nm.nd
    have hRm := hG.most
    have hnl : (nmsOf R).length = R.length := List.length_map _
    refine ⟨d, _, hd, trivial, fun od => ?_⟩
    refine ⟨_, rfl, d, od, rfl, .inl ⟨_, upd_same, fun D hD => ?_⟩⟩
    have s0 : Same (upd H d (.frz od (.dK (belowK R)))) (upd (upd H d (.frz od (.dK (belowK R)))) D (.dK [])) := same_upd hD
    have ndD : d ≠ D := ne_of_none upd_same hD
    have hfz : ∀ H2, Same (upd H d (.frz od (.dK (belowK R)))) H2 → H2 d = some (.frz od (.dK (belowK R))) := fun H2 s => s _ _ upd_same
    refine dc_it (walk_keys (kvs := belowK R)) (fun i H2 => Same (upd H d (.frz od (.dK (belowK R)))) H2 ∧ TupsAt H2 D ((nmsOf R).take i) (course R)) ⟨s0, ⟨fun _ => 0, by rw [upd_same, List.take_zero]; rfl, fun x hx => by rw [List.take_zero] at hx; cases hx⟩⟩ (fun i H2 hi h => hfz _ h.1) ?_ ?_
    · rintro i x H2 H3 hi ⟨s2, T2⟩ ⟨e, k0, v0, hkv, ev⟩
      subst e
      subst ev
      obtain ⟨x, hx, rfl, rfl⟩ := kmap_get hkv
      have hxm : x ∈ nmsOf R := List.mem_of_getElem? hx
      refine ⟨rfl, ?_⟩
      unfold tYes
      refine iteT ?_
      refine ⟨_, rfl, _, rfl, _, rfl, d, R, x, rfl, .inr ⟨od, hfz _ s2⟩, hG, hxm, fun H4 t s4 nt ht => ?_⟩
      obtain ⟨ta, h1, h2⟩ := (T2.same s4).ex
      refine ⟨_, Sum.inr x, rfl, h1, ?_, fun b o hb => ?_, ?_⟩
      · rw [kmap_len, List.length_take]
        exact small1000 (by omega)
      · rw [upd_ne (ne_of_none hb hD)]
        exact s4 _ _ (s2 b o hb)
      · have hm := tups_more h1 h2 (nodup_take hnd hx) ht
        rw [List.take_add_one, hx]
        exact hm
    · rintro H2 ⟨s2, T2⟩
      rw [kmap_len, List.take_length] at T2
      refine ⟨hfz _ s2, ?_⟩
      have s3 : Same H (upd H2 d (.dK (belowK R))) := same_unlock hd s2
      have T3 : TupsAt (upd H2 d (.dK (belowK R))) D (nmsOf R) (course R) := by
        obtain ⟨ta, h1, h2⟩ := T2.ex
        refine ⟨ta, by rw [upd_ne ndD.symm]; exact h1, fun x hx => ?_⟩
        exact (h2 x hx).upd ((h2 x hx).ne (hfz _ s2) (fun _ _ z => by cases z))
      have hD3 : H D = none := by
        rw [upd_ne ndD.symm] at hD
        exact hD
      generalize hH3 : upd H2 d (.dK (belowK R)) = H3 at s3 T3
      obtain ⟨ta, h1, h2⟩ := T3.ex
      refine ⟨D, _, h1, trivial, fun oD => ?_⟩
      have hl1 : (upd H3 D (.frz oD (.dK (kmap (fun x => .ref (ta x)) (nmsOf R))))) D = some (.frz oD (.dK (kmap (fun x => .ref (ta x)) (nmsOf R)))) := upd_same
      refine ⟨_, rfl, D, oD, _, rfl, upd_same, ?_⟩
      refine for_it walk_enumD (fun i σ H4 => ∃ (v1 v3 : Option V), σ = [some (.ref d), v1, some (.ref D), v3] ∧ Same (upd H3 D (.frz oD (.dK (kmap (fun x => .ref (ta x)) (nmsOf R))))) H4) ⟨_, _, rfl, .refl _⟩ (fun i σ H4 hi h => by
        obtain ⟨_, _, _, s⟩ := h
        exact s _ _ hl1) ?_ ?_
      · rintro i x σ H4 H5 hi ⟨v1, v3, rfl, s4⟩ ⟨T, x1, x2, rfl, hT, rfl, e1, e2⟩
        rw [kmap_len] at hi
        obtain ⟨x, hx, rfl⟩ : ∃ x, (nmsOf R)[i]? = some x ∧ x2 = .str x := by
          refine ⟨(nmsOf R)[i], List.getElem?_eq_getElem hi, ?_⟩
          have e2 : ((kmap (fun x => V.ref (ta x)) (nmsOf R))[i]?.map fun kv => kV kv.1) = some x2 := e2
          unfold kmap at e2
          rw [List.getElem?_map, List.getElem?_eq_getElem hi] at e2
          exact (Option.some.inj e2).symm
        have hxm : x ∈ nmsOf R := List.mem_of_getElem? hx
        obtain ⟨m, hC⟩ := course_is hG hxm
        have s5 : Same (upd H3 D (.frz oD (.dK (kmap (fun x => .ref (ta x)) (nmsOf R))))) (upd H4 T (.tup [x1, .str x])) := s4.trans (same_upd hT)
        have hDr : Rd (upd H4 T (.tup [x1, .str x])) D (.dK (kmap (fun x => .ref (ta x)) (nmsOf R))) := .inr ⟨oD, s5 _ _ hl1⟩
        have hta : FT (upd H4 T (.tup [x1, .str x])) (ta x) (course R x) := ((h2 x hxm).upd ((h2 x hxm).ne h1 (fun _ _ z => by cases z))).same s5
        have hd3 : (upd H3 D (.frz oD (.dK (kmap (fun x => .ref (ta x)) (nmsOf R))))) d = some (.dK (belowK R)) := by
          rw [upd_ne ndD, ← hH3, upd_same]
        refine ⟨T, _, rfl, .inl (.inl upd_same), rfl, _, _, rfl, _, _, rfl, rfl, ?_⟩
        refine ⟨_, rfl, _, rfl, D, _, rfl, dget_rn hDr hxm, ta x, _, rfl, .inr (.inl hta.rd), _, rfl, d, _, rfl, .inl (s5 _ _ hd3), _, _, rfl, rfl, _, rfl, ?_⟩
        refine iteDn ?_ ?_
        · have h1 := hC.most
          rw [List.length_map, hC.len, kmap_len, hnl]
          omega
        · exact ⟨_, _, rfl, s5⟩
      · rintro σ H4 ⟨v1, v3, rfl, s4⟩
        refine ⟨s4 _ _ hl1, ?_⟩
        have s5 : Same H3 (upd H4 D (.dK (kmap (fun x => .ref (ta x)) (nmsOf R)))) := same_unlock h1 s4
        exact ⟨_, rfl, k _ D (s3.trans s5) hD3 (T3.same s5)⟩
end
end K0
end
section
set_option Elab.async false
set_option linter.all false
set_option maxRecDepth 100000
namespace TS3
open PySem PyProof.Rows TS
/-- a tuple of two ints and a text -/
def Tri (h : Heap) (v : Value) (i j : Int) (x : Str) : Prop := ∃ a o xs n t u w, v = .ref a ∧ h.get? a = some o ∧ o.cls = .type "tuple" ∧ o.data = .seq xs n ∧ xs.toList = [.int i t, .int j u, .str x w]
theorem Tri.keeps {h h' : Heap} {v : Value} {i j : Int} {x : Str} (T : Tri h v i j x) (k : ∀ b o, h.get? b = some o → o.cls = .type "tuple" → h'.get? b = some o) : Tri h' v i j x := by
  obtain ⟨a, o, xs, n, t, u, w, e, h1, h2, h3, h4⟩ := T
  exact ⟨a, o, xs, n, t, u, w, e, k a o h1 h2, h2, h3, h4⟩
theorem Tri.uniq {h : Heap} {v : Value} {i j i' j' : Int} {x x' : Str} (T : Tri h v i j x) (T' : Tri h v i' j' x') : i = i' ∧ j = j' ∧ x = x' := by
  obtain ⟨a, o, xs, n, t, u, w, e, h1, h2, h3, h4⟩ := T
  obtain ⟨a', o', xs', n', t', u', w', e', k1, k2, k3, k4⟩ := T'
  rw [e] at e'
  cases e'
  rw [h1] at k1
  cases k1
  rw [h3] at k3
  cases k3
  rw [h4] at k4
  injection k4 with q1 q2
  injection q2 with q2 q3
  injection q3 with q3 _
  cases q1
  cases q2
  cases q3
  exact ⟨rfl, rfl, rfl⟩
/-- what is sorted: the second numbers below 100, each with one first number and text -/
structure TrisOk (h : Heap) (vs : List Value) (f : Int → Int) (g : Int → Str) : Prop where
  at_ : ∀ v ∈ vs, ∃ j, Tri h v (f j) j (g j) ∧ 0 ≤ j ∧ j < 100
theorem TrisOk.keeps {h h' : Heap} {vs : List Value} {f : Int → Int} {g : Int → Str} (x : TrisOk h vs f g) (k : ∀ b o, h.get? b = some o → o.cls = .type "tuple" → h'.get? b = some o) : TrisOk h' vs f g :=
  ⟨fun v hv => let ⟨j, t, r⟩ := x.at_ v hv; ⟨j, t.keeps k, r⟩⟩
theorem firsts {h : Heap} {f : Int → Int} {g : Int → Str} : ∀ vs : List Value, TrisOk h vs f g → ∃ fs, PySem.W.KatTups h vs fs ∧ fs.length = vs.length ∧ ∀ z, z ∈ fs → ∃ n t, z = Value.int n t
  | [], _ => ⟨[], PySem.W.KatTups.nil, rfl, fun f hf => by simp at hf⟩
  | v :: vs, x => by
    obtain ⟨fs, k, hl, hi⟩ := firsts vs ⟨fun u hu => x.at_ u (List.mem_cons_of_mem _ hu)⟩
    obtain ⟨j, ⟨a, o, xs, n, t, u, w, e, h1, h2, h3, h4⟩, _⟩ := x.at_ v (List.mem_cons_self ..)
    subst e
    refine ⟨.int (f j) t :: fs, PySem.W.KatTups.cons h1 h2 h3 ?_ k, by simp [hl], ?_⟩
    · have z := congrArg (fun l : List Value => l[0]?) h4
      simpa using z
    · intro z hz
      rcases List.mem_cons.mp hz with rfl | hz
      · exact ⟨_, t, rfl⟩
      · exact hi z hz
section
variable {prog : Program} {w : World} {A : Around} {E : Value → Shared → Prop} {s : Shared}
theorem kind3 {f : Int → Int} {g : Int → Str} {vs : List Value} (h2 : 2 ≤ vs.length) (x : TrisOk s.heap vs f g) (r : Value → Int) (hr : ∀ v, v ∈ vs → ∀ i j y, Tri s.heap v i j y → r v = i * 100 + j) (Q : SortKind → Shared → Prop)
    (h : ∀ κ, Cmp prog w A s κ (pairsOf vs) r → Q κ s) : wpAny (model prog w) A (keyKind' vs.toArray) Q E s := by
  obtain ⟨fs, k, hl, hi⟩ := firsts vs x
  refine PySem.W.kat_kind (T := Value.type "int") k (by omega) (fun f hf => ?_) rfl (h _ ?_)
  · obtain ⟨n, t, rfl⟩ := hi f hf
    exact PySem.W.Looks.of_pure rfl
  · intro p q hp hq Q' E' hQ
    rw [pairsOf_toList] at hp hq
    obtain ⟨j, tp, j0, j1⟩ := x.at_ _ (mem_zip_self hp).2
    obtain ⟨l, tq, l0, l1⟩ := x.at_ _ (mem_zip_self hq).2
    have ep := hr _ (mem_zip_self hp).2 _ _ _ tp
    have eq2 := hr _ (mem_zip_self hq).2 _ _ _ tq
    have hQ' : Q' (decide (f j * 100 + j < f l * 100 + l)) s := by
      have z : decide (r p.1 < r q.1) = decide (f j * 100 + j < f l * 100 + l) := by rw [ep, eq2]
      rw [← z]; exact hQ
    obtain ⟨a, o, xs, n, t, u, w1, e1, ho, hc, hdt, i⟩ := tp
    obtain ⟨a', o', ys, n', t', u', w2, e2, ho', hc', hdt', i'⟩ := tq
    rw [e1, e2]
    refine PySem.W.kat_lt ho hdt ho' hdt' ?_
    have sz : decide (xs.size < ys.size) = false := by
      have l1 := congrArg List.length i
      have l2 := congrArg List.length i'
      rw [Array.length_toList] at l1 l2
      exact decide_eq_false (by rw [l1, l2]; exact Nat.lt_irrefl _)
    rw [sz, i, i']
    show PySem.W.KatLex prog w A _ false Q' [(Value.int (f j) t, Value.int (f l) t'), (Value.int j u, Value.int l u'), (Value.str (g j) w1, Value.str (g l) w2)] 0 s
    refine PySem.W.kat_cons (wpAny_eqBool_int ?_)
    by_cases e : f j = f l
    · rw [e, beq_self_eq_true]
      refine PySem.W.kat_yes (PySem.W.kat_cons (wpAny_eqBool_int ?_))
      by_cases e3 : j = l
      · subst e3
        rw [beq_self_eq_true]
        refine PySem.W.kat_yes (PySem.W.kat_cons (wpAny_eqBool_str ?_))
        rw [decide_eq_true rfl]
        refine PySem.W.kat_yes (PySem.W.kat_nil ?_)
        rw [decide_eq_false (Int.lt_irrefl _)] at hQ'
        exact hQ'
      · rw [show (j == l) = false from beq_eq_false_iff_ne.mpr e3]
        refine PySem.W.kat_no (oneLt_ints _ ?_)
        have d : decide (f j * 100 + j < f l * 100 + l) = decide (j < l) := decide_eq_decide.mpr (by rw [e]; omega)
        rw [d] at hQ'
        exact hQ'
    · rw [show (f j == f l) = false from beq_eq_false_iff_ne.mpr e]
      refine PySem.W.kat_no (oneLt_ints _ ?_)
      have d : decide (f j * 100 + j < f l * 100 + l) = decide (f j < f l) := decide_eq_decide.mpr (by omega)
      rw [d] at hQ'
      exact hQ'
/-- the second number as the heap tells it -/
noncomputable def rankOf (h : Heap) (v : Value) : Int := open Classical in if x : ∃ r : Int, ∃ i j y, Tri h v i j y ∧ r = i * 100 + j then x.choose else 0
theorem rankOf_eq {h : Heap} {v : Value} {i j : Int} {y : Str} (T : Tri h v i j y) : rankOf h v = i * 100 + j := by
  have x : ∃ r : Int, ∃ i j y, Tri h v i j y ∧ r = i * 100 + j := ⟨_, i, j, y, T, rfl⟩
  unfold rankOf
  rw [dif_pos x]
  obtain ⟨i', j', y', T', e⟩ := x.choose_spec
  obtain ⟨e1, e2, _⟩ := T.uniq T'
  rw [e, e1, e2]
theorem sort3 {a : Addr} {vs : List Value} {n : Nat} {f : Int → Int} {g : Int → Str} {P : PySem.Fin → Shared → Prop} (ho : s.heap.get? a = some (seqObj "list" vs.toArray n)) (h64 : vs.length < 64) (x : TrisOk s.heap vs f g)
    (r : Value → Int) (hr : ∀ v, v ∈ vs → ∀ i j y, Tri s.heap v i j y → r v = i * 100 + j)
    (h : ∀ out : Array Value, out.toList.Perm vs → out.toList.Pairwise (fun u v => r u ≤ r v) → P (.done (.ret .none)) { s with heap := sortedHeap s.heap a vs out }) :
    wpAny (model prog w) A (Builtin.«list.sort» ⟨[.ref a], []⟩) P E s := by
  have keep : ∀ b o, s.heap.get? b = some o → o.cls = .type "tuple" → (midHeap s.heap a vs).get? b = some o := fun b o e hc => by
    refine midHeap_old ?_ e
    rintro rfl
    rw [ho] at e
    have e' : seqObj "list" vs.toArray n = o := Option.some.inj e
    rw [← e'] at hc
    have c' : Value.type "list" = Value.type "tuple" := hc
    injection c' with c''
    exact absurd c'' (by decide)
  refine SK.plain_sort (r := r) ho h64 (fun h2 Q hQ => ?_) fun ps out h1 h2 h3 => ?_
  · refine kind3 (s := { s with heap := midHeap s.heap a vs }) h2 (x.keeps keep) r (fun v hv i j y t => ?_) Q hQ
    obtain ⟨j0, t0, _⟩ := x.at_ v hv
    obtain ⟨e1, e2, e3⟩ := t.uniq (t0.keeps keep)
    rw [e1, e2]
    exact hr v hv _ _ _ t0
  · obtain ⟨p, o⟩ := out_rank h1 h2 h3
    exact h out p o
theorem sorted3 {l : Addr} {vs : List Value} {f : Int → Int} {g : Int → Str} {Q : Value → Shared → Prop} (hl : s.heap.IsList l vs.toArray) (h64 : vs.length < 64) (x : TrisOk s.heap vs f g)
    (h : ∀ out : Array Value, out.toList.Perm vs → out.toList.Pairwise (fun u v => rankOf s.heap u ≤ rankOf s.heap v) → Q (.ref (s.heap.objs.size + 1)) { s with heap := sortedAll s.heap vs out }) :
    wpAny (model prog w) A (call (.builtin "sorted") [.ref l]) Q E s := by
  refine Calls.call_function_entry kind_sorted plain_sorted entry_sorted (args_sorted1 _) ?_
  unfold Builtin.«sorted»
  refine wpAny_bind (m := checkCount "sorted" 1 1 _) (wpAny_pure ?_)
  refine wpAny_bind (collect_list hl ?_ (by rw [sizeLine_eq]; omega))
  refine wpAny_bind (wpAny_newList ?_ (by rw [sizeLine_eq]; omega))
  have hsz : ((s.heap.push (seqObj "list" #[] 0)).update s.heap.objs.size (Obj.mapSeq (· ++ vs.toArray))).objs.size = s.heap.objs.size + 1 := by
    rw [Heap.size_update, size_push']
  have hoL : (((s.heap.push (seqObj "list" #[] 0)).update s.heap.objs.size (Obj.mapSeq (· ++ vs.toArray))).push (seqObj "list" vs.toArray 0)).get? (s.heap.objs.size + 1) = some (seqObj "list" vs.toArray 0) := by
    rw [← hsz]; exact Heap.get?_push_size _ rfl
  have keep : ∀ b o, s.heap.get? b = some o → o.cls = .type "tuple" → (((s.heap.push (seqObj "list" #[] 0)).update s.heap.objs.size (Obj.mapSeq (· ++ vs.toArray))).push (seqObj "list" vs.toArray 0)).get? b = some o := fun b o q _ => by
    have hlt : b < s.heap.objs.size := Heap.lt_size q
    rw [Heap.get?_push_ne _ _ _ (by rw [hsz]; exact Nat.ne_of_lt (Nat.lt_succ_of_lt hlt)), Heap.get?_update_ne _ _ _ _ (Nat.ne_of_lt hlt), Heap.get?_push_ne _ _ _ (Nat.ne_of_lt hlt)]
    exact q
  show wpAny _ _ _ _ _ { s with heap := ((s.heap.push (seqObj "list" #[] 0)).update s.heap.objs.size (Obj.mapSeq (· ++ vs.toArray))).push (seqObj "list" vs.toArray 0) }
  rw [hsz]
  refine wpAny_bind (wpAny_holding (wpAny_call_entry slot_list_sort ⟨_, hoL, rfl⟩ entry_list_sort (sort3 hoL h64 (x.keeps keep) (rankOf s.heap) (fun v hv i j y t => ?_) fun out a1 a2 => ⟨_, rfl, ?_⟩) (args_list_sort _)))
  · obtain ⟨j0, t0, _⟩ := x.at_ v hv
    obtain ⟨e1, e2, _⟩ := t.uniq (t0.keeps keep)
    rw [e1, e2]
    exact rankOf_eq t0
  · exact wpAny_pure ⟨_, rfl, h out a1 a2⟩
end
end TS3
namespace L2
open PySem PySem.Spec PyProof.Rows
/-- sorted(xs), xs a list of fewer than 64 tuples of two ints and a text, the second ints unlike: some arrangement -/
def k0_rSorted3 (K : PySem.W.Frag) : List V → Hp → VK → Prop := fun vs H Q => ∃ (a : Addr) (xs : List V) (f : Int → Int) (g : Int → Str), vs = [V.ref a] ∧ SqL K H a xs ∧ xs.length < 64 ∧ (∀ x ∈ xs, ∃ t j, x = V.ref t ∧ H t = some (.tup [.int (f j), .int j, .str (g j)]) ∧ 0 ≤ j ∧ j < 100) ∧
  ∀ (ys : List V) (p : Addr), ys.Perm xs → (ys.Pairwise fun x y => ∀ t t' j j', x = V.ref t → y = V.ref t' → H t = some (.tup [.int (f j), .int j, .str (g j)]) → H t' = some (.tup [.int (f j'), .int j', .str (g j')]) → f j * 100 + j ≤ f j' * 100 + j') → H p = none → Q (.ref p) (upd H p (.lst ys))
theorem k0_sorted3 {X : Cx} : CallR X (.builtin "sorted") (k0_rSorted3 X.K) := by
  intro pins s σ H vs us Q I r h
  obtain ⟨a, xs, f, g, rfl, hs, h64, hx, q⟩ := h
  obtain ⟨its, rv, hl, hz⟩ := I.list hs
  rw [Vals.ref1 r]
  obtain ⟨e1, e2⟩ := bkV_refs rv fun x m => by
    obtain ⟨t, j, e, _⟩ := hx x m
    exact ⟨t, e⟩
  have tri : ∀ t j, H t = some (.tup [.int (f j), .int j, .str (g j)]) → TS3.Tri s.heap (.ref t) (f j) j (g j) := fun t j ht => by
    obtain ⟨_, its2, r2, o, ho, hc, n, hd⟩ := I.hok _ _ ht
    cases r2 with
    | cons ra r2 =>
      cases r2 with
      | cons rb r2 =>
        cases r2 with
        | cons rc r2 =>
          cases r2
          obtain ⟨ta, rfl⟩ := ra
          obtain ⟨tb, rfl⟩ := rb
          obtain ⟨tc, rfl⟩ := rc
          exact ⟨t, o, _, n, ta, tb, tc, rfl, ho, hc, hd, rfl⟩
  refine TS3.sorted3 (f := f) (g := g) hl.isList (by rw [← rv.length]; exact h64) ⟨fun v hv => ?_⟩ fun out h1 h2 => ?_
  · obtain ⟨t, rfl⟩ := e2 v hv
    have hm : V.ref t ∈ xs := by
      rw [e1]
      exact List.mem_map.mpr ⟨_, hv, rfl⟩
    obtain ⟨t', j, e, ht, hj0, hj1⟩ := hx _ hm
    cases e
    exact ⟨j, tri _ _ ht, hj0, hj1⟩
  · obtain ⟨ep, he'⟩ := PyProof.Rows.sortedAll_at s.heap its out
    have h3 : ∀ u ∈ out.toList, ∃ a, u = Value.ref a := fun u hu => e2 u (h1.mem_iff.mp hu)
    have hp : (out.toList.map bkV).Perm xs := by
      rw [e1]
      exact h1.map bkV
    have ho : ((out.toList.map bkV).Pairwise fun x y => ∀ t t' j j', x = V.ref t → y = V.ref t' → H t = some (.tup [.int (f j), .int j, .str (g j)]) → H t' = some (.tup [.int (f j'), .int j', .str (g j')]) → f j * 100 + j ≤ f j' * 100 + j') := by
      rw [List.pairwise_map]
      refine List.Pairwise.imp_of_mem (fun {u v} hu hv hle t t' j j' ex ey ht ht' => ?_) h2
      obtain ⟨a1, rfl⟩ := h3 u hu
      obtain ⟨a2, rfl⟩ := h3 v hv
      have ex : V.ref a1 = V.ref t := ex
      have ey : V.ref a2 = V.ref t' := ey
      cases ex
      cases ey
      rw [TS3.rankOf_eq (tri _ _ ht), TS3.rankOf_eq (tri _ _ ht')] at hle
      exact hle
    have hlen : (out.toList.map bkV).length ≤ sizeLine := by
      rw [hp.length_eq]
      exact hz
    exact ⟨.ref _, upd H (s.heap.objs.size + 1) (.lst (out.toList.map bkV)), I.laid (t' := s.toks) (fun _ _ => PyProof.Rows.sortedAll_old) (Nat.le_succ _) ⟨hlen, out.toList, ep, bkV_vals h3, he'⟩, rfl, q _ _ hp ho (I.hok.fresh (Nat.le_succ _))⟩
end L2
end
section
end
section
set_option Elab.async false
set_option linter.all false
set_option maxRecDepth 100000
namespace K0
open PySem PySem.Spec PyProof.Rows L2
def aboveR (R : List Row) (y : Str) : List Str := (nmsOf R).filter fun x => decide (lowR R x = y)
def upR (R : List Row) (y : Str) : List Str := (nmsOf R).filter fun x => decide (y ∈ course R x)
/-! ### the deepest first -/
theorem list_getD (l : List Str) : l = (List.range l.length).map fun k => l.getD k "" := List.ext_getElem (by rw [List.length_map, List.length_range]) fun k h1 h2 => by
  rw [List.getElem_map, List.getElem_range, List.getD_eq_getElem?_getD, List.getElem?_eq_getElem h1]
  rfl
def deepR (R : List Row) : List Str := (List.range R.length).flatMap fun i => (nmsOf R).filter fun x => decide ((course R x).length = R.length - i)
/-- places, the deepest first -/
def deepP (n : Nat) (d : Nat → Nat) : List Nat := (List.range n).flatMap fun i => (List.range n).filter fun j => decide (d j = n - i)
theorem deepP_lt {n : Nat} {d : Nat → Nat} (h100 : n ≤ 100) : (deepP n d).Pairwise fun a b => -(d a : Int) * 100 + (a : Int) < -(d b : Int) * 100 + (b : Int) := by
  unfold deepP
  rw [List.pairwise_flatMap]
  refine ⟨fun i hi => ?_, ?_⟩
  · rw [List.pairwise_filter]
    refine List.Pairwise.imp (fun {a b} hab h1 h2 => ?_) (List.pairwise_lt_range (n := n))
    have h1 := of_decide_eq_true h1
    have h2 := of_decide_eq_true h2
    rw [h1, h2]
    omega
  · refine List.Pairwise.imp_of_mem (fun {i k} hi hk hik a ha b hb => ?_) (List.pairwise_lt_range (n := n))
    have hi := List.mem_range.mp hi
    have hk := List.mem_range.mp hk
    obtain ⟨a1, a2⟩ := List.mem_filter.mp ha
    obtain ⟨b1, b2⟩ := List.mem_filter.mp hb
    have a1 := List.mem_range.mp a1
    have b1 := List.mem_range.mp b1
    have a2 := of_decide_eq_true a2
    have b2 := of_decide_eq_true b2
    rw [a2, b2]
    omega
theorem deepP_perm {n : Nat} {d : Nat → Nat} (h100 : n ≤ 100) (hd : ∀ j, j < n → 1 ≤ d j ∧ d j ≤ n) : (deepP n d).Perm (List.range n) := by
  have nd : (deepP n d).Nodup := List.Pairwise.imp (fun {a b} h e => by
    subst e
    omega) (deepP_lt (d := d) h100)
  refine (List.perm_ext_iff_of_nodup nd List.nodup_range).mpr fun a => ⟨fun h => ?_, fun h => ?_⟩
  · obtain ⟨i, _, hm⟩ := List.mem_flatMap.mp h
    exact (List.mem_filter.mp hm).1
  · have ha := List.mem_range.mp h
    obtain ⟨h1, h2⟩ := hd a ha
    refine List.mem_flatMap.mpr ⟨n - d a, List.mem_range.mpr (by omega), List.mem_filter.mpr ⟨h, decide_eq_true (by omega)⟩⟩
theorem deep_eq {n : Nat} {d : Nat → Nat} {js : List Nat} (h100 : n ≤ 100) (hd : ∀ j, j < n → 1 ≤ d j ∧ d j ≤ n) (hp : js.Perm (List.range n)) (hs : js.Pairwise fun a b => -(d a : Int) * 100 + (a : Int) ≤ -(d b : Int) * 100 + (b : Int)) : js = deepP n d := by
  refine List.Perm.eq_of_pairwise (le := fun a b => -(d a : Int) * 100 + (a : Int) ≤ -(d b : Int) * 100 + (b : Int)) (fun a b ha hb h1 h2 => ?_) hs ((deepP_lt h100).imp fun h => Int.le_of_lt h) (hp.trans (deepP_perm h100 hd).symm)
  have ha := List.mem_range.mp (hp.mem_iff.mp ha)
  have hb := List.mem_range.mp ((deepP_perm h100 hd).mem_iff.mp hb)
  omega
theorem deep_names {R : List Row} {nm : Nat → Str} (hn : nmsOf R = (List.range R.length).map nm) : (deepP R.length fun j => (course R (nm j)).length).map nm = deepR R := by
  unfold deepP deepR
  rw [List.map_flatMap]
  congr 1
  funext i
  rw [hn, List.filter_map]
  rfl
abbrev scAbove_N : List Str := ["below", "low", "weir"]
abbrev scAbove_S : Stmt := sAbove
theorem scAbove : FnScope scAbove_N ["below", "low"] (defScope sAbove) := ⟨rfl, rfl, rfl, by decide +kernel, rfl, by decide +kernel, by decide +kernel⟩
abbrev scUp_N : List Str := ["courses", "low", "weir"]
abbrev scUp_S : Stmt := sUp
theorem scUp : FnScope scUp_N ["courses", "low"] (defScope sUp) := ⟨rfl, rfl, rfl, by decide +kernel, rfl, by decide +kernel, by decide +kernel⟩
abbrev scOrder_N : List Str := ["courses", "rows", "place", "weir", "row"]
abbrev scOrder_S : Stmt := sOrder
theorem scOrder : FnScope scOrder_N ["courses"] (defScope sOrder) := ⟨rfl, rfl, rfl, by decide +kernel, rfl, by decide +kernel, by decide +kernel⟩
def spAbove : Sp := fun vs H Q _ => ∃ (d : Addr) (R : List Row) (y : Str), vs = [.ref d, .str y] ∧ H d = some (.dK (belowK R)) ∧ GoodRows R ∧
  ∀ (H' : Hp) (t : Addr), Same H H' → H t = none → FT H' t (aboveR R y) → Q (.ref t) H'
def spUp : Sp := fun vs H Q _ => ∃ (c : Addr) (R : List Row) (y : Str), vs = [.ref c, .str y] ∧ TupsAt H c (nmsOf R) (course R) ∧ GoodRows R ∧
  ∀ (H' : Hp) (t : Addr), Same H H' → H t = none → FT H' t (upR R y) → Q (.ref t) H'
def spOrder : Sp := fun vs H Q _ => ∃ (c : Addr) (R : List Row), vs = [.ref c] ∧ TupsAt H c (nmsOf R) (course R) ∧ GoodRows R ∧
  ∀ (H' : Hp) (t : Addr), Same H H' → H t = none → H' t = some (.tup ((deepR R).map V.str)) → Q (.ref t) H'
/-- the place that a row tells -/
def plAt (H : Hp) (t : Addr) : Nat := match H t with | some (.tup [_, .int j, _]) => j.toNat | _ => 0
theorem inV_str (y : Str) (l : List Str) : inV (.str y) (l.map V.str) = decide (y ∈ l) := by
  unfold inV
  rw [List.any_map]
  by_cases h : y ∈ l
  · rw [decide_eq_true h]
    exact List.any_eq_true.mpr ⟨y, h, beq_self_eq_true y⟩
  · rw [decide_eq_false h, List.any_eq_false]
    intro x hx e
    have e : (x == y) = true := e
    rw [eq_of_beq e] at hx
    exact h hx
theorem flat_strs (l : List Str) : (l.map V.str).all flatV = true := by
  rw [List.all_map]
  exact List.all_eq_true.mpr fun _ _ => rfl
theorem filter_take {p : Str → Bool} {ns : List Str} {i : Nat} {x : Str} (h : ns[i]? = some x) : (ns.take (i + 1)).filter p = (ns.take i).filter p ++ (if p x = true then [x] else []) := by
  rw [List.take_add_one, h, List.filter_append]
  show _ ++ [x].filter p = _
  by_cases e : p x = true
  · rw [List.filter_cons_of_pos e, if_pos e]
    rfl
  · rw [List.filter_cons_of_neg e, if_neg e]
    rfl
section
variable {P : Program} {w : World} {K : PySem.W.Frag} {mg : Str → Option Value} {base : Heap} {tS tM tL : Tok}
theorem ok_above {f : Addr} {fd : FuncData} (F : FnP K "_directly_above" sAbove f fd) (B : Bl mg) : FnOk P w K mg base CX0 1 f fd ["below", "low"] spAbove := by
  refine F.ok scAbove (fun vs H Q E h => ?_) (fun cdv A outer s H vs Q E hr h => ?_)
  · obtain ⟨d, R, y, rfl, _⟩ := h
    rfl
  · obtain ⟨d, R, y, rfl, hd, hG, k⟩ := h
    have hu := hu_of hr
    refine ⟨_, PSs.nox (pss_one
      (ps_ret (pe_callTy (tupleF (K := K)) (by rfl) B.tuple (by decide +kernel) (pa_cons (pe_lock (pe_lc (own := [("weir", 2)]) (g := gName 2) (by rfl) scAbove.nd (pi_keys (pv 0)) (blkOk_by (own := [("weir", 2)]) (N := scAbove_N) (sc := defScope scAbove_S) (by decide +kernel)) (fun _ _ _ _ _ => (pg_name (i := 2) scAbove.nd rfl (Or.inl rfl))) (fun _ _ _ _ _ => (pts_one (pt_cmpR op_eq (pe_dget hu (pv 0) (pv 2) (fun _ _ => rfl)) (pv 1) (nomark _)))) (fun _ _ _ _ _ => (pv 2)))) pa_nil)))), ?_⟩
    have hnd := hG.nm.nd
    have hRm := hG.most
    have hnl : (nmsOf R).length = R.length := List.length_map _
    refine ⟨d, _, hd, trivial, fun od => ?_⟩
    refine ⟨_, rfl, d, od, rfl, .inl ⟨_, upd_same, fun D hD => ?_⟩⟩
    have s0 : Same (upd H d (.frz od (.dK (belowK R)))) (upd (upd H d (.frz od (.dK (belowK R)))) D (.lst [])) := same_upd hD
    have ndD : d ≠ D := ne_of_none upd_same hD
    have hfz : ∀ H2, Same (upd H d (.frz od (.dK (belowK R)))) H2 → H2 d = some (.frz od (.dK (belowK R))) := fun H2 s => s _ _ upd_same
    refine lc_it (walk_keys (kvs := belowK R)) (fun i H2 => Same (upd H d (.frz od (.dK (belowK R)))) H2 ∧ H2 D = some (.lst ((((nmsOf R).take i).filter fun x => decide (lowR R x = y)).map V.str))) ⟨s0, by rw [upd_same, List.take_zero]; rfl⟩ (fun i H2 hi h => hfz _ h.1) ?_ ?_
    · rintro i x H2 H3 hi ⟨s2, hl⟩ ⟨e, k0, v0, hkv, ev⟩
      subst e
      subst ev
      obtain ⟨x, hx, rfl, rfl⟩ := kmap_get hkv
      have hxm : x ∈ nmsOf R := List.mem_of_getElem? hx
      refine ⟨rfl, ?_⟩
      refine ⟨_, rfl, _, rfl, d, _, rfl, dget_rn (.inr ⟨od, hfz _ s2⟩) hxm, _, rfl, rfl, _, rfl, ?_⟩
      have hft := filter_take (p := fun x => decide (lowR R x = y)) hx
      refine ite2 (fun h => ?_) (fun h => ?_)
      · have h := V.str.inj (of_decide_eq_true h)
        rw [if_pos (decide_eq_true h)] at hft
        refine ⟨_, rfl, _, hl, ?_, fun b o hb => ?_, ?_⟩
        · rw [List.length_map]
          have := List.length_filter_le (fun x => decide (lowR R x = y)) ((nmsOf R).take i)
          rw [List.length_take] at this
          exact small1000 (by omega)
        · rw [upd_ne (ne_of_none hb hD)]
          exact s2 b o hb
        · rw [upd_same, hft, List.map_append]
          rfl
      · have h : ¬ lowR R x = y := fun z => h (decide_eq_true (congrArg V.str z))
        rw [if_neg (by rw [decide_eq_false h]; exact Bool.false_ne_true), List.append_nil] at hft
        refine ⟨s2, ?_⟩
        rw [hft]
        exact hl
    · rintro H2 ⟨s2, hl⟩
      rw [kmap_len, List.take_length] at hl
      refine ⟨hfz _ s2, ?_⟩
      have s3 : Same H (upd H2 d (.dK (belowK R))) := same_unlock hd s2
      have hl3 : (upd H2 d (.dK (belowK R))) D = some (.lst ((aboveR R y).map V.str)) := by
        rw [upd_ne ndD.symm]
        exact hl
      refine ⟨D, _, rfl, .inl (.inl hl3), fun t ot nt pt => ?_⟩
      exact k _ t (s3.trans (same_upd nt)) (s3.free nt) ⟨ot, pt, upd_same⟩
theorem ok_up {f : Addr} {fd : FuncData} (F : FnP K "_find_upstream" sUp f fd) (B : Bl mg) : FnOk P w K mg base CX0 1 f fd ["courses", "low"] spUp := by
  refine F.ok scUp (fun vs H Q E h => ?_) (fun cdv A outer s H vs Q E hr h => ?_)
  · obtain ⟨d, R, y, rfl, _⟩ := h
    rfl
  · obtain ⟨d, R, y, rfl, hT, hG, k⟩ := h
    have hu := hu_of hr
    obtain ⟨ta, hd, ht⟩ := hT.ex
    refine ⟨_, PSs.nox (pss_one
      (ps_ret (pe_callTy (tupleF (K := K)) (by rfl) B.tuple (by decide +kernel) (pa_cons (pe_lock (pe_lc (own := [("weir", 2)]) (g := gName 2) (by rfl) scUp.nd (pi_keys (pv 0)) (blkOk_by (own := [("weir", 2)]) (N := scUp_N) (sc := defScope scUp_S) (by decide +kernel)) (fun _ _ _ _ _ => (pg_name (i := 2) scUp.nd rfl (Or.inl rfl))) (fun _ _ _ _ _ => (pts_one (pt_cmpR (inK (K := K)) (pv 1) (pe_dget hu (pv 0) (pv 2) (fun _ _ => rfl)) (by rfl)))) (fun _ _ _ _ _ => (pv 2)))) pa_nil)))), ?_⟩
    have hnd := hG.nm.nd
    have hRm := hG.most
    have hnl : (nmsOf R).length = R.length := List.length_map _
    refine ⟨d, _, hd, trivial, fun od => ?_⟩
    refine ⟨_, rfl, d, od, rfl, .inl ⟨_, upd_same, fun D hD => ?_⟩⟩
    have s0 : Same (upd H d (.frz od (.dK (kmap (fun x => .ref (ta x)) (nmsOf R))))) (upd (upd H d (.frz od (.dK (kmap (fun x => .ref (ta x)) (nmsOf R))))) D (.lst [])) := same_upd hD
    have ndD : d ≠ D := ne_of_none upd_same hD
    have hfz : ∀ H2, Same (upd H d (.frz od (.dK (kmap (fun x => .ref (ta x)) (nmsOf R))))) H2 → H2 d = some (.frz od (.dK (kmap (fun x => .ref (ta x)) (nmsOf R)))) := fun H2 s => s _ _ upd_same
    have htf : ∀ x ∈ nmsOf R, FT (upd H d (.frz od (.dK (kmap (fun x => .ref (ta x)) (nmsOf R))))) (ta x) (course R x) := fun x hx => (ht x hx).upd ((ht x hx).ne hd (fun _ _ z => by cases z))
    refine lc_it walk_keys (fun i H2 => Same (upd H d (.frz od (.dK (kmap (fun x => .ref (ta x)) (nmsOf R))))) H2 ∧ H2 D = some (.lst ((((nmsOf R).take i).filter fun x => decide (y ∈ course R x)).map V.str))) ⟨s0, by rw [upd_same, List.take_zero]; rfl⟩ (fun i H2 hi h => hfz _ h.1) ?_ ?_
    · rintro i x H2 H3 hi ⟨s2, hl⟩ ⟨e, k0, v0, hkv, ev⟩
      subst e
      subst ev
      obtain ⟨x, hx, rfl, rfl⟩ := kmap_get hkv
      have hxm : x ∈ nmsOf R := List.mem_of_getElem? hx
      refine ⟨rfl, ?_⟩
      refine ⟨_, rfl, _, rfl, _, rfl, d, _, rfl, dget_rn (.inr ⟨od, hfz _ s2⟩) hxm, ta x, _, rfl, .inr (.inl ((htf x hxm).same s2).rd), rfl, flat_strs _, _, rfl, ?_⟩
      have hft := filter_take (p := fun x => decide (y ∈ course R x)) hx
      rw [inV_str]
      refine ite2 (fun h => ?_) (fun h => ?_)
      · have h : decide (y ∈ course R x) = true := h
        rw [if_pos h] at hft
        refine ⟨_, rfl, _, hl, ?_, fun b o hb => ?_, ?_⟩
        · rw [List.length_map]
          have := List.length_filter_le (fun x => decide (y ∈ course R x)) ((nmsOf R).take i)
          rw [List.length_take] at this
          exact small1000 (by omega)
        · rw [upd_ne (ne_of_none hb hD)]
          exact s2 b o hb
        · rw [upd_same, hft, List.map_append]
          rfl
      · have h : ¬ decide (y ∈ course R x) = true := h
        rw [if_neg h, List.append_nil] at hft
        refine ⟨s2, ?_⟩
        rw [hft]
        exact hl
    · rintro H2 ⟨s2, hl⟩
      rw [kmap_len, List.take_length] at hl
      refine ⟨hfz _ s2, ?_⟩
      have s3 : Same H (upd H2 d (.dK (kmap (fun x => .ref (ta x)) (nmsOf R)))) := same_unlock hd s2
      have hl3 : (upd H2 d (.dK (kmap (fun x => .ref (ta x)) (nmsOf R)))) D = some (.lst ((upR R y).map V.str)) := by
        rw [upd_ne ndD.symm]
        exact hl
      refine ⟨D, _, rfl, .inl (.inl hl3), fun t ot nt pt => ?_⟩
      exact k _ t (s3.trans (same_upd nt)) (s3.free nt) ⟨ot, pt, upd_same⟩
theorem ok_order {f : Addr} {fd : FuncData} (F : FnP K "_order_by_depth" sOrder f fd) (B : Bl mg) : FnOk P w K mg base CX0 1 f fd ["courses"] spOrder := by
  refine F.ok scOrder (fun vs H Q E h => ?_) (fun cdv A outer s H vs Q E hr h => ?_)
  · obtain ⟨d, R, rfl, _⟩ := h
    rfl
  · obtain ⟨d, R, rfl, hT, hG, k⟩ := h
    have hu := hu_of hr
    obtain ⟨ta, hd, ht⟩ := hT.ex
    refine ⟨_, PSs.nox (pss_cons
      (ps_set (i := 1) scOrder.nd rfl (Or.inl rfl) (pe_callB k0_sorted3 (by rfl) B.sorted (by decide +kernel) (pa_cons (pe_lock (pe_lc (own := [("place", 2), ("weir", 3)]) (tt := tYes) (by rfl) scOrder.nd (pi_enumD (by rfl) B.enumerate (pa_cons (pv 0) pa_nil)) (blkOk_by (own := [("place", 2), ("weir", 3)]) (N := scOrder_N) (sc := defScope scOrder_S) (by decide +kernel)) (fun _ _ _ _ _ => (tgK (K := K) (n := 2) (by rfl) (pgs_cons (pg_name (i := 2) scOrder.nd rfl (Or.inl rfl)) (pgs_cons (pg_name (i := 3) scOrder.nd rfl (Or.inl rfl)) pgs_nil)))) (fun _ _ _ _ _ => pts_nil) (fun _ _ _ _ _ => (pe_tup (pa_cons (pe_un un_neg (pe_callB (lenK (K := K)) (by rfl) B.len PySem.boot_len (pa_cons (pe_dget hu (pv 0) (pv 3) (fun _ _ => rfl)) pa_nil))) (pa_cons (pv 2) (pa_cons (pv 3) pa_nil))))))) pa_nil)))
      (pss_one
      (ps_ret (pe_callTy (tupleK (K := K)) (by rfl) B.tuple (by decide +kernel) (pa_cons (pe_lc (own := [("row", 4)]) (g := gName 4) (tt := tYes) (by rfl) scOrder.nd (pi_list (pv 1)) (blkOk_by (own := [("row", 4)]) (N := scOrder_N) (sc := defScope scOrder_S) (by decide +kernel)) (fun _ _ _ _ _ => (pg_name (i := 4) scOrder.nd rfl (Or.inl rfl))) (fun _ _ _ _ _ => pts_nil) (fun _ _ _ _ _ => (pe_ix (ixTK (K := K)) (pv 4) pe_int (fun _ _ => rfl)))) pa_nil))))), ?_⟩
    have hnd := hG.nm.nd
    have hRm := hG.most
    have hnl : (nmsOf R).length = R.length := List.length_map _
    refine ⟨d, _, hd, trivial, fun od => ?_⟩
    refine ⟨_, rfl, d, od, _, rfl, upd_same, fun D hD => ?_⟩
    have s0 : Same (upd H d (.frz od (.dK (kmap (fun x => .ref (ta x)) (nmsOf R))))) (upd (upd H d (.frz od (.dK (kmap (fun x => .ref (ta x)) (nmsOf R))))) D (.lst [])) := same_upd hD
    have ndD : d ≠ D := ne_of_none upd_same hD
    have hfz : ∀ H2, Same (upd H d (.frz od (.dK (kmap (fun x => .ref (ta x)) (nmsOf R))))) H2 → H2 d = some (.frz od (.dK (kmap (fun x => .ref (ta x)) (nmsOf R)))) := fun H2 s => s _ _ upd_same
    have htf : ∀ x ∈ nmsOf R, FT (upd H d (.frz od (.dK (kmap (fun x => .ref (ta x)) (nmsOf R))))) (ta x) (course R x) := fun x hx => (ht x hx).upd ((ht x hx).ne hd (fun _ _ z => by cases z))
    refine lc_it walk_enumD (fun i H2 => Same (upd H d (.frz od (.dK (kmap (fun x => .ref (ta x)) (nmsOf R))))) H2 ∧ ∃ ts : List Addr, H2 D = some (.lst (ts.map V.ref)) ∧ ts.length = i ∧ ∀ k t, ts[k]? = some t → H2 t = some (.tup [.int (-((course R ((nmsOf R).getD k "")).length : Int)), .int (k : Int), .str ((nmsOf R).getD k "")])) ⟨s0, [], upd_same, rfl, fun k t hk => by cases hk⟩ (fun i H2 hi h => hfz _ h.1) ?_ ?_
    · rintro i x H2 H3 hi ⟨s2, ts, hl, hxl, hxs⟩ ⟨T, x1, x2, rfl, hT, rfl, e1, e2⟩
      rw [kmap_len] at hi
      have e1 : x1 = .int (i : Int) := (Option.some.inj e1).symm
      subst e1
      obtain ⟨x, hx, rfl⟩ : ∃ x, (nmsOf R)[i]? = some x ∧ x2 = .str x := by
        refine ⟨(nmsOf R)[i], List.getElem?_eq_getElem hi, ?_⟩
        have e2 : ((kmap (fun x => V.ref (ta x)) (nmsOf R))[i]?.map fun kv => kV kv.1) = some x2 := e2
        unfold kmap at e2
        rw [List.getElem?_map, List.getElem?_eq_getElem hi] at e2
        exact (Option.some.inj e2).symm
      have hxm : x ∈ nmsOf R := List.mem_of_getElem? hx
      have s3 : Same (upd H d (.frz od (.dK (kmap (fun x => .ref (ta x)) (nmsOf R))))) (upd H2 T (.tup [.int (i : Int), .str x])) := s2.trans (same_upd hT)
      refine ⟨T, _, rfl, .inl (.inl upd_same), rfl, _, _, rfl, _, _, rfl, rfl, rfl, ?_⟩
      unfold tYes
      refine iteT ?_
      refine ⟨_, rfl, _, rfl, d, _, rfl, dget_rn (.inr ⟨od, hfz _ s3⟩) hxm, ta x, _, rfl, .inr (.inl ((htf x hxm).same s3).rd), _, rfl, _, rfl, _, rfl, by show 3 ≤ sizeLine; decide, fun p np => ?_⟩
      have hlD : (upd H2 T (.tup [.int (i : Int), .str x])) D = some (.lst (ts.map V.ref)) := by
        rw [upd_ne (ne_of_none hl hT)]
        exact hl
      have npD : D ≠ p := ne_of_none hlD np
      have eg : (nmsOf R).getD i "" = x := by
        rw [List.getD_eq_getElem?_getD, hx]
        rfl
      refine ⟨ts.map V.ref, by rw [upd_ne npD]; exact hlD, small1000 (by rw [List.length_map]; omega), fun b o hb => ?_, ts ++ [p], by rw [upd_same, List.map_append]; rfl, by rw [List.length_append, hxl]; rfl, fun k t hk => ?_⟩
      · have h3 := s3 b o hb
        rw [upd_ne (ne_of_none hb hD), upd_ne (ne_of_none h3 np)]
        exact h3
      · rcases Nat.lt_or_ge k ts.length with hkl | hkl
        · rw [List.getElem?_append_left hkl] at hk
          have h1 := hxs k t hk
          have h1' : (upd H2 T (.tup [.int (i : Int), .str x])) t = some (.tup [.int (-((course R ((nmsOf R).getD k "")).length : Int)), .int (k : Int), .str ((nmsOf R).getD k "")]) := by
            rw [upd_ne (ne_of_none h1 hT)]
            exact h1
          rw [upd_ne (ne_of h1 hl (fun z => by cases z)), upd_ne (ne_of_none h1' np)]
          exact h1'
        · rw [List.getElem?_append_right hkl] at hk
          have hk0 : k - ts.length = 0 := by
            have := (List.getElem?_eq_some_iff.mp hk).1
            rw [List.length_singleton] at this
            omega
          rw [hk0] at hk
          have e : p = t := Option.some.inj hk
          have ek : k = i := by omega
          rw [← e, ek, upd_ne npD.symm, upd_same, eg, List.length_map]
    · rintro H2 ⟨s2, ts, hl, hxl, hxs⟩
      rw [kmap_len] at hxl
      refine ⟨hfz _ s2, ?_⟩
      have s3 : Same H (upd H2 d (.dK (kmap (fun x => .ref (ta x)) (nmsOf R)))) := same_unlock hd s2
      have hl3 : (upd H2 d (.dK (kmap (fun x => .ref (ta x)) (nmsOf R)))) D = some (.lst (ts.map V.ref)) := by
        rw [upd_ne ndD.symm]
        exact hl
      have hxs3 : ∀ k t, ts[k]? = some t → (upd H2 d (.dK (kmap (fun x => .ref (ta x)) (nmsOf R)))) t = some (.tup [.int (-((course R ((nmsOf R).getD k "")).length : Int)), .int (k : Int), .str ((nmsOf R).getD k "")]) := fun k t hk => by
        have h1 := hxs k t hk
        rw [upd_ne (ne_of h1 (hfz _ s2) (fun z => by cases z))]
        exact h1
      generalize upd H2 d (.dK (kmap (fun x => .ref (ta x)) (nmsOf R))) = H3 at s3 hl3 hxs3
      have hn : ts.length = R.length := by rw [hxl, hnl]
      refine ⟨D, ts.map V.ref, fun j => -((course R ((nmsOf R).getD j.toNat "")).length : Int), fun j => (nmsOf R).getD j.toNat "", rfl, .inl (.inl hl3), by rw [List.length_map]; omega, fun x hx => ?_, fun ys p hp hord np => ?_⟩
      · obtain ⟨t, ht, rfl⟩ := List.mem_map.mp hx
        obtain ⟨k, hk⟩ := List.getElem?_of_mem ht
        have hkl := (List.getElem?_eq_some_iff.mp hk).1
        exact ⟨t, (k : Int), rfl, hxs3 k t hk, by omega, by omega⟩
      obtain ⟨ts', eys, hp'⟩ := perm_lift hp ts rfl
      subst eys
      have hpl : ∀ k t, ts[k]? = some t → plAt H3 t = k := fun k t hk => by
        unfold plAt
        rw [hxs3 k t hk]
        rfl
      have hmap : ts.map (plAt H3) = List.range R.length := List.ext_getElem (by rw [List.length_map, List.length_range, hn]) fun k h1 h2 => by
        rw [List.getElem_map, List.getElem_range]
        rw [List.length_map] at h1
        exact hpl k _ (List.getElem?_eq_getElem h1)
      have hjp : (ts'.map (plAt H3)).Perm (List.range R.length) := by
        rw [← hmap]
        exact hp'.map _
      have hH : ∀ t ∈ ts', H3 t = some (.tup [.int (-((course R ((nmsOf R).getD (plAt H3 t) "")).length : Int)), .int (plAt H3 t : Int), .str ((nmsOf R).getD (plAt H3 t) "")]) := fun t ht => by
        obtain ⟨k, hk⟩ := List.getElem?_of_mem (hp'.mem_iff.mp ht)
        rw [hpl k t hk]
        exact hxs3 k t hk
      have hjs : (ts'.map (plAt H3)).Pairwise fun a b => -((course R ((nmsOf R).getD a "")).length : Int) * 100 + (a : Int) ≤ -((course R ((nmsOf R).getD b "")).length : Int) * 100 + (b : Int) := by
        rw [List.pairwise_map] at hord ⊢
        refine List.Pairwise.imp_of_mem (fun {t t'} ht ht' h => ?_) hord
        exact h t t' (plAt H3 t : Int) (plAt H3 t' : Int) rfl rfl (hH t ht) (hH t' ht')
      have hnm : nmsOf R = (List.range R.length).map fun k => (nmsOf R).getD k "" := by
        have := list_getD (nmsOf R)
        rw [hnl] at this
        exact this
      have hd : ∀ j, j < R.length → 1 ≤ (course R ((nmsOf R).getD j "")).length ∧ (course R ((nmsOf R).getD j "")).length ≤ R.length := fun j hj => by
        have hm : (nmsOf R).getD j "" ∈ nmsOf R := by
          rw [List.getD_eq_getElem?_getD, List.getElem?_eq_getElem (by rw [hnl]; exact hj)]
          exact List.getElem_mem _
        obtain ⟨m, c⟩ := course_is hG hm
        rw [c.eq, List.length_map, List.length_range]
        exact ⟨c.one, c.most⟩
      have hjeq := deep_eq (n := R.length) (d := fun j => (course R ((nmsOf R).getD j "")).length) (by omega) hd hjp hjs
      have hz : ts'.map (fun t => V.str ((nmsOf R).getD (plAt H3 t) "")) = (deepR R).map V.str := by
        rw [← deep_names (nm := fun k => (nmsOf R).getD k "") hnm, ← hjeq, List.map_map, List.map_map]
        rfl
      have s4 : Same H3 (upd H3 p (.lst (ts'.map V.ref))) := same_upd np
      refine ⟨_, rfl, p, rfl, ⟨ts'.map V.ref, .inl (.inl upd_same)⟩, fun L hL => ?_⟩
      have s5 : Same (upd H3 p (.lst (ts'.map V.ref))) (upd (upd H3 p (.lst (ts'.map V.ref))) L (.lst [])) := same_upd hL
      have hlen' : ts'.length = R.length := by rw [hp'.length_eq, hn]
      refine lc_list (K := K) (a := p) (xs := ts'.map V.ref) (fun i H4 => Same (upd H3 p (.lst (ts'.map V.ref))) H4 ∧ H4 L = some (.lst ((ts'.take i).map fun t => V.str ((nmsOf R).getD (plAt H3 t) "")))) ⟨s5, by rw [upd_same, List.take_zero]; rfl⟩ (fun i H4 hi h => .inl (.inl (h.1 _ _ upd_same))) ?_ ?_
      · rintro i x H4 hx ⟨s6, hz4⟩
        rw [List.getElem?_map] at hx
        obtain ⟨t, ht, rfl⟩ := Option.map_eq_some_iff.mp hx
        have h1 := hH t (List.mem_of_getElem? ht)
        have hi : i < ts'.length := (List.getElem?_eq_some_iff.mp ht).1
        refine ⟨rfl, ?_⟩
        unfold tYes
        refine iteT ?_
        refine ⟨_, rfl, t, _, _, _, rfl, rfl, .inl (.inl (s6 _ _ (s4 _ _ h1))), atI_nat (j := 2) rfl, _, hz4, small1000 (by rw [List.length_map, List.length_take]; omega), fun b o hb => ?_, ?_⟩
        · rw [upd_ne (ne_of_none hb hL)]
          exact s6 b o hb
        · rw [upd_same, List.take_add_one, ht, List.map_append]
          rfl
      · rintro H4 ⟨s6, hz4⟩
        rw [List.length_map, List.take_length, hz] at hz4
        refine ⟨L, _, rfl, .inl ⟨.inl (.inl hz4), fun t nt => ?_⟩⟩
        have s7 : Same H (upd H4 t (.tup ((deepR R).map V.str))) := ((s3.trans s4).trans s6).trans (same_upd nt)
        exact k _ t s7 (((s3.trans s4).trans s6).free nt) upd_same
end
end K0
end
section
set_option Elab.async false
set_option linter.all false
set_option maxRecDepth 100000
namespace K0
open PySem PySem.Spec PyProof.Rows L2
abbrev sInit : Stmt := inClass sRiver 0
abbrev sEq : Stmt := inClass sRiver 1
abbrev sLen : Stmt := inClass sRiver 2
abbrev sIter : Stmt := inClass sRiver 3
abbrev sContains : Stmt := inClass sRiver 4
abbrev sRows : Stmt := inClass sRiver 5
abbrev sBelow : Stmt := inClass sRiver 6
abbrev sAboveM : Stmt := inClass sRiver 7
abbrev sCourseM : Stmt := inClass sRiver 8
abbrev sDepth : Stmt := inClass sRiver 9
abbrev sUpM : Stmt := inClass sRiver 10
/-- the class, as the top has made it -/
structure Rv (K : PySem.W.Frag) (mg : Str → Option Value) (C : Addr) : Prop where
  cl : Cls K C
  weirs : NoAttr K C "weirs"
  _rows : NoAttr K C "_rows"
  _below : NoAttr K C "_below"
  _courses : NoAttr K C "_courses"
  _above : NoAttr K C "_above"
  _upstream : NoAttr K C "_upstream"
  _deepest_first : NoAttr K C "_deepest_first"
  mgC : mg "River" = some (.ref C)
/-- the fields, in the order in which they are stored -/
def f1 (a : V) : List (Str × V) := putF "weirs" a []
def f2 (a b : V) : List (Str × V) := putF "_rows" b (f1 a)
def f3 (a b c : V) : List (Str × V) := putF "_below" c (f2 a b)
def f4 (a b c d : V) : List (Str × V) := putF "_courses" d (f3 a b c)
def f5 (a b c d e : V) : List (Str × V) := putF "_above" e (f4 a b c d)
def f6 (a b c d e g : V) : List (Str × V) := putF "_upstream" g (f5 a b c d e)
def f7 (a b c d e g h : V) : List (Str × V) := putF "_deepest_first" h (f6 a b c d e g)
theorem putF_len (n : Str) (v : V) : ∀ fs : List (Str × V), (putF n v fs).length ≤ fs.length + 1
  | [] => Nat.le_refl _
  | q :: r => by
    have ih := putF_len n v r
    show (if q.1 = n then (q.1, v) :: r else q :: putF n v r).length ≤ _
    split
    · simp
    · simp only [List.length_cons]; omega
section
variable (a b c d e g h : V)
theorem l1 : (f1 a).length ≤ 1 := putF_len _ _ _
theorem l2 : (f2 a b).length ≤ 2 := Nat.le_trans (putF_len _ _ _) (Nat.succ_le_succ (l1 a))
theorem l3 : (f3 a b c).length ≤ 3 := Nat.le_trans (putF_len _ _ _) (Nat.succ_le_succ (l2 a b))
theorem l4 : (f4 a b c d).length ≤ 4 := Nat.le_trans (putF_len _ _ _) (Nat.succ_le_succ (l3 a b c))
theorem l5 : (f5 a b c d e).length ≤ 5 := Nat.le_trans (putF_len _ _ _) (Nat.succ_le_succ (l4 a b c d))
theorem l6 : (f6 a b c d e g).length ≤ 6 := Nat.le_trans (putF_len _ _ _) (Nat.succ_le_succ (l5 a b c d e))
theorem g3b : (f3 a b c).lookup ("_below" : Str) = some c := by rw [f3, lookup_putF, if_pos rfl]
theorem g4b : (f4 a b c d).lookup ("_below" : Str) = some c := by rw [f4, lookup_putF, if_neg (by decide +kernel), g3b]
theorem g4w : (f4 a b c d).lookup ("weirs" : Str) = some a := by
  rw [f4, lookup_putF, if_neg (by decide +kernel), f3, lookup_putF, if_neg (by decide +kernel), f2, lookup_putF, if_neg (by decide +kernel), f1, lookup_putF, if_pos rfl]
theorem g4c : (f4 a b c d).lookup ("_courses" : Str) = some d := by rw [f4, lookup_putF, if_pos rfl]
theorem g5w : (f5 a b c d e).lookup ("weirs" : Str) = some a := by rw [f5, lookup_putF, if_neg (by decide +kernel), g4w]
theorem g5c : (f5 a b c d e).lookup ("_courses" : Str) = some d := by rw [f5, lookup_putF, if_neg (by decide +kernel), g4c]
theorem g6c : (f6 a b c d e g).lookup ("_courses" : Str) = some d := by rw [f6, lookup_putF, if_neg (by decide +kernel), g5c]
theorem g7w : (f7 a b c d e g h).lookup ("weirs" : Str) = some a := by rw [f7, lookup_putF, if_neg (by decide +kernel), f6, lookup_putF, if_neg (by decide +kernel), g5w]
theorem g7r : (f7 a b c d e g h).lookup ("_rows" : Str) = some b := by
  rw [f7, lookup_putF, if_neg (by decide +kernel), f6, lookup_putF, if_neg (by decide +kernel), f5, lookup_putF, if_neg (by decide +kernel), f4, lookup_putF, if_neg (by decide +kernel), f3, lookup_putF, if_neg (by decide +kernel), f2, lookup_putF, if_pos rfl]
theorem g7b : (f7 a b c d e g h).lookup ("_below" : Str) = some c := by
  rw [f7, lookup_putF, if_neg (by decide +kernel), f6, lookup_putF, if_neg (by decide +kernel), f5, lookup_putF, if_neg (by decide +kernel), g4b]
theorem g7c : (f7 a b c d e g h).lookup ("_courses" : Str) = some d := by rw [f7, lookup_putF, if_neg (by decide +kernel), g6c]
theorem g7a : (f7 a b c d e g h).lookup ("_above" : Str) = some e := by
  rw [f7, lookup_putF, if_neg (by decide +kernel), f6, lookup_putF, if_neg (by decide +kernel), f5, lookup_putF, if_pos rfl]
theorem g7u : (f7 a b c d e g h).lookup ("_upstream" : Str) = some g := by
  rw [f7, lookup_putF, if_neg (by decide +kernel), f6, lookup_putF, if_pos rfl]
theorem g7no {m : Str} (h1 : ¬ m = "weirs") (h2 : ¬ m = "_rows") (h3 : ¬ m = "_below") (h4 : ¬ m = "_courses") (h5 : ¬ m = "_above") (h6 : ¬ m = "_upstream") (h7 : ¬ m = "_deepest_first") : (f7 a b c d e g h).lookup m = none := by
  rw [f7, lookup_putF, if_neg h7, f6, lookup_putF, if_neg h6, f5, lookup_putF, if_neg h5, f4, lookup_putF, if_neg h4, f3, lookup_putF, if_neg h3, f2, lookup_putF, if_neg h2, f1, lookup_putF, if_neg h1]
  rfl
end
abbrev namesOf (AR : List (Addr × Row)) : List Str := nmsOf (rowsOf AR)
/-- a tuple of the weirs, the deepest first -/
def DeepAt (H : Hp) (o : V) (R : List Row) : Prop := ∃ t, o = .ref t ∧ H t = some (.tup ((deepR R).map V.str))
theorem DeepAt.to {H H' : Hp} {o : V} {R : List Row} (d : DeepAt H o R) (h : ∀ t, H t = some (.tup ((deepR R).map V.str)) → H' t = some (.tup ((deepR R).map V.str))) : DeepAt H' o R := by
  obtain ⟨t, e, q⟩ := d
  exact ⟨t, e, h t q⟩
/-- a river of these rows stands at p -/
structure RivAt (C : Addr) (H : Hp) (p : Addr) (AR : List (Addr × Row)) : Prop where
  ex : ∃ (dx tw tr db dc da du : Addr) (o : V), H p = some (.ins C dx (f7 (.ref tw) (.ref tr) (.ref db) (.ref dc) (.ref da) (.ref du) o)) ∧
    H tw = some (.tup ((namesOf AR).map V.str)) ∧ H tr = some (.tup (AR.map fun q => V.ref q.1)) ∧ (∀ q ∈ AR, H q.1 = some (.tup [.str q.2.1, .str q.2.2])) ∧ H db = some (.dK (belowK (rowsOf AR))) ∧
    TupsAt H dc (namesOf AR) (course (rowsOf AR)) ∧ TupsAt H da (namesOf AR ++ [("sea" : Str)]) (aboveR (rowsOf AR)) ∧ TupsAt H du (namesOf AR) (upR (rowsOf AR)) ∧ DeepAt H o (rowsOf AR)
theorem Same.riv {C : Addr} {H H' : Hp} {p : Addr} {AR : List (Addr × Row)} (s : Same H H') (r : RivAt C H p AR) : RivAt C H' p AR := by
  obtain ⟨dx, tw, tr, db, dc, da, du, o, h1, h2, h3, h4, h5, h6, h7, h8, h9⟩ := r.ex
  exact ⟨dx, tw, tr, db, dc, da, du, o, s _ _ h1, s _ _ h2, s _ _ h3, fun q hq => s _ _ (h4 q hq), s _ _ h5, h6.same s, h7.same s, h8.same s, h9.to fun _ e => s _ _ e⟩
abbrev scInit_N : List Str := ["self", "rows", "row", "weir", "low"]
abbrev scInit_S : Stmt := sInit
theorem scInit : FnScope scInit_N ["self", "rows"] (defScope sInit) := ⟨rfl, rfl, rfl, by decide +kernel, rfl, by decide +kernel, by decide +kernel⟩
def spInit (C : Addr) : Sp := fun vs H Q _ => ∃ (p l dx : Addr) (AR : List (Addr × Row)), vs = [.ref p, .ref l] ∧ H p = some (.ins C dx []) ∧ RowsAt H l AR ∧ GoodRows (rowsOf AR) ∧
  ∀ H', Upto p H H' → RivAt C H' p AR → Q .non H'
section
variable {P : Program} {w : World} {K : PySem.W.Frag} {mg : Str → Option Value} {base : Heap} {tS tM tL : Tok}
/-- the functions that a river's making calls -/
structure Mf (K : PySem.W.Frag) (mg : Str → Option Value) : Prop where
  isName : ∃ f fd, FnP K "is_name" sIsName f fd ∧ mg "is_name" = some (.ref f)
  isRow : ∃ f fd, FnP K "_is_row" sIsRow f fd ∧ mg "is_row_rivers" = some (.ref f)
  needRows : ∃ f fd, FnP K "_need_rows" sNeedRows f fd ∧ mg "need_rows_rivers" = some (.ref f)
  course : ∃ f fd, FnP K "_course" sCourse f fd ∧ mg "_course" = some (.ref f)
  find : ∃ f fd, FnP K "_find_courses" sFind f fd ∧ mg "_find_courses" = some (.ref f)
  above : ∃ f fd, FnP K "_directly_above" sAbove f fd ∧ mg "_directly_above" = some (.ref f)
  up : ∃ f fd, FnP K "_find_upstream" sUp f fd ∧ mg "_find_upstream" = some (.ref f)
  order : ∃ f fd, FnP K "_order_by_depth" sOrder f fd ∧ mg "_order_by_depth" = some (.ref f)
theorem ok_init {f Cr : Addr} {fd : FuncData} (F : FnM K "__init__" "River.__init__" sInit f fd) (M : Mf K mg) (T : Rv K mg Cr) (B : Bl mg) (C : Gc mg tS tM tL) : FnOk P w K mg base CX0 4 f fd ["self", "rows"] (spInit Cr) := by
  obtain ⟨a1, d1, F1, m1⟩ := M.isName
  obtain ⟨a2, d2, F2, m2⟩ := M.isRow
  obtain ⟨a3, d3, F_need_rows, g_need_rows⟩ := M.needRows
  obtain ⟨a4, d4, F4, m4⟩ := M.course
  obtain ⟨a5, d5, F_find_courses, g_find_courses⟩ := M.find
  obtain ⟨a6, d6, F_directly_above, g_directly_above⟩ := M.above
  obtain ⟨a7, d7, F_find_upstream, g_find_upstream⟩ := M.up
  obtain ⟨a8, d8, F_order_by_depth, g_order_by_depth⟩ := M.order
  have G_need_rows : FnOk P w K mg base CX0 3 a3 d3 ["rows"] (spNeedRows K) := ok_needrows F_need_rows F1 m1 F2 m2 B C
  have b_need_rows : Binds K d3 ["rows"] [] := F_need_rows.bindsN fun _ _ _ _ _ _ us hl => match us, hl with | [_], _ => rfl
  have G_find_courses : FnOk P w K mg base CX0 2 a5 d5 ["below"] (spFind K) := ok_find F_find_courses F4 m4 B C
  have b_find_courses : Binds K d5 ["below"] [] := F_find_courses.bindsN fun _ _ _ _ _ _ us hl => match us, hl with | [_], _ => rfl
  have G_directly_above : FnOk P w K mg base CX0 1 a6 d6 ["below", "low"] spAbove := ok_above F_directly_above B
  have b_directly_above : Binds K d6 ["below", "low"] [] := F_directly_above.bindsN fun _ _ _ _ _ _ us hl => match us, hl with | [_, _], _ => rfl
  have G_find_upstream : FnOk P w K mg base CX0 1 a7 d7 ["courses", "low"] spUp := ok_up F_find_upstream B
  have b_find_upstream : Binds K d7 ["courses", "low"] [] := F_find_upstream.bindsN fun _ _ _ _ _ _ us hl => match us, hl with | [_, _], _ => rfl
  have G_order_by_depth : FnOk P w K mg base CX0 1 a8 d8 ["courses"] spOrder := ok_order F_order_by_depth B
  have b_order_by_depth : Binds K d8 ["courses"] [] := F_order_by_depth.bindsN fun _ _ _ _ _ _ us hl => match us, hl with | [_], _ => rfl
  refine F.ok scInit (fun vs H Q E h => ?_) (fun cdv A outer s H vs Q E hr h => ?_)
  · obtain ⟨p, l, dx, AR, rfl, _⟩ := h
    rfl
  · obtain ⟨p, l, dx, AR, rfl, hp, hR, hG, k⟩ := h
    have hu := hu_of hr
    have hr_need_rows : Room 3 _ := hr.mono (by decide)
    have hr_find_courses : Room 2 _ := hr.mono (by decide)
    have hr_directly_above : Room 1 _ := hr.mono (by decide)
    have hr_find_upstream : Room 1 _ := hr.mono (by decide)
    have hr_order_by_depth : Room 1 _ := hr.mono (by decide)
    refine ⟨_, PSs.nox (pss_cons
      (ps_expr (pe_call G_need_rows hr_need_rows (by rfl) g_need_rows F_need_rows.kp b_need_rows .nil pass0 (pa_cons (pv 1) pa_nil)))
      (pss_cons
      (ps_fld (pv 0) (pe_callTy (tupleK (K := K)) (by rfl) B.tuple (by decide +kernel) (pa_cons (pe_lc (own := [("row", 2)]) (g := gName 2) (tt := tYes) (by rfl) scInit.nd (pi_list (pv 1)) (blkOk_by (own := [("row", 2)]) (N := scInit_N) (sc := defScope scInit_S) (by decide +kernel)) (fun _ _ _ _ _ => (pg_name (i := 2) scInit.nd rfl (Or.inl rfl))) (fun _ _ _ _ _ => pts_nil) (fun _ _ _ _ _ => (pe_ix (ixTK (K := K)) (pv 2) pe_int (fun _ _ => rfl)))) pa_nil)) rfl)
      (pss_cons
      (ps_fld (pv 0) (pe_callTy (tupleK (K := K)) (by rfl) B.tuple (by decide +kernel) (pa_cons (pv 1) pa_nil)) rfl)
      (pss_cons
      (ps_fld (pv 0) (pe_dc (own := [("weir", 3), ("low", 4)]) (tt := tYes) (by rfl) scInit.nd (pi_list (pv 1)) (blkOk_by (own := [("weir", 3), ("low", 4)]) (N := scInit_N) (sc := defScope scInit_S) (by decide +kernel)) (fun _ _ _ _ _ => (tgK (K := K) (n := 2) (by rfl) (pgs_cons (pg_name (i := 3) scInit.nd rfl (Or.inl rfl)) (pgs_cons (pg_name (i := 4) scInit.nd rfl (Or.inl rfl)) pgs_nil)))) (fun _ _ _ _ _ => pts_nil) (fun _ _ _ _ _ => (pv 3)) (fun _ _ _ _ _ => (pv 4))) rfl)
      (pss_cons
      (ps_fld (pv 0) (pe_call G_find_courses hr_find_courses (by rfl) g_find_courses F_find_courses.kp b_find_courses .nil pass0 (pa_cons (fldK (K := K) (pv 0) rfl) pa_nil)) rfl)
      (pss_cons
      (ps_fld (pv 0) (pe_dc (own := [("low", 4)]) (g := gName 4) (tt := tYes) (by rfl) scInit.nd (pi_tup (pe_op op_catT (fldK (K := K) (pv 0) rfl) (pe_tup (pa_cons (pe_glob (v := .str "sea") (by rfl) C.SEA ⟨_, rfl⟩) pa_nil)))) (blkOk_by (own := [("low", 4)]) (N := scInit_N) (sc := defScope scInit_S) (by decide +kernel)) (fun _ _ _ _ _ => (pg_name (i := 4) scInit.nd rfl (Or.inl rfl))) (fun _ _ _ _ _ => pts_nil) (fun _ _ _ _ _ => (pv 4)) (fun _ _ _ _ _ => (pe_call G_directly_above hr_directly_above (by rfl) g_directly_above F_directly_above.kp b_directly_above .nil pass0 (pa_cons (fldK (K := K) (pv 0) rfl) (pa_cons (pv 4) pa_nil))))) rfl)
      (pss_cons
      (ps_fld (pv 0) (pe_dc (own := [("weir", 3)]) (g := gName 3) (tt := tYes) (by rfl) scInit.nd (pi_tup (fldK (K := K) (pv 0) rfl)) (blkOk_by (own := [("weir", 3)]) (N := scInit_N) (sc := defScope scInit_S) (by decide +kernel)) (fun _ _ _ _ _ => (pg_name (i := 3) scInit.nd rfl (Or.inl rfl))) (fun _ _ _ _ _ => pts_nil) (fun _ _ _ _ _ => (pv 3)) (fun _ _ _ _ _ => (pe_call G_find_upstream hr_find_upstream (by rfl) g_find_upstream F_find_upstream.kp b_find_upstream .nil pass0 (pa_cons (fldK (K := K) (pv 0) rfl) (pa_cons (pv 3) pa_nil))))) rfl)
      (pss_one
      (ps_fld (pv 0) (pe_call G_order_by_depth hr_order_by_depth (by rfl) g_order_by_depth F_order_by_depth.kp b_order_by_depth .nil pass0 (pa_cons (fldK (K := K) (pv 0) rfl) pa_nil)) rfl))))))))), ?_⟩
    have hins : ∀ {o : HO} {a : Addr} {H' : Hp} {fs : List (Str × V)}, H' p = some (.ins Cr dx fs) → H' a = some o → (∀ z1 z2 z3, o ≠ .ins z1 z2 z3) → a ≠ p := fun h1 h2 n => ne_of h2 h1 (n _ _ _)
    have tupsU : ∀ {H1 H2 : Hp} {fs : List (Str × V)} {c : Addr} {ns : List Str} {g : Str → List Str}, H1 p = some (.ins Cr dx fs) → Upto p H1 H2 → TupsAt H1 c ns g → TupsAt H2 c ns g := fun h1 u t => by
      obtain ⟨ta, q1, q2⟩ := t.ex
      exact ⟨ta, u _ _ q1 (hins h1 q1 (fun _ _ _ z => by cases z)), fun x hx => (q2 x hx).to fun v e _ _ _ n4 _ => u _ _ e (ne_of e h1 (n4 _ _ _))⟩
    have hRm := hG.most
    have hAl : (rowsOf AR).length = AR.length := List.length_map _
    have hnl : (namesOf AR).length = AR.length := nmlen AR
    have hnd := hG.nm.nd
    have rowat : ∀ {i : Nat} (hi : i < AR.length), (namesOf AR)[i]? = some AR[i].2.1 ∧ lowR (rowsOf AR) AR[i].2.1 = AR[i].2.2 := fun {i} hi => by
      refine ⟨?_, low_at hnd (List.mem_map.mpr ⟨_, List.getElem_mem hi, rfl⟩)⟩
      show (((AR.map (·.2)).map (·.1)))[i]? = _
      rw [List.getElem?_map, List.getElem?_map, List.getElem?_eq_getElem hi]
      rfl
    -- _need_rows(rows)
    refine ⟨_, rfl, l, AR, rfl, hR, hG, fun H1 s1 => ?_⟩
    have p1 := s1 _ _ hp
    have R1 := hR.same s1
    -- self.weirs
    refine ⟨_, rfl, l, rfl, ⟨_, .inl (.inl R1.lst)⟩, fun D hD => ?_⟩
    have sD : Same H1 (upd H1 D (.lst [])) := same_upd hD
    refine lc_list (K := K) (a := l) (xs := AR.map fun q => V.ref q.1) (fun i H2 => Same H1 H2 ∧ H2 D = some (.lst (((namesOf AR).take i).map V.str))) ⟨sD, by rw [upd_same, List.take_zero]; rfl⟩ (fun i H2 hi h => .inl (.inl (h.1 _ _ R1.lst))) ?_ ?_
    · rintro i x H2 hx ⟨s2, hl⟩
      have hi : i < AR.length := by
        have := (List.getElem?_eq_some_iff.mp hx).1
        rw [List.length_map] at this
        exact this
      have ex := row_at hx hi
      subst ex
      refine ⟨rfl, ?_⟩
      unfold tYes
      refine iteT ?_
      refine ⟨_, rfl, AR[i].1, _, _, _, rfl, rfl, .inl (.inl (s2 _ _ (R1.tup _ (List.getElem_mem hi)))), atI_nat (j := 0) rfl, _, hl, ?_, fun b o hb => ?_, ?_⟩
      · rw [List.length_map, List.length_take]
        exact small1000 (by omega)
      · rw [upd_ne (ne_of_none hb hD)]
        exact s2 b o hb
      · rw [upd_same, List.take_add_one, (rowat hi).1, List.map_append]
        rfl
    rintro H2 ⟨s2, hl⟩
    rw [List.take_of_length_le (by rw [hnl, List.length_map]; exact Nat.le_refl _)] at hl
    refine ⟨D, _, rfl, .inl ⟨.inl (.inl hl), fun tw nw => ?_⟩⟩
    have s3 : Same H (upd H2 tw (.tup ((namesOf AR).map V.str))) := (s1.trans s2).trans (same_upd nw)
    have w3 : (upd H2 tw (.tup ((namesOf AR).map V.str))) tw = some (.tup ((namesOf AR).map V.str)) := upd_same
    generalize upd H2 tw (.tup ((namesOf AR).map V.str)) = H3 at s3 w3
    have p3 := s3 _ _ hp
    refine ⟨_, rfl, p, Cr, dx, _, rfl, p3, T.cl, T.weirs, by show 0 < 1000; decide, ?_⟩
    have u4 : Upto p H (upd H3 p (.ins Cr dx (f1 (.ref tw)))) := (Upto.of s3).trans Upto.at_
    have w4 : (upd H3 p (.ins Cr dx (f1 (.ref tw)))) tw = some (.tup ((namesOf AR).map V.str)) := by
      rw [upd_ne (hins p3 w3 (fun _ _ _ z => by cases z))]
      exact w3
    have p4 : (upd H3 p (.ins Cr dx (f1 (.ref tw)))) p = some (.ins Cr dx (f1 (.ref tw))) := upd_same
    show tSeq _ _ _ _ (upd H3 p (.ins Cr dx (f1 (.ref tw))))
    generalize upd H3 p (.ins Cr dx (f1 (.ref tw))) = H4 at u4 w4 p4
    have R4 : RowsAt H4 l AR := ⟨u4 _ _ hR.lst (hins hp hR.lst (fun _ _ _ z => by cases z)), fun q hq => u4 _ _ (hR.tup q hq) (hins hp (hR.tup q hq) (fun _ _ _ z => by cases z))⟩
    -- self._rows
    refine ⟨_, rfl, l, _, rfl, .inl ⟨.inl (.inl R4.lst), fun tr nr => ?_⟩⟩
    have keepP : ∀ {Hk : Hp} {fs : List (Str × V)} {o X : HO} {a : Addr}, Hk p = some (.ins Cr dx fs) → Hk a = some o → (∀ z1 z2 z3, o ≠ .ins z1 z2 z3) → (upd Hk p X) a = some o := fun h1 h2 n => by
      rw [upd_ne (hins h1 h2 n)]
      exact h2
    have rowsU : ∀ {H1 H2 : Hp}, Upto p H H2 → RowsAt H2 l AR := fun u => ⟨u _ _ hR.lst (hins hp hR.lst (fun _ _ _ z => by cases z)), fun q hq => u _ _ (hR.tup q hq) (hins hp (hR.tup q hq) (fun _ _ _ z => by cases z))⟩
    have s5 : Same H4 (upd H4 tr (.tup (AR.map fun q => V.ref q.1))) := same_upd nr
    have r5 : (upd H4 tr (.tup (AR.map fun q => V.ref q.1))) tr = some (.tup (AR.map fun q => V.ref q.1)) := upd_same
    generalize upd H4 tr (.tup (AR.map fun q => V.ref q.1)) = H5 at s5 r5
    have p5 := s5 _ _ p4
    have w5 := s5 _ _ w4
    refine ⟨_, rfl, p, Cr, dx, _, rfl, p5, T.cl, T._rows, by have := l1 (.ref tw); omega, ?_⟩
    have u6 : Upto p H (upd H5 p (.ins Cr dx (f2 (.ref tw) (.ref tr)))) := (u4.trans (Upto.of s5)).trans Upto.at_
    have w6 : (upd H5 p (.ins Cr dx (f2 (.ref tw) (.ref tr)))) tw = _ := keepP p5 w5 (fun _ _ _ z => by cases z)
    have r6 : (upd H5 p (.ins Cr dx (f2 (.ref tw) (.ref tr)))) tr = _ := keepP p5 r5 (fun _ _ _ z => by cases z)
    have p6 : (upd H5 p (.ins Cr dx (f2 (.ref tw) (.ref tr)))) p = some (.ins Cr dx (f2 (.ref tw) (.ref tr))) := upd_same
    show tSeq _ _ _ _ (upd H5 p (.ins Cr dx (f2 (.ref tw) (.ref tr))))
    generalize upd H5 p (.ins Cr dx (f2 (.ref tw) (.ref tr))) = H6 at u6 w6 r6 p6
    have R6 : RowsAt H6 l AR := rowsU (H1 := H6) u6
    -- self._below
    refine ⟨_, rfl, l, rfl, ⟨_, .inl (.inl R6.lst)⟩, fun db ndb => ?_⟩
    refine dc_it (walk_list (K := K) (a := l) (xs := AR.map fun q => V.ref q.1)) (fun i H7 => Same H6 H7 ∧ H7 db = some (.dK (kmap (fun y => .str (lowR (rowsOf AR) y)) ((namesOf AR).take i)))) ⟨same_upd ndb, by rw [upd_same, List.take_zero]; rfl⟩ (fun i H7 hi h => .inl (.inl (h.1 _ _ R6.lst))) ?_ ?_
    · rintro i x H7 H7' hi ⟨s7, hb7⟩ ⟨e, hx⟩
      subst e
      rw [List.length_map] at hi
      have ex := row_at hx hi
      subst ex
      obtain ⟨hn, hlow⟩ := rowat hi
      refine ⟨AR[i].1, _, rfl, .inl (.inl (s7 _ _ (R6.tup _ (List.getElem_mem hi)))), rfl, _, _, rfl, _, _, rfl, rfl, rfl, ?_⟩
      unfold tYes
      refine iteT ?_
      refine ⟨_, rfl, _, rfl, _, Sum.inr AR[i].2.1, rfl, hb7, ?_, fun b o hb => ?_, ?_⟩
      · rw [kmap_len, List.length_take]
        exact small1000 (by omega)
      · rw [upd_ne (ne_of_none hb ndb)]
        exact s7 b o hb
      · have hput := kmap_put (f := fun y => V.str (lowR (rowsOf AR) y)) (nodup_take hnd hn)
        rw [hlow] at hput
        rw [upd_same, hput, List.take_add_one, hn]
        rfl
    rintro H7 ⟨s7, hb7⟩
    rw [List.take_of_length_le (by rw [hnl, List.length_map]; exact Nat.le_refl _)] at hb7
    have p7 := s7 _ _ p6
    have w7 := s7 _ _ w6
    have r7 := s7 _ _ r6
    refine ⟨_, rfl, p, Cr, dx, _, rfl, p7, T.cl, T._below, by have := l2 (.ref tw) (.ref tr); omega, ?_⟩
    have u8 : Upto p H (upd H7 p (.ins Cr dx (f3 (.ref tw) (.ref tr) (.ref db)))) := (u6.trans (Upto.of s7)).trans Upto.at_
    have w8 : (upd H7 p (.ins Cr dx (f3 (.ref tw) (.ref tr) (.ref db)))) tw = _ := keepP p7 w7 (fun _ _ _ z => by cases z)
    have r8 : (upd H7 p (.ins Cr dx (f3 (.ref tw) (.ref tr) (.ref db)))) tr = _ := keepP p7 r7 (fun _ _ _ z => by cases z)
    have b8 : (upd H7 p (.ins Cr dx (f3 (.ref tw) (.ref tr) (.ref db)))) db = _ := keepP p7 hb7 (fun _ _ _ z => by cases z)
    have p8 : (upd H7 p (.ins Cr dx (f3 (.ref tw) (.ref tr) (.ref db)))) p = some (.ins Cr dx (f3 (.ref tw) (.ref tr) (.ref db))) := upd_same
    show tSeq _ _ _ _ (upd H7 p (.ins Cr dx (f3 (.ref tw) (.ref tr) (.ref db))))
    generalize upd H7 p (.ins Cr dx (f3 (.ref tw) (.ref tr) (.ref db))) = H8 at u8 w8 r8 b8 p8
    -- self._courses
    refine ⟨_, rfl, p, Cr, dx, _, _, rfl, p8, T.cl, T._below, g3b _ _ _, db, rowsOf AR, rfl, b8, hG, fun H9 dc s9 ndc c9 => ?_⟩
    have p9 := s9 _ _ p8
    refine ⟨_, rfl, p, Cr, dx, _, rfl, p9, T.cl, T._courses, by have := l3 (.ref tw) (.ref tr) (.ref db); omega, ?_⟩
    have ua : Upto p H (upd H9 p (.ins Cr dx (f4 (.ref tw) (.ref tr) (.ref db) (.ref dc)))) := (u8.trans (Upto.of s9)).trans Upto.at_
    have wa : (upd H9 p (.ins Cr dx (f4 (.ref tw) (.ref tr) (.ref db) (.ref dc)))) tw = _ := keepP p9 (s9 _ _ w8) (fun _ _ _ z => by cases z)
    have ra : (upd H9 p (.ins Cr dx (f4 (.ref tw) (.ref tr) (.ref db) (.ref dc)))) tr = _ := keepP p9 (s9 _ _ r8) (fun _ _ _ z => by cases z)
    have ba : (upd H9 p (.ins Cr dx (f4 (.ref tw) (.ref tr) (.ref db) (.ref dc)))) db = _ := keepP p9 (s9 _ _ b8) (fun _ _ _ z => by cases z)
    have ca : TupsAt (upd H9 p (.ins Cr dx (f4 (.ref tw) (.ref tr) (.ref db) (.ref dc)))) dc (namesOf AR) (course (rowsOf AR)) := tupsU p9 Upto.at_ c9
    have pa : (upd H9 p (.ins Cr dx (f4 (.ref tw) (.ref tr) (.ref db) (.ref dc)))) p = some (.ins Cr dx (f4 (.ref tw) (.ref tr) (.ref db) (.ref dc))) := upd_same
    show tSeq _ _ _ _ (upd H9 p (.ins Cr dx (f4 (.ref tw) (.ref tr) (.ref db) (.ref dc))))
    generalize upd H9 p (.ins Cr dx (f4 (.ref tw) (.ref tr) (.ref db) (.ref dc))) = Ha at ua wa ra ba ca pa
    -- self._above
    refine ⟨_, rfl, p, Cr, dx, _, _, rfl, pa, T.cl, T.weirs, g4w _ _ _ _, by show 1 ≤ sizeLine; decide, fun q nq => ?_⟩
    have sq : Same Ha (upd Ha q (.tup [.str "sea"])) := same_upd nq
    have hq1 : (upd Ha q (.tup [.str "sea"])) q = some (.tup [.str "sea"]) := upd_same
    generalize upd Ha q (.tup [.str "sea"]) = Hb at sq hq1
    have hne : (namesOf AR).map V.str ≠ [] := fun z => by
      have z2 := congrArg List.length z
      rw [List.length_map, hnl] at z2
      have := hG.one
      have z3 : AR.length = 0 := z2
      omega
    refine ⟨tw, q, _, _, rfl, rfl, .inl (.inl (sq _ _ wa)), .inl (.inl hq1), hne, ?_, (fun z => nomatch z), fun _ tz nz => ?_⟩
    · rw [List.length_map, hnl]
      exact Nat.le_of_lt (small1000 (by show AR.length + 1 ≤ 1000; omega))
    have sz : Same Ha (upd Hb tz (.tup ((namesOf AR).map V.str ++ [.str "sea"]))) := sq.trans (same_upd nz)
    have hz1 : (upd Hb tz (.tup ((namesOf AR).map V.str ++ [.str "sea"]))) tz = some (.tup ((namesOf AR ++ [("sea" : Str)]).map V.str)) := by
      rw [upd_same, List.map_append]
      rfl
    have ezz : (namesOf AR).map V.str ++ [.str "sea"] = (namesOf AR ++ [("sea" : Str)]).map V.str := by
      rw [List.map_append]
      rfl
    generalize upd Hb tz (.tup ((namesOf AR).map V.str ++ [.str "sea"])) = Hc at sz hz1
    refine ⟨tz, rfl, ⟨_, .inl (.inl hz1)⟩, fun da nda => ?_⟩
    have nsea : (namesOf AR ++ [("sea" : Str)]).Nodup := nd_snoc hnd fun z => hG.nm.sea _ z rfl
    refine dc_it (walk_tup (K := K) (a := tz) (xs := (namesOf AR ++ [("sea" : Str)]).map V.str)) (fun i Hd => Same Hc Hd ∧ TupsAt Hd da ((namesOf AR ++ [("sea" : Str)]).take i) (aboveR (rowsOf AR))) ⟨same_upd nda, ⟨fun _ => 0, by rw [upd_same, List.take_zero]; rfl, fun x hx => by rw [List.take_zero] at hx; cases hx⟩⟩ (fun i Hd hi h => .inl (.inl (h.1 _ _ hz1))) ?_ ?_
    · rintro i x Hd Hd' hi ⟨sd, Td⟩ ⟨e, hx⟩
      subst e
      rw [List.length_map] at hi
      obtain ⟨y, hy, rfl⟩ : ∃ y, (namesOf AR ++ [("sea" : Str)])[i]? = some y ∧ x = .str y := by
        rw [List.getElem?_map, List.getElem?_eq_getElem hi] at hx
        exact ⟨_, List.getElem?_eq_getElem hi, (Option.some.inj hx).symm⟩
      refine ⟨rfl, ?_⟩
      unfold tYes
      refine iteT ?_
      refine ⟨_, rfl, _, rfl, p, Cr, dx, _, _, rfl, sd _ _ (sz _ _ pa), T.cl, T._below, g4b _ _ _ _, _, rfl, db, rowsOf AR, y, rfl, sd _ _ (sz _ _ ba), hG, fun He t se nt ht => ?_⟩
      obtain ⟨ta, q1, q2⟩ := (Td.same se).ex
      refine ⟨_, Sum.inr y, rfl, q1, ?_, fun b o hb => ?_, ?_⟩
      · rw [kmap_len, List.length_take, List.length_append, hnl]
        exact small1000 (by show min i (AR.length + 1) ≤ 1000; omega)
      · rw [upd_ne (ne_of_none hb nda)]
        exact se _ _ (sd b o hb)
      · have hm := tups_more q1 q2 (nodup_take nsea hy) ht
        rw [List.take_add_one, hy]
        exact hm
    rintro Hd ⟨sd, Td⟩
    rw [List.length_map, List.take_length] at Td
    have pd := sd _ _ (sz _ _ pa)
    refine ⟨_, rfl, p, Cr, dx, _, rfl, pd, T.cl, T._above, by have := l4 (.ref tw) (.ref tr) (.ref db) (.ref dc); omega, ?_⟩
    have scd : Same Ha Hd := sz.trans sd
    have ue : Upto p H (upd Hd p (.ins Cr dx (f5 (.ref tw) (.ref tr) (.ref db) (.ref dc) (.ref da)))) := (ua.trans (Upto.of scd)).trans Upto.at_
    have we : (upd Hd p (.ins Cr dx (f5 (.ref tw) (.ref tr) (.ref db) (.ref dc) (.ref da)))) tw = _ := keepP pd (scd _ _ wa) (fun _ _ _ z => by cases z)
    have re : (upd Hd p (.ins Cr dx (f5 (.ref tw) (.ref tr) (.ref db) (.ref dc) (.ref da)))) tr = _ := keepP pd (scd _ _ ra) (fun _ _ _ z => by cases z)
    have be : (upd Hd p (.ins Cr dx (f5 (.ref tw) (.ref tr) (.ref db) (.ref dc) (.ref da)))) db = _ := keepP pd (scd _ _ ba) (fun _ _ _ z => by cases z)
    have ce := tupsU (H2 := upd Hd p (.ins Cr dx (f5 (.ref tw) (.ref tr) (.ref db) (.ref dc) (.ref da)))) pd Upto.at_ (ca.same scd)
    have ae := tupsU (H2 := upd Hd p (.ins Cr dx (f5 (.ref tw) (.ref tr) (.ref db) (.ref dc) (.ref da)))) pd Upto.at_ Td
    have pe' : (upd Hd p (.ins Cr dx (f5 (.ref tw) (.ref tr) (.ref db) (.ref dc) (.ref da)))) p = some (.ins Cr dx (f5 (.ref tw) (.ref tr) (.ref db) (.ref dc) (.ref da))) := upd_same
    show tSeq _ _ _ _ (upd Hd p (.ins Cr dx (f5 (.ref tw) (.ref tr) (.ref db) (.ref dc) (.ref da))))
    generalize upd Hd p (.ins Cr dx (f5 (.ref tw) (.ref tr) (.ref db) (.ref dc) (.ref da))) = Hf at ue we re be ce ae pe'
    -- self._upstream
    refine ⟨_, rfl, p, Cr, dx, _, _, rfl, pe', T.cl, T.weirs, g5w _ _ _ _ _, tw, rfl, ⟨_, .inl (.inl we)⟩, fun du ndu => ?_⟩
    refine dc_it (walk_tup (K := K) (a := tw) (xs := (namesOf AR).map V.str)) (fun i Hg => Same Hf Hg ∧ TupsAt Hg du ((namesOf AR).take i) (upR (rowsOf AR))) ⟨same_upd ndu, ⟨fun _ => 0, by rw [upd_same, List.take_zero]; rfl, fun x hx => by rw [List.take_zero] at hx; cases hx⟩⟩ (fun i Hg hi h => .inl (.inl (h.1 _ _ we))) ?_ ?_
    · rintro i x Hg Hg' hi ⟨sg, Tg⟩ ⟨e, hx⟩
      subst e
      rw [List.length_map] at hi
      obtain ⟨y, hy, rfl⟩ : ∃ y, (namesOf AR)[i]? = some y ∧ x = .str y := by
        rw [List.getElem?_map, List.getElem?_eq_getElem hi] at hx
        exact ⟨_, List.getElem?_eq_getElem hi, (Option.some.inj hx).symm⟩
      refine ⟨rfl, ?_⟩
      unfold tYes
      refine iteT ?_
      refine ⟨_, rfl, _, rfl, p, Cr, dx, _, _, rfl, sg _ _ pe', T.cl, T._courses, g5c _ _ _ _ _, _, rfl, dc, rowsOf AR, y, rfl, ce.same sg, hG, fun He t se nt ht => ?_⟩
      obtain ⟨ta, q1, q2⟩ := (Tg.same se).ex
      refine ⟨_, Sum.inr y, rfl, q1, ?_, fun b o hb => ?_, ?_⟩
      · rw [kmap_len, List.length_take, hnl]
        exact small1000 (by omega)
      · rw [upd_ne (ne_of_none hb ndu)]
        exact se _ _ (sg b o hb)
      · have hm := tups_more q1 q2 (nodup_take hnd hy) ht
        rw [List.take_add_one, hy]
        exact hm
    rintro Hg ⟨sg, Tg⟩
    rw [List.length_map, List.take_length] at Tg
    have pg := sg _ _ pe'
    refine ⟨_, rfl, p, Cr, dx, _, rfl, pg, T.cl, T._upstream, by have := l5 (.ref tw) (.ref tr) (.ref db) (.ref dc) (.ref da); omega, ?_⟩
    have uh : Upto p H (upd Hg p (.ins Cr dx (f6 (.ref tw) (.ref tr) (.ref db) (.ref dc) (.ref da) (.ref du)))) := (ue.trans (Upto.of sg)).trans Upto.at_
    have wh : (upd Hg p (.ins Cr dx (f6 (.ref tw) (.ref tr) (.ref db) (.ref dc) (.ref da) (.ref du)))) tw = _ := keepP pg (sg _ _ we) (fun _ _ _ z => by cases z)
    have rh : (upd Hg p (.ins Cr dx (f6 (.ref tw) (.ref tr) (.ref db) (.ref dc) (.ref da) (.ref du)))) tr = _ := keepP pg (sg _ _ re) (fun _ _ _ z => by cases z)
    have bh : (upd Hg p (.ins Cr dx (f6 (.ref tw) (.ref tr) (.ref db) (.ref dc) (.ref da) (.ref du)))) db = _ := keepP pg (sg _ _ be) (fun _ _ _ z => by cases z)
    have ch := tupsU (H2 := upd Hg p (.ins Cr dx (f6 (.ref tw) (.ref tr) (.ref db) (.ref dc) (.ref da) (.ref du)))) pg Upto.at_ (ce.same sg)
    have ah := tupsU (H2 := upd Hg p (.ins Cr dx (f6 (.ref tw) (.ref tr) (.ref db) (.ref dc) (.ref da) (.ref du)))) pg Upto.at_ (ae.same sg)
    have uph := tupsU (H2 := upd Hg p (.ins Cr dx (f6 (.ref tw) (.ref tr) (.ref db) (.ref dc) (.ref da) (.ref du)))) pg Upto.at_ Tg
    have ph : (upd Hg p (.ins Cr dx (f6 (.ref tw) (.ref tr) (.ref db) (.ref dc) (.ref da) (.ref du)))) p = some (.ins Cr dx (f6 (.ref tw) (.ref tr) (.ref db) (.ref dc) (.ref da) (.ref du))) := upd_same
    refine ⟨_, rfl, p, Cr, dx, _, _, rfl, ph, T.cl, T._courses, g6c _ _ _ _ _ _, dc, rowsOf AR, rfl, ch, hG, fun Hi t si nt hti => ?_⟩
    have pi := si _ _ ph
    refine ⟨_, rfl, p, Cr, dx, _, rfl, pi, T.cl, T._deepest_first, by have := l6 (.ref tw) (.ref tr) (.ref db) (.ref dc) (.ref da) (.ref du); omega, ?_⟩
    have R0 : RowsAt Hi l AR := rowsU (H1 := Hi) (uh.trans (Upto.of si))
    refine k _ ((uh.trans (Upto.of si)).trans Upto.at_) ⟨dx, tw, tr, db, dc, da, du, .ref t, upd_same, keepP pi (si _ _ wh) (fun _ _ _ z => by cases z), keepP pi (si _ _ rh) (fun _ _ _ z => by cases z), fun q hq => keepP pi (R0.tup q hq) (fun _ _ _ z => by cases z), keepP pi (si _ _ bh) (fun _ _ _ z => by cases z),
      tupsU pi Upto.at_ (ch.same si), tupsU pi Upto.at_ (ah.same si), tupsU pi Upto.at_ (uph.same si), ⟨t, rfl, keepP pi hti (fun _ _ _ z => by cases z)⟩⟩
end
end K0
end
section
set_option Elab.async false
set_option linter.all false
set_option maxRecDepth 100000
namespace L2
open PySem PySem.Spec PyProof.Rows
/-! ### a def whose promise may speak of how large the heap is at its call -/
structure FnOkN (P : Program) (w : World) (K : PySem.W.Frag) (mg : Str → Option Value) (base : Heap) (CX : CXT) (k : Nat) (f : Addr) (fd : FuncData) (ps : List Str) (sp : Nat → Sp) : Prop where
  len : ∀ n vs H Q E, sp n vs H Q E → vs.length = ps.length
  run : ∀ (A : Around) (outer : List Env) (s : Shared) (H : Hp) (args : Args) (us : List Value) (vs : List V) (Q : VK) (E : XK), Room k A → Env0 P w K mg base A outer s H → BindsTo s fd args (ps.zip us) → Vals vs us → sp s.heap.objs.size vs H Q E →
    codeAny (model P w) A (.call (.ref f) args) (CR CX outer P w H s Q E) s
theorem k0_fn_ofN {CX : CXT} {P : Program} {w : World} {K : PySem.W.Frag} {mg : Str → Option Value} {base : Heap} {k : Nat} {f : Addr} {name qual : Str} {params : Arguments} {body : List Stmt} {scope : Scope} {dV kV doc pm cdv ct oc : Value} {an od : Option Addr}
    {osl : Array (Option Value)} {N ps : List Str} {sp : Nat → Sp} (lk : K.lookup f = some ⟨oc, od, .func (PySem.W.fnOf name qual params body scope dV kV doc pm an cdv ct), osl⟩) (hcd : PySem.W.codeIn K cdv qual = true) (S : FnScope N ps scope)
    (len : ∀ n vs H Q E, sp n vs H Q E → vs.length = ps.length)
    (hbody : ∀ (A : Around) (outer : List Env) (s : Shared) (H : Hp) (vs : List V) (Q : VK) (E : XK), Room k (A.deeper (envOfC qual scope s.heap.objs.size f cdv)) → sp s.heap.objs.size vs H Q E →
      ∃ t, PSs (cxOf CX P w K mg base N qual scope f cdv A outer s H E) body t ∧ t { nx := fun _ H' => Q .non H', rt := Q } (start N vs) H) :
    FnOkN P w K mg base CX (k + 1) f (PySem.W.fnOf name qual params body scope dV kV doc pm an cdv ct) ps sp := by
  refine ⟨len, fun A outer s H args us vs Q E hr e0 hb r hsp => ?_⟩
  have hl := len _ _ _ _ _ hsp
  have KX : K.In s.heap := e0.mod.kin.keeps fun b o e => (e0.bs b o e).1
  have lim : s.heap.NoLimit := e0.mod.nolimit.keeps fun b o e => (e0.bs b o e).1
  have hkind : ∀ y ∈ ps.zip us, scope.names.lookup y.1 = some .local ∨ (scope.names.lookup y.1 = some .cell ∧ ((cellsFrom (s.heap.objs.size + 1) scope.names []).lookup y.1).isSome = true) := fun ⟨n, v⟩ hy => by
    rcases S.par n (List.of_mem_zip hy).1 with q | q
    · exact .inl q
    · exact .inr ⟨q, PySem.W.cellsFrom_some _ _ _ (.inl q)⟩
  refine codeAny_call_function hr.depth (KX _ _ lk) rfl S.co S.gen rfl (PySem.W.codeRec_of KX hcd) (hb _ _ _ _ ?_)
  refine wpAny_newFunctionEnv_cells S.kind hkind fun env he s1 x => ?_
  subst he
  refine ⟨lim.keeps x.toInCall.keep, codeAny_func ?_⟩
  obtain ⟨t, ht, hq⟩ := hbody A outer s H vs Q E (hr.deeper _) hsp
  have I : Inv (cxOf CX P w K mg base N qual scope f cdv A outer s H E) [] (start N vs) H s1 := inv_start S hr.hd e0 hl r x
  refine wpAny_mono (ht.run [] s1 (start N vs) H _ I hq) (fun fl s' hs => ?_) fun e s' hs => hs
  have fin : ∀ {σ' : St} {H' : Hp} {v : V} {u : Value}, Inv (cxOf CX P w K mg base N qual scope f cdv A outer s H E) [] σ' H' s' → RelV v u → Q v H' → CE outer P w H s Q u s' :=
    fun {σ' H' v u} J rv q => ⟨v, H', J.os, J.bare, J.base, J.hok, rv, q⟩
  cases fl with
  | ret u =>
    obtain ⟨v, σ', H', J, rv, q⟩ := hs
    exact fin J rv q
  | next =>
    obtain ⟨σ', H', J, q⟩ := hs
    exact fin (v := V.non) (u := Value.none) J rfl q
  | brk =>
    obtain ⟨_, _, _, q⟩ := hs
    exact False.elim q
  | cont =>
    obtain ⟨_, _, _, q⟩ := hs
    exact False.elim q
/-! ### iter of a tuple -/
def k0_itObj (t : Addr) : Obj := { cls := .type "tuple_iterator", data := .fields #[.ref t, .int 0 0] }
def K0It (t it : Addr) : HO := .ext fun h => h.get? it = some (k0_itObj t)
theorem k0_it_ok {P : Program} {w : World} {H : Hp} {h : Heap} {t it : Addr} (e : h.get? it = some (k0_itObj t)) : ObjOk P w H h it (K0It t it) := ⟨e, ⟨_, e⟩, fun h1 h2 q k => k _ q⟩
theorem k0_call_iter {prog : Program} {w : World} {A : Around} {E : Value → Shared → Prop} {s : Shared} {t : Addr} {items : Array Value} {Q : Value → Shared → Prop} (ht : s.heap.IsTuple t items) (h : Q (.ref s.heap.objs.size) { s with heap := s.heap.push (k0_itObj t) }) :
    wpAny (model prog w) A (call (.builtin "iter") [.ref t]) Q E s := by
  refine Calls.call_function_entry (by decide +kernel) (by decide +kernel) PySem.W.kdk_entry_iter (PySem.W.kdk_args_iter _) ?_
  unfold Builtin.«iter»
  refine wpAny_bind (m := someArgs "iter" 1 2 _) (wpAny_of_eq (a := [Value.ref t]) (by first | rfl | kernel_rfl!) ?_)
  show wpAny _ _ (pyIter (.ref t) >>= _) _ _ _
  refine wpAny_bind (wpAny_pyIter_tuple ht ?_)
  exact wpAny_pure ⟨_, rfl, h⟩
def k0_rIter (K : PySem.W.Frag) (n : Nat) : List V → Hp → VK → Prop := fun xs H Q => ∃ (t : Addr) (zs : List V), xs = [.ref t] ∧ SqT K H t zs ∧ ∀ it, H it = Option.none → n ≤ it → Q (.ref it) (upd H it (K0It t it))
section
variable {X : Cx}
theorem k0_cr_iter : CallR X (.builtin "iter") (k0_rIter X.K X.s_0.heap.objs.size) := by
  intro pins s σ H xs us Q I r h
  obtain ⟨t, zs, rfl, hq, q⟩ := h
  obtain ⟨u, rfl, ru⟩ := vals1 r
  cases ru
  obtain ⟨its, rv, pl, hz⟩ := I.tuple hq
  refine k0_call_iter pl ?_
  exact ⟨.ref s.heap.objs.size, _, I.laid (t' := s.toks) (fun b u e => Heap.get?_push_of_some _ e) (Nat.le_refl _) (k0_it_ok (Heap.get?_push_size _ rfl)), rfl, q _ (I.hok.fresh (Nat.le_refl _)) I.sz⟩
end
/-! ### for x in o, o of a class of the text with an __iter__ that gives a tuple's iterator -/
/-- what such an __iter__ promises -/
def spIterT (K : PySem.W.Frag) (G : Hp → Addr → Addr → Prop) (n : Nat) : Sp := fun vs H Q _ => ∃ (p t : Addr) (zs : List V), vs = [.ref p] ∧ G H p t ∧ SqT K H t zs ∧ ∀ it, H it = Option.none → n ≤ it → Q (.ref it) (upd H it (K0It t it))
def iOwn (K : PySem.W.Frag) (C : Addr) (G : Hp → Addr → Addr → Prop) (te : TE) : TI := fun σ H R => te σ H fun x H1 => ∃ (p dx t : Addr) (fs : List (Str × V)) (zs : List V), x = .ref p ∧ H1 p = some (.ins C dx fs) ∧ G H1 p t ∧ SqT K H1 t zs ∧ R (Itt K t) H1
theorem pi_own {X : Cx} {k : Nat} {C f : Addr} {fd : FuncData} {G : Hp → Addr → Addr → Prop} {tg e : Expr} {te : TE} (F : FnOkN X.prog X.w X.K X.mg X.base CX0 k f fd ["self"] (spIterT X.K G)) (hr : Room k X.A)
    (hs : PySem.W.findIn X.K (.ref C) "__iter__" = some (some (.ref f))) (hf : PySem.W.isFn X.K (.ref f) = true) (hb : Binds X.K fd ["self"] []) (he : PE X e te) : PI X tg e (iOwn X.K C G te) := by
  refine ⟨fun pins s σ H R I h => ?_⟩
  refine thn (he.run pins s σ H _ I h) fun u s1 ⟨x, H1, I1, rx, p, dx, t, fs, zs, ex, hp, hG, ht, q⟩ => ?_
  subst ex
  cases rx
  obtain ⟨mA, J, _⟩ := ins_get I1.hok hp
  obtain ⟨od, J, _⟩ := J.look
  obtain ⟨m, hF⟩ := I1.fr
  refine PySem.W.owit_iter hF I1.ok.mod.kin J hs hf ?_
  have hsp : spIterT X.K G s1.heap.objs.size [.ref p] H1 (fun v H' => ∃ it, v = .ref it ∧ H1 it = Option.none ∧ s1.heap.objs.size ≤ it ∧ H' = upd H1 it (K0It t it)) E0 := ⟨p, t, zs, rfl, hG, ht, fun it n1 n2 => ⟨it, rfl, n1, n2, rfl⟩⟩
  have r2 : Vals [V.ref p] [Value.ref p] := .cons rfl .nil
  refine wpAny_call (codeAny_mono (F.run X.A X.stack s1 H1 ⟨[.ref p], []⟩ [.ref p] [.ref p] _ E0 hr I1.env0 (by
    have := hb s1 [.ref p] I1.kIn (by rfl)
    simpa using this) r2 hsp) fun r s' hq => ?_)
  cases r with
  | error e => exact hq.elim
  | ok fl =>
    cases fl with
    | ret w =>
      obtain ⟨z, H', I', rz, it, ez, n1, n2, eH⟩ := I1.after hq
      subst ez
      cases rz
      subst eH
      have hit : (upd H1 it (K0It t it)) it = some (K0It t it) := upd_same
      have hobj : s'.heap.get? it = some (k0_itObj t) := (I'.hok it _ hit).1
      have st : s'.heap.IsTupleIter it t 0 := ⟨_, hobj, rfl, rfl⟩
      show PySem.W.OwitIt _ _ _ _ (.ref it) s'
      unfold PySem.W.OwitIt
      refine wpAny_specialOf (T := "tuple_iterator") ⟨_, hobj, rfl⟩ PySem.F.slot_tuple_iterator_next.lookup ?_
      have hit' := hit
      unfold K0It at hit'
      have I2 := ItX.inv_drop I' hit'
      rw [ItX.dropH_upd n1] at I2
      have fp := ItX.inv_fp I' hit (Nat.le_trans I1.sz n2)
      rw [ItX.dropH_upd n1] at fp
      refine ⟨it, [it], _, _, H1, rfl, I2, turn_tuple t it, st, fun b hb => ?_, q⟩
      have e : b = it := by simpa using hb
      rw [e]
      exact fp
    | next => exact hq.elim
    | brk => exact hq.elim
    | cont => exact hq.elim
/-! ### len(o), x in o, x not in o by the text's own methods -/
section
variable {X : Cx} {k : Nat} {C f : Addr} {fd : FuncData}
/-- what such a __len__ promises -/
def spLenG (G : Hp → Addr → Nat → Prop) : Sp := fun vs H Q _ => ∃ (p : Addr) (n : Nat), vs = [.ref p] ∧ G H p n ∧ n ≤ 100000 ∧ Q (.int (n : Int)) H
theorem k0_len_own {G : Hp → Addr → Nat → Prop} (F : FnOk X.prog X.w X.K X.mg X.base CX0 k f fd ["self"] (spLenG G)) (hr : Room (k + 1) X.A)
    (hs : PySem.W.findIn X.K (.ref C) "__len__" = some (some (.ref f))) (hf : PySem.W.isFn X.K (.ref f) = true) (hb : Binds X.K fd ["self"] []) :
    CallR X (.builtin "len") (fun xs H Q => ∃ (p dx : Addr) (fs : List (Str × V)) (n : Nat), xs = [.ref p] ∧ H p = some (.ins C dx fs) ∧ G H p n ∧ n ≤ 100000 ∧ Q (.int (n : Int)) H) := by
  intro pins s σ H xs us Q I r h
  obtain ⟨p, dx, fs, n, rfl, hp, hG, hn, q⟩ := h
  obtain ⟨u, rfl, ru⟩ := vals1 r
  cases ru
  obtain ⟨mA, J, _⟩ := ins_get I.hok hp
  obtain ⟨od, J, _⟩ := J.look
  obtain ⟨m, hF⟩ := I.fr
  refine PySem.W.len_K hF I.ok.mod.kin J hs hf ?_
  have hsp : spLenG G [.ref p] H (fun v H' => v = .int (n : Int) ∧ H' = H) E0 := ⟨p, n, rfl, hG, hn, rfl, rfl⟩
  have r2 : Vals [V.ref p] [Value.ref p] := .cons rfl .nil
  have e0 : Env0 X.prog X.w X.K X.mg X.base X.A.in1 X.stack s H := I.env0.in1
  refine wpAny_call (codeAny_mono (F.run X.A.in1 X.stack s H ⟨[.ref p], []⟩ [.ref p] [.ref p] _ E0 (hr.in1) e0 (by
    have := hb s [.ref p] I.kIn (by rfl)
    simpa using this) r2 hsp) fun r s' hq => ?_)
  cases r with
  | error e => exact hq.elim
  | ok fl =>
    cases fl with
    | ret w =>
      obtain ⟨z, H', I', rz, ez, eH⟩ := I.after hq
      subst ez
      subst eH
      obtain ⟨t, rfl⟩ := rz
      exact ⟨⟨by omega, by omega⟩, .int (n : Int), H', I'.tok _, ⟨_, rfl⟩, q⟩
    | next => exact hq.elim
    | brk => exact hq.elim
    | cont => exact hq.elim
/-- what such a __contains__ promises: true or false -/
def spHas (G : Hp → Addr → V → Bool → Prop) : Sp := fun vs H Q _ => ∃ (p : Addr) (x : V) (b : Bool), vs = [.ref p, x] ∧ G H p x b ∧ Q (.bl b) H
def rHas (C : Addr) (neg : Bool) (G : Hp → Addr → V → Bool → Prop) : R2 := fun x y H Q => ∃ (p dx : Addr) (fs : List (Str × V)) (b : Bool), y = .ref p ∧ H p = some (.ins C dx fs) ∧ G H p x b ∧ Q (.bl (if neg then !b else b)) H
theorem k0_has_run {G : Hp → Addr → V → Bool → Prop} (F : FnOk X.prog X.w X.K X.mg X.base CX0 k f fd ["self", "x"] (spHas G)) (hr : Room k X.A) (hb : Binds X.K fd ["self", "x"] []) {pins : List (Addr × Obj)} {σ : St} {H : Hp} {s : Shared} (I : Inv X pins σ H s) {p : Addr} {x : V} {u : Value} {b : Bool} (rx : RelV x u) (hG : G H p x b)
    {R : Value → Shared → Prop} (h : ∀ s', Inv X pins σ H s' → R (.bool b) s') : wpAny (model X.prog X.w) X.A (call (.ref f) [.ref p, u]) R X.xe s := by
  have hsp : spHas G [.ref p, x] H (fun v H' => v = .bl b ∧ H' = H) E0 := ⟨p, x, b, rfl, hG, rfl, rfl⟩
  have r2 : Vals [V.ref p, x] [Value.ref p, u] := .cons rfl (.cons rx .nil)
  refine wpAny_call (codeAny_mono (F.run X.A X.stack s H ⟨[.ref p, u], []⟩ [.ref p, u] [.ref p, x] _ E0 hr I.env0 (by
    have := hb s [.ref p, u] I.kIn (by rfl)
    simpa using this) r2 hsp) fun r s' hq => ?_)
  cases r with
  | error e => exact hq.elim
  | ok fl =>
    cases fl with
    | ret w =>
      obtain ⟨z, H', I', rz, ez, eH⟩ := I.after hq
      subst ez
      subst eH
      cases rz
      exact h s' I'
    | next => exact hq.elim
    | brk => exact hq.elim
    | cont => exact hq.elim
theorem k0_in_own {K : PySem.W.Frag} {G : Hp → Addr → V → Bool → Prop} (F : FnOk X.prog X.w X.K X.mg X.base CX0 k f fd ["self", "x"] (spHas G)) (hr : Room k X.A)
    (hs : PySem.W.findIn X.K (.ref C) "__contains__" = some (some (.ref f))) (hf : PySem.W.isFn X.K (.ref f) = true) (hb : Binds X.K fd ["self", "x"] []) : OpR X (compareOp .In) (rHas C false G) := by
  intro pins s σ H x y v u Q I rx ry h
  obtain ⟨p, dx, fs, b, rfl, hp, hG, q⟩ := h
  cases ry
  obtain ⟨mA, J, _⟩ := ins_get I.hok hp
  obtain ⟨od, J, _⟩ := J.look
  obtain ⟨m, hF⟩ := I.fr
  refine PySem.W.in_K hF I.ok.mod.kin J hs hf (k0_has_run F hr hb I rx hG fun s' I' => ?_)
  exact wpAny_truthy_bool ⟨.bl b, H, I', rfl, q⟩
theorem k0_notIn_own {K : PySem.W.Frag} {G : Hp → Addr → V → Bool → Prop} (F : FnOk X.prog X.w X.K X.mg X.base CX0 k f fd ["self", "x"] (spHas G)) (hr : Room k X.A)
    (hs : PySem.W.findIn X.K (.ref C) "__contains__" = some (some (.ref f))) (hf : PySem.W.isFn X.K (.ref f) = true) (hb : Binds X.K fd ["self", "x"] []) : OpR X (compareOp .NotIn) (rHas C true G) := by
  intro pins s σ H x y v u Q I rx ry h
  obtain ⟨p, dx, fs, b, rfl, hp, hG, q⟩ := h
  cases ry
  obtain ⟨mA, J, _⟩ := ins_get I.hok hp
  obtain ⟨od, J, _⟩ := J.look
  obtain ⟨m, hF⟩ := I.fr
  refine PySem.W.notIn_K hF I.ok.mod.kin J hs hf (k0_has_run F hr hb I rx hG fun s' I' => ?_)
  exact wpAny_truthy_bool ⟨.bl (!b), H, I', rfl, q⟩
end
end L2
end
section
set_option linter.all false
namespace RM
variable {α : Type} [DecidableEq α]
/-! ### the first group in which nothing is met -/
def put (m : α → α → Bool) (n : α) : List (List α) → List (List α)
  | [] => [[n]]
  | g :: gs => if g.any (m n) = true then g :: put m n gs else (g ++ [n]) :: gs
def greedy (m : α → α → Bool) (l : List α) : List (List α) := l.foldl (fun gs n => put m n gs) []
theorem greedy_snoc (m : α → α → Bool) (l : List α) (n : α) : greedy m (l ++ [n]) = put m n (greedy m l) := by
  unfold greedy
  rw [List.foldl_append]
  rfl
theorem put_flat (m : α → α → Bool) (n : α) : ∀ gs : List (List α), (put m n gs).flatten.Perm (n :: gs.flatten)
  | [] => by simp [put]
  | g :: gs => by
    unfold put
    split
    · rw [List.flatten_cons, List.flatten_cons]
      exact ((put_flat m n gs).append_left g).trans List.perm_middle
    · rw [List.flatten_cons, List.flatten_cons, List.append_assoc]
      exact List.perm_middle
theorem snoc_rec {P : List α → Prop} (h0 : P []) (h1 : ∀ l n, P l → P (l ++ [n])) (l : List α) : P l := by
  have key : ∀ k, ∀ l : List α, l.length = k → P l := by
    intro k
    induction k with
    | zero =>
      intro l h
      rw [List.length_eq_zero_iff.mp h]
      exact h0
    | succ k ih =>
      intro l h
      rcases List.eq_nil_or_concat l with e | ⟨t, n, e⟩
      · rw [e] at h
        cases h
      · rw [List.concat_eq_append] at e
        subst e
        refine h1 t n (ih t ?_)
        rw [List.length_append] at h
        simpa using h
  exact key _ l rfl
theorem greedy_flat (m : α → α → Bool) (l : List α) : (greedy m l).flatten.Perm l := by
  refine snoc_rec (P := fun l => (greedy m l).flatten.Perm l) (List.Perm.refl _) (fun l n ih => ?_) l
  rw [greedy_snoc]
  exact (put_flat m n _).trans ((ih.cons n).trans (List.perm_append_comm (l₁ := [n])))
theorem put_mem {m : α → α → Bool} {n : α} {h : List α} : ∀ {gs : List (List α)}, h ∈ put m n gs → h ∈ gs ∨ h = [n] ∨ ∃ g ∈ gs, h = g ++ [n] ∧ g.any (m n) = false
  | [], hh => .inr (.inl (by simpa [put] using hh))
  | g :: gs, hh => by
    unfold put at hh
    split at hh
    · rcases List.mem_cons.mp hh with e | hh
      · exact .inl (e ▸ List.mem_cons_self)
      · rcases put_mem hh with e | e | ⟨g', h1, h2⟩
        · exact .inl (List.mem_cons_of_mem _ e)
        · exact .inr (.inl e)
        · exact .inr (.inr ⟨g', List.mem_cons_of_mem _ h1, h2⟩)
    · rename_i hn
      rcases List.mem_cons.mp hh with e | hh
      · exact .inr (.inr ⟨g, List.mem_cons_self, e, by simpa using hn⟩)
      · exact .inl (List.mem_cons_of_mem _ hh)
/-- no two of a group meet, no group is empty -/
theorem greedy_grp (m : α → α → Bool) (l : List α) : ∀ g ∈ greedy m l, g ≠ [] ∧ g.Pairwise fun a b => m b a = false := by
  refine snoc_rec (P := fun l => ∀ g ∈ greedy m l, g ≠ [] ∧ g.Pairwise fun a b => m b a = false) (fun g hg => by cases hg) (fun l n ih g hg => ?_) l
  rw [greedy_snoc] at hg
  rcases put_mem hg with e | e | ⟨g', h1, h2, h3⟩
  · exact ih g e
  · rw [e]
    exact ⟨by simp, List.pairwise_singleton _ _⟩
  · rw [h2]
    refine ⟨by simp, List.pairwise_append.mpr ⟨(ih g' h1).2, List.pairwise_singleton _ _, fun a ha b hb => ?_⟩⟩
    rw [List.mem_singleton.mp hb]
    have := List.any_eq_false.mp h3 a ha
    simpa using this
theorem put_len (m : α → α → Bool) (n : α) : ∀ gs : List (List α), (put m n gs).length = gs.length ∨ ((∀ g ∈ gs, g.any (m n) = true) ∧ (put m n gs).length = gs.length + 1)
  | [] => .inr ⟨(fun _ h => by cases h), rfl⟩
  | g :: gs => by
    unfold put
    split
    · rename_i hg
      rcases put_len m n gs with e | ⟨h, e⟩
      · exact .inl (by rw [List.length_cons, e, List.length_cons])
      · refine .inr ⟨fun g' hg' => ?_, by rw [List.length_cons, e, List.length_cons]⟩
        rcases List.mem_cons.mp hg' with q | q
        · rw [q]
          exact hg
        · exact h g' q
    · exact .inl rfl
theorem any_count {p : α → Bool} : ∀ {gs : List (List α)}, (∀ g ∈ gs, g.any p = true) → gs.length ≤ gs.flatten.countP p
  | [], _ => Nat.zero_le _
  | g :: gs, h => by
    have ih := any_count fun g' hg' => h g' (List.mem_cons_of_mem _ hg')
    have h1 := h g List.mem_cons_self
    rw [List.flatten_cons, List.countP_append, List.length_cons]
    have : 0 < g.countP p := by
      rw [List.countP_pos_iff]
      obtain ⟨x, hx, px⟩ := List.any_eq_true.mp h1
      exact ⟨x, hx, px⟩
    omega
/-- as few groups as the most that meet -/
theorem greedy_len {m : α → α → Bool} {K : Nat} (l : List α) (h : ∀ d n r, l = d ++ n :: r → d.countP (m n) + 1 ≤ K) : (greedy m l).length ≤ K := by
  refine snoc_rec (P := fun l => (∀ d n r, l = d ++ n :: r → d.countP (m n) + 1 ≤ K) → (greedy m l).length ≤ K) (fun _ => Nat.zero_le _) (fun l n ih h => ?_) l h
  have h1 := ih fun d n' r e => h d n' (r ++ [n]) (by rw [e, List.append_assoc]; rfl)
  rw [greedy_snoc]
  rcases put_len m n (greedy m l) with e | ⟨hall, e⟩
  · rw [e]
    exact h1
  · rw [e]
    have h2 := any_count hall
    rw [(greedy_flat m l).countP_eq] at h2
    have h3 := h l n [] rfl
    omega
theorem one_of {l : List α} (hn : l.Nodup) (h : ∀ a ∈ l, ∀ b ∈ l, a = b) : l.length ≤ 1 := by
  match l, hn, h with
  | [], _, _ => exact Nat.zero_le _
  | [a], _, _ => exact Nat.le_refl _
  | a :: b :: r, hn, h =>
    have e := h a List.mem_cons_self b (List.mem_cons_of_mem _ List.mem_cons_self)
    obtain ⟨h1, _⟩ := List.nodup_cons.mp hn
    exact absurd (e ▸ List.mem_cons_self) h1
/-- those that all meet stand in groups of their own -/
theorem many_groups {S : List α} : ∀ {gs : List (List α)}, S.Nodup → (∀ s ∈ S, s ∈ gs.flatten) → (∀ g ∈ gs, ∀ a ∈ g, ∀ b ∈ g, a ∈ S → b ∈ S → a = b) → S.length ≤ gs.length := by
  intro gs
  induction gs generalizing S with
  | nil =>
    intro _ h _
    match S, h with
    | [], _ => exact Nat.le_refl _
    | s :: r, h => cases h s List.mem_cons_self
  | cons g gs ih =>
    intro hn hs hg
    have e := List.length_eq_countP_add_countP (fun s => decide (s ∈ g)) (l := S)
    rw [List.countP_eq_length_filter, List.countP_eq_length_filter] at e
    have h1 : (S.filter fun s => decide (s ∈ g)).length ≤ 1 := by
      refine one_of (hn.filter _) fun a ha b hb => ?_
      obtain ⟨a1, a2⟩ := List.mem_filter.mp ha
      obtain ⟨b1, b2⟩ := List.mem_filter.mp hb
      exact hg g List.mem_cons_self a (of_decide_eq_true a2) b (of_decide_eq_true b2) a1 b1
    have h2 := ih (S := S.filter fun s => decide ¬decide (s ∈ g) = true) (hn.filter _) (fun s h => by
      obtain ⟨s1, s2⟩ := List.mem_filter.mp h
      have s3 : s ∉ g := by simpa using s2
      have := hs s s1
      rw [List.flatten_cons] at this
      exact (List.mem_append.mp this).resolve_left s3) (fun g' hg' a ha b hb sa sb => hg g' (List.mem_cons_of_mem _ hg') a ha b hb (List.mem_filter.mp sa).1 (List.mem_filter.mp sb).1)
    rw [List.length_cons]
    omega
/-! ### those that do not meet -/
def free (m : α → α → Bool) (l : List α) : List α := l.foldl (fun t n => if t.any (m n) = true then t else t ++ [n]) []
theorem free_snoc (m : α → α → Bool) (l : List α) (n : α) : free m (l ++ [n]) = if (free m l).any (m n) = true then free m l else free m l ++ [n] := by
  unfold free
  rw [List.foldl_append]
  rfl
theorem free_sub (m : α → α → Bool) (l : List α) : (free m l).Sublist l := by
  refine snoc_rec (P := fun l => (free m l).Sublist l) (List.Sublist.refl _) (fun l n ih => ?_) l
  rw [free_snoc]
  split
  · exact ih.trans (List.sublist_append_left l [n])
  · exact ih.append (List.Sublist.refl [n])
theorem free_pw (m : α → α → Bool) (l : List α) : (free m l).Pairwise fun a b => m b a = false := by
  refine snoc_rec (P := fun l => (free m l).Pairwise fun a b => m b a = false) List.Pairwise.nil (fun l n ih => ?_) l
  rw [free_snoc]
  split
  · exact ih
  · rename_i h
    refine List.pairwise_append.mpr ⟨ih, List.pairwise_singleton _ _, fun a ha b hb => ?_⟩
    rw [List.mem_singleton.mp hb]
    have h3 : (free m l).any (m n) = false := by simpa using h
    have := List.any_eq_false.mp h3 a ha
    simpa using this
/-- whoever is not taken meets one that stands ahead and is taken -/
theorem free_all (m : α → α → Bool) (l : List α) : ∀ n ∈ l, n ∈ free m l ∨ ∃ d r, l = d ++ n :: r ∧ ∃ t ∈ d, t ∈ free m l ∧ m n t = true := by
  refine snoc_rec (P := fun l => ∀ n ∈ l, n ∈ free m l ∨ ∃ d r, l = d ++ n :: r ∧ ∃ t ∈ d, t ∈ free m l ∧ m n t = true) (fun n h => by cases h) (fun l n ih x hx => ?_) l
  have keep : ∀ y ∈ free m l, y ∈ free m (l ++ [n]) := fun y hy => by
    rw [free_snoc]
    split
    · exact hy
    · exact List.mem_append_left _ hy
  rcases List.mem_append.mp hx with h | h
  · rcases ih x h with e | ⟨d, r, e, t, t1, t2, t3⟩
    · exact .inl (keep x e)
    · exact .inr ⟨d, r ++ [n], by rw [e, List.append_assoc]; rfl, t, t1, keep t t2, t3⟩
  · rw [List.mem_singleton.mp h]
    by_cases c : (free m l).any (m n) = true
    · obtain ⟨t, t1, t2⟩ := List.any_eq_true.mp c
      exact .inr ⟨l, [], rfl, t, (free_sub m l).subset t1, keep t t1, t2⟩
    · refine .inl ?_
      rw [free_snoc, if_neg c]
      exact List.mem_append_right _ List.mem_cons_self
/-! ### the law's own way -/
/-- the places of the groups in which nothing is met -/
def places (m : α → α → Bool) (n : α) (gs : List (List α)) (k : Nat) : List Nat := match gs with
  | [] => []
  | g :: r => (if g.any (m n) = true then [] else [k]) ++ places m n r (k + 1)
theorem places_none {m : α → α → Bool} {n : α} : ∀ {gs : List (List α)} {k : Nat}, places m n gs k = [] → put m n gs = gs ++ [[n]]
  | [], _, _ => rfl
  | g :: gs, k, h => by
    unfold places at h
    obtain ⟨h1, h2⟩ := List.append_eq_nil_iff.mp h
    unfold put
    split
    · rw [places_none h2]
      rfl
    · rename_i hn
      rw [if_neg hn] at h1
      cases h1
theorem places_some {m : α → α → Bool} {n : α} : ∀ {gs : List (List α)} {k j : Nat} {r : List Nat}, places m n gs k = j :: r → ∃ i g, j = k + i ∧ gs[i]? = some g ∧ put m n gs = gs.set i (g ++ [n])
  | [], _, _, _, h => by cases h
  | g :: gs, k, j, r, h => by
    unfold places at h
    by_cases hn : g.any (m n) = true
    · rw [if_pos hn, List.nil_append] at h
      obtain ⟨i, g', e, h1, h2⟩ := places_some h
      refine ⟨i + 1, g', by omega, h1, ?_⟩
      unfold put
      rw [if_pos hn, h2]
      rfl
    · rw [if_neg hn] at h
      injection h with h1 h2
      refine ⟨0, g, by omega, rfl, ?_⟩
      unfold put
      rw [if_neg hn]
      rfl
/-- the place of the first group in which nothing is met, or how many groups there are -/
theorem put_at {m : α → α → Bool} {n : α} : ∀ {gs : List (List α)} {i : Nat} {g : List α}, (∀ (j : Nat) (h : List α), j < i → gs[j]? = some h → h.any (m n) = true) → gs[i]? = some g → g.any (m n) = false → put m n gs = gs.set i (g ++ [n])
  | [], _, _, _, h, _ => by simp at h
  | g0 :: gs, 0, g, _, h, hn => by
    obtain rfl : g0 = g := Option.some.inj h
    unfold put
    rw [if_neg (by rw [hn]; exact Bool.false_ne_true)]
    rfl
  | g0 :: gs, i + 1, g, hb, h, hn => by
    have h0 := hb 0 g0 (by omega) rfl
    unfold put
    rw [if_pos h0, put_at (i := i) (fun j h hj e => hb (j + 1) h (by omega) e) h hn]
    rfl
theorem put_end {m : α → α → Bool} {n : α} : ∀ {gs : List (List α)}, (∀ (j : Nat) (h : List α), gs[j]? = some h → h.any (m n) = true) → put m n gs = gs ++ [[n]]
  | [], _ => rfl
  | g0 :: gs, hb => by
    have h0 := hb 0 g0 rfl
    unfold put
    rw [if_pos h0, put_end fun j h e => hb (j + 1) h e]
    rfl
theorem put_congr {m m' : α → α → Bool} {n : α} : ∀ {gs : List (List α)}, (∀ g ∈ gs, ∀ a ∈ g, m n a = m' n a) → put m n gs = put m' n gs
  | [], _ => rfl
  | g :: gs, h => by
    have e : g.any (m n) = g.any (m' n) := by
      rw [Bool.eq_iff_iff, List.any_eq_true, List.any_eq_true]
      constructor
      · rintro ⟨x, hx, px⟩
        exact ⟨x, hx, by rw [← h g List.mem_cons_self x hx]; exact px⟩
      · rintro ⟨x, hx, px⟩
        exact ⟨x, hx, by rw [h g List.mem_cons_self x hx]; exact px⟩
    unfold put
    rw [e, put_congr fun g' hg' => h g' (List.mem_cons_of_mem _ hg')]
end RM
end
section
set_option Elab.async false
set_option linter.all false
set_option maxRecDepth 100000
namespace K0
open PySem PySem.Spec PyProof.Rows L2
/-! ### shapes of texts -/
def Plain (y : Str) : Prop := ∀ c ∈ y.cps.toList, c < 1114112
theorem plain_ok {y : Str} (h : Plain y) : PyData.strOk y = true := by
  unfold PyData.strOk
  rw [← Array.all_toList, List.all_eq_true]
  intro c hc
  exact decide_eq_true (h c hc)
theorem canLay_strs : ∀ {l : List Str}, (∀ y ∈ l, Plain y) → PyData.canLayAll0 (l.map PyData.str) = true
  | [], _ => by simp only [List.map_nil, PyData.canLayAll0]
  | y :: l, h => by
    simp only [List.map_cons, PyData.canLayAll0, PyData.canLay0, plain_ok (h y List.mem_cons_self), canLay_strs fun z hz => h z (List.mem_cons_of_mem _ hz), Bool.and_self]
theorem depth_strs : ∀ l : List Str, PyData.depthAll (l.map PyData.str) = 0
  | [] => by simp only [List.map_nil, PyData.depthAll]
  | y :: l => by
    simp only [List.map_cons, PyData.depthAll, PyData.depth, depth_strs l]
    rfl
theorem dp_strs {K : PySem.W.Frag} {H : Hp} : ∀ l : List Str, DpAll K H (l.map V.str) (l.map PyData.str)
  | [] => .nil
  | y :: l => .cons (.str y) (dp_strs l)
theorem shaped_lst {l : List Str} (h : ∀ y ∈ l, Plain y) : SeqAt.shaped (.list (l.map PyData.str)) = true := by
  unfold SeqAt.shaped
  simp only [PyData.canLay0, PyData.depth, canLay_strs h, depth_strs]
  decide
theorem shaped_tup {l : List Str} (h : ∀ y ∈ l, Plain y) : SeqAt.shaped (.tuple (l.map PyData.str)) = true := by
  unfold SeqAt.shaped
  simp only [PyData.canLay0, PyData.depth, canLay_strs h, depth_strs]
  decide
theorem shaped_str {y : Str} (h : Plain y) : SeqAt.shaped (.str y) = true := by
  unfold SeqAt.shaped
  simp only [PyData.canLay0, PyData.depth, plain_ok h]
  rfl
theorem eqv_strs : ∀ l : List Str, PyData.eqvAll (l.map PyData.str) (l.map PyData.str) = true
  | [] => by simp only [List.map_nil, PyData.eqvAll]
  | y :: l => by simp only [List.map_cons, PyData.eqvAll, PyData.eqv, eqv_strs l, beq_self_eq_true, Bool.and_self]
theorem eqv_tups (l : List Str) : PyData.eqv (.tuple (l.map PyData.str)) (.tuple (l.map PyData.str)) = true := by
  simp only [PyData.eqv]
  exact eqv_strs _
theorem eqv_lsts (l : List Str) : PyData.eqv (.list (l.map PyData.str)) (.list (l.map PyData.str)) = true := by
  simp only [PyData.eqv]
  exact eqv_strs _
theorem name_plain {x : Str} (h : NameOk x) : Plain x := fun c hc => by
  have := (h.low c hc).2
  omega
theorem plain_name {R : List Row} (g : GoodRows R) {y : Str} (hy : y ∈ nmsOf R) : Plain y := name_plain (g.nm.ok y hy)
theorem sea_plain : Plain ("sea" : Str) := by
  intro c hc
  have : c = 115 ∨ c = 101 ∨ c = 97 := by simpa [sea_list, seaL] using hc
  omega
theorem course_sub {R : List Row} (g : GoodRows R) {y : Str} (hy : y ∈ nmsOf R) : ∀ z ∈ course R y, z ∈ nmsOf R := fun z hz => by
  obtain ⟨m, c⟩ := course_is g hy
  rw [c.eq] at hz
  obtain ⟨i, hi, e⟩ := List.mem_map.mp hz
  rw [← e]
  exact c.mem i (List.mem_range.mp hi)
/-! ### rights -/
abbrev RRow := Str × Str × Str
structure RtOk (R : List Row) (B : List RRow) : Prop where
  nd : (B.map (·.1)).Nodup
  ok : ∀ r ∈ B, NameOk r.1
  inn : ∀ r ∈ B, r.2.1 ∈ nmsOf R
  last : ∀ r ∈ B, r.2.2 = "sea" ∨ r.2.2 ∈ course R r.2.1
  most : B.length ≤ 40
abbrev rnm (B : List RRow) : List Str := B.map (·.1)
def wayB (R : List Row) (r : RRow) : List Str := if r.2.2 = "sea" then course R r.2.1 else (course R r.2.1).take ((course R r.2.1).idxOf r.2.2 + 1)
def rowB (B : List RRow) (n : Str) : RRow := (B.find? fun r => decide (r.1 = n)).getD ("", "", "sea")
def wayN (R : List Row) (B : List RRow) (n : Str) : List Str := wayB R (rowB B n)
theorem row_of {B : List RRow} (hd : (rnm B).Nodup) {r : RRow} (h : r ∈ B) : rowB B r.1 = r := by
  unfold rowB
  cases e : B.find? (fun q => decide (q.1 = r.1)) with
  | none => exact absurd (decide_eq_true rfl) (List.find?_eq_none.mp e r h)
  | some q =>
    have h1 := List.mem_of_find?_eq_some e
    have h2 : q.1 = r.1 := by
      have h3 := List.find?_some e
      exact of_decide_eq_true h3
    obtain ⟨i, hi⟩ := List.getElem?_of_mem h
    obtain ⟨j, hj⟩ := List.getElem?_of_mem h1
    have g1 : (rnm B)[i]? = some r.1 := by rw [List.getElem?_map, hi]; rfl
    have g2 : (rnm B)[j]? = some r.1 := by rw [List.getElem?_map, hj, ← h2]; rfl
    have : i = j := nd_ix hd g1 g2
    subst this
    rw [hi] at hj
    exact (Option.some.inj hj).symm
theorem way_of {R : List Row} {B : List RRow} (hd : (rnm B).Nodup) {r : RRow} (h : r ∈ B) : wayN R B r.1 = wayB R r := by
  unfold wayN
  rw [row_of hd h]
theorem itr_add (low : Str → Str) : ∀ (i j : Nat) (x : Str), itr low j (itr low i x) = itr low (i + j) x
  | i, 0, x => rfl
  | i, j + 1, x => by
    show low (itr low j (itr low i x)) = low (itr low (i + j) x)
    rw [itr_add low i j x]
/-- further down, the course is what is left of it -/
theorem CourseIs.tail {R : List Row} (g : GoodRows R) {x : Str} {m i : Nat} (c : CourseIs R x m) (hi : i < m) : CourseIs R (itr (lowR R) i x) (m - i) := by
  have hm := c.most
  refine ⟨by omega, by omega, ?_, fun j hj => ?_, ?_⟩
  · refine crs_full _ _ _ _ (by omega) (fun j hj => ?_) ?_
    · rw [itr_add]
      exact g.nm.sea _ (c.mem _ (by omega))
    · rw [itr_add, show i + (m - i) = m by omega]
      exact c.sea
  · rw [itr_add]
    exact c.mem _ (by omega)
  · rw [itr_add, show i + (m - i) = m by omega]
    exact c.sea
/-- a way: the first k of the course -/
structure WayIs (R : List Row) (r : RRow) (m k : Nat) : Prop where
  c : CourseIs R r.2.1 m
  one : 1 ≤ k
  most : k ≤ m
  eq : wayB R r = (List.range k).map fun i => itr (lowR R) i r.2.1
theorem way_is {R : List Row} (g : GoodRows R) {r : RRow} (h1 : r.2.1 ∈ nmsOf R) (h2 : r.2.2 = "sea" ∨ r.2.2 ∈ course R r.2.1) : ∃ m k, WayIs R r m k := by
  obtain ⟨m, c⟩ := course_is g h1
  by_cases hs : r.2.2 = "sea"
  · refine ⟨m, m, c, c.one, Nat.le_refl _, ?_⟩
    unfold wayB
    rw [if_pos hs]
    exact c.eq
  · have h3 := h2.resolve_left hs
    have hl := List.idxOf_lt_length_iff.mpr h3
    rw [c.len] at hl
    refine ⟨m, (course R r.2.1).idxOf r.2.2 + 1, c, by omega, by omega, ?_⟩
    unfold wayB
    rw [if_neg hs]
    generalize (course R r.2.1).idxOf r.2.2 = k at hl ⊢
    rw [c.eq, ← List.map_take, List.take_range, Nat.min_eq_left (by omega)]
def lastW (l : List Str) : Str := l.getLast?.getD ""
theorem WayIs.last {R : List Row} {r : RRow} {m k : Nat} (h : WayIs R r m k) : lastW (wayB R r) = itr (lowR R) (k - 1) r.2.1 := by
  have h1 := h.one
  unfold lastW
  rw [h.eq, List.getLast?_eq_getElem?, List.length_map, List.length_range, List.getElem?_map, List.getElem?_range (by omega)]
  rfl
theorem WayIs.mem {R : List Row} {r : RRow} {m k : Nat} (h : WayIs R r m k) {y : Str} : y ∈ wayB R r ↔ ∃ i, i < k ∧ itr (lowR R) i r.2.1 = y := by
  rw [h.eq, List.mem_map]
  constructor
  · rintro ⟨i, hi, e⟩
    exact ⟨i, List.mem_range.mp hi, e⟩
  · rintro ⟨i, hi, e⟩
    exact ⟨i, List.mem_range.mpr hi, e⟩
theorem WayIs.depth {R : List Row} (g : GoodRows R) {r : RRow} {m k i : Nat} (h : WayIs R r m k) (hi : i < m) : (course R (itr (lowR R) i r.2.1)).length = m - i := (h.c.tail g hi).len
theorem WayIs.sub {R : List Row} {r : RRow} {m k : Nat} (h : WayIs R r m k) : ∀ y ∈ wayB R r, y ∈ nmsOf R := fun y hy => by
  obtain ⟨i, hi, e⟩ := h.mem.mp hy
  rw [← e]
  exact h.c.mem i (by have := h.most; omega)
theorem WayIs.lastIn {R : List Row} {r : RRow} {m k : Nat} (h : WayIs R r m k) : lastW (wayB R r) ∈ wayB R r := by
  rw [h.last]
  exact h.mem.mpr ⟨k - 1, by have := h.one; omega, rfl⟩
/-- rights that meet: the one whose last weir is not deeper passes the last weir of the other -/
theorem meet_last {R : List Row} (g : GoodRows R) {r1 r2 : RRow} {m1 k1 m2 k2 : Nat} (w1 : WayIs R r1 m1 k1) (w2 : WayIs R r2 m2 k2) {y : Str} (h1 : y ∈ wayB R r1) (h2 : y ∈ wayB R r2)
    (hd : (course R (lastW (wayB R r2))).length ≤ (course R (lastW (wayB R r1))).length) : lastW (wayB R r1) ∈ wayB R r2 := by
  obtain ⟨i, hi, ei⟩ := w1.mem.mp h1
  obtain ⟨j, hj, ej⟩ := w2.mem.mp h2
  have a1 := w1.one; have a2 := w1.most; have b1 := w2.one; have b2 := w2.most
  rw [w1.last, w2.last, w1.depth g (by omega), w2.depth g (by omega)] at hd
  have d1 := w1.depth g (i := i) (by omega)
  have d2 := w2.depth g (i := j) (by omega)
  rw [ei] at d1
  rw [ej, d1] at d2
  rw [w1.last]
  refine w2.mem.mpr ⟨j + (k1 - 1 - i), by omega, ?_⟩
  rw [← itr_add, ej, ← ei, itr_add]
  congr 1
  omega
/-! ### the order in which rights are taken away -/
def depthN (R : List Row) (B : List RRow) (n : Str) : Nat := (course R (lastW (wayN R B n))).length
def remR (R : List Row) (B : List RRow) : List Str := (List.range R.length).flatMap fun i => (rnm B).filter fun n => decide (depthN R B n = R.length - i)
theorem WayIs.depthL {R : List Row} (g : GoodRows R) {r : RRow} {m k : Nat} (h : WayIs R r m k) : 1 ≤ (course R (lastW (wayB R r))).length ∧ (course R (lastW (wayB R r))).length ≤ R.length := by
  have a1 := h.one; have a2 := h.most; have a3 := h.c.most
  rw [h.last, h.depth g (by omega)]
  omega
theorem depth_ok {R : List Row} (g : GoodRows R) {B : List RRow} (b : RtOk R B) {n : Str} (hn : n ∈ rnm B) : 1 ≤ depthN R B n ∧ depthN R B n ≤ R.length := by
  obtain ⟨r, hr, rfl⟩ := List.mem_map.mp hn
  obtain ⟨m, k, w⟩ := way_is g (b.inn r hr) (b.last r hr)
  unfold depthN
  rw [way_of b.nd hr]
  exact w.depthL g
theorem rem_pw {R : List Row} {B : List RRow} : (remR R B).Pairwise fun x y => depthN R B y ≤ depthN R B x := by
  unfold remR
  rw [List.pairwise_flatMap]
  refine ⟨fun i hi => ?_, ?_⟩
  · rw [List.pairwise_filter]
    refine List.pairwise_of_forall fun x y h1 h2 => ?_
    rw [of_decide_eq_true h1, of_decide_eq_true h2]
    exact Nat.le_refl _
  · refine List.Pairwise.imp_of_mem (fun {i k} hi hk hik a ha b hb => ?_) (List.pairwise_lt_range (n := R.length))
    rw [of_decide_eq_true (List.mem_filter.mp ha).2, of_decide_eq_true (List.mem_filter.mp hb).2]
    omega
theorem rem_mem {R : List Row} (g : GoodRows R) {B : List RRow} (b : RtOk R B) {n : Str} : n ∈ remR R B ↔ n ∈ rnm B := by
  unfold remR
  rw [List.mem_flatMap]
  constructor
  · rintro ⟨i, _, h⟩
    exact (List.mem_filter.mp h).1
  · intro h
    obtain ⟨h1, h2⟩ := depth_ok g b h
    exact ⟨R.length - depthN R B n, List.mem_range.mpr (by omega), List.mem_filter.mpr ⟨h, decide_eq_true (by omega)⟩⟩
theorem rem_nd {R : List Row} (g : GoodRows R) {B : List RRow} (b : RtOk R B) : (remR R B).Nodup := by
  unfold remR List.Nodup
  rw [List.pairwise_flatMap]
  refine ⟨fun i hi => List.Pairwise.filter _ b.nd, ?_⟩
  refine List.Pairwise.imp_of_mem (fun {i k} hi hk hik a ha c hc e => ?_) (List.pairwise_lt_range (n := R.length))
  have h1 := of_decide_eq_true (List.mem_filter.mp ha).2
  have h2 := of_decide_eq_true (List.mem_filter.mp hc).2
  rw [e, h2] at h1
  have hi := List.mem_range.mp hi
  have hk := List.mem_range.mp hk
  omega
theorem rem_perm {R : List Row} (g : GoodRows R) {B : List RRow} (b : RtOk R B) : (remR R B).Perm (rnm B) :=
  (List.perm_ext_iff_of_nodup (rem_nd g b) b.nd).mpr fun _ => rem_mem g b
/-! ### meeting -/
def meetL (R : List Row) (B : List RRow) (a b : Str) : List Str := (wayN R B a).filter fun y => decide (y ∈ wayN R B b)
def meetB (R : List Row) (B : List RRow) (a b : Str) : Bool := (wayN R B a).any fun y => decide (y ∈ wayN R B b)
theorem meet_iff {R : List Row} {B : List RRow} {a b : Str} : meetB R B a b = true ↔ ∃ y, y ∈ wayN R B a ∧ y ∈ wayN R B b := by
  unfold meetB
  rw [List.any_eq_true]
  constructor
  · rintro ⟨y, h1, h2⟩
    exact ⟨y, h1, of_decide_eq_true h2⟩
  · rintro ⟨y, h1, h2⟩
    exact ⟨y, h1, decide_eq_true h2⟩
theorem meet_symm {R : List Row} {B : List RRow} (a b : Str) : meetB R B a b = meetB R B b a := by
  rw [Bool.eq_iff_iff, meet_iff, meet_iff]
  exact ⟨fun ⟨y, h1, h2⟩ => ⟨y, h2, h1⟩, fun ⟨y, h1, h2⟩ => ⟨y, h2, h1⟩⟩
theorem meetL_any {R : List Row} {B : List RRow} {a b : Str} : (meetL R B a b ≠ []) ↔ meetB R B a b = true := by
  rw [meet_iff]
  unfold meetL
  constructor
  · intro h
    obtain ⟨y, hy⟩ := List.exists_mem_of_ne_nil _ h
    obtain ⟨h1, h2⟩ := List.mem_filter.mp hy
    exact ⟨y, h1, of_decide_eq_true h2⟩
  · rintro ⟨y, h1, h2⟩ e
    have : y ∈ (wayN R B a).filter fun y => decide (y ∈ wayN R B b) := List.mem_filter.mpr ⟨h1, decide_eq_true h2⟩
    rw [e] at this
    cases this
/-- taken away earlier and met: the later one passes the last weir of the earlier -/
theorem meet_rem {R : List Row} (g : GoodRows R) {B : List RRow} (b : RtOk R B) {x y : Str} (hx : x ∈ rnm B) (hy : y ∈ rnm B) (hd : depthN R B y ≤ depthN R B x) (h : meetB R B x y = true) : lastW (wayN R B x) ∈ wayN R B y := by
  obtain ⟨z, h1, h2⟩ := meet_iff.mp h
  obtain ⟨r, hr, rfl⟩ := List.mem_map.mp hx
  obtain ⟨q, hq, rfl⟩ := List.mem_map.mp hy
  obtain ⟨m1, k1, w1⟩ := way_is g (b.inn r hr) (b.last r hr)
  obtain ⟨m2, k2, w2⟩ := way_is g (b.inn q hq) (b.last q hq)
  unfold depthN at hd
  rw [way_of b.nd hr] at hd h1 ⊢
  rw [way_of b.nd hq] at hd h2 ⊢
  exact meet_last g w1 w2 h1 h2 hd
theorem last_in {R : List Row} (g : GoodRows R) {B : List RRow} (b : RtOk R B) {x : Str} (hx : x ∈ rnm B) : lastW (wayN R B x) ∈ wayN R B x ∧ lastW (wayN R B x) ∈ nmsOf R := by
  obtain ⟨r, hr, rfl⟩ := List.mem_map.mp hx
  obtain ⟨m1, k1, w1⟩ := way_is g (b.inn r hr) (b.last r hr)
  rw [way_of b.nd hr]
  exact ⟨w1.lastIn, w1.sub _ w1.lastIn⟩
theorem way_sub {R : List Row} (g : GoodRows R) {B : List RRow} (b : RtOk R B) {x : Str} (hx : x ∈ rnm B) : ∀ y ∈ wayN R B x, y ∈ nmsOf R := by
  obtain ⟨r, hr, rfl⟩ := List.mem_map.mp hx
  obtain ⟨m1, k1, w1⟩ := way_is g (b.inn r hr) (b.last r hr)
  rw [way_of b.nd hr]
  exact w1.sub
def passR (R : List Row) (B : List RRow) (y : Str) : List Str := (rnm B).filter fun n => decide (y ∈ wayN R B n)
end K0
end
section
set_option Elab.async false
set_option linter.all false
set_option maxRecDepth 100000
namespace K0
open PySem PySem.Spec PyProof.Rows L2
/-! ### what a river is asked, for weirs that there are -/
abbrev sIsDown : Stmt := inClass sRiver 11
abbrev sWay : Stmt := inClass sRiver 13
/-- River's own special method -/
structure Sc (K : PySem.W.Frag) (Cr : Addr) : Prop where
  has : ∃ f fd, FnM K "__contains__" "River.__contains__" sContains f fd ∧ PySem.W.findIn K (.ref Cr) "__contains__" = some (some (.ref f)) ∧ PySem.W.isFn K (.ref f) = true
abbrev GHasS (Cr : Addr) : Hp → Addr → V → Bool → Prop := fun H p x b => ∃ AR y, RivAt Cr H p AR ∧ x = .str y ∧ b = decide (y ∈ namesOf AR)
theorem scContains : FnScope ["self", "x"] ["self", "x"] (defScope sContains) := ⟨rfl, rfl, rfl, by decide +kernel, rfl, by decide +kernel, by decide +kernel⟩
theorem scNeed : FnScope ["river", "weir"] ["river", "weir"] (defScope sNeed) := ⟨rfl, rfl, rfl, by decide +kernel, rfl, by decide +kernel, by decide +kernel⟩
theorem scCourseM : FnScope ["self", "weir"] ["self", "weir"] (defScope sCourseM) := ⟨rfl, rfl, rfl, by decide +kernel, rfl, by decide +kernel, by decide +kernel⟩
theorem scDepth : FnScope ["self", "weir"] ["self", "weir"] (defScope sDepth) := ⟨rfl, rfl, rfl, by decide +kernel, rfl, by decide +kernel, by decide +kernel⟩
theorem scIsDown : FnScope ["self", "high", "low"] ["self", "high", "low"] (defScope sIsDown) := ⟨rfl, rfl, rfl, by decide +kernel, rfl, by decide +kernel, by decide +kernel⟩
theorem scWay : FnScope ["self", "intake", "last", "course"] ["self", "intake", "last"] (defScope sWay) := ⟨rfl, rfl, rfl, by decide +kernel, rfl, by decide +kernel, by decide +kernel⟩
theorem scRows : FnScope ["self"] ["self"] (defScope sRows) := ⟨rfl, rfl, rfl, by decide +kernel, rfl, by decide +kernel, by decide +kernel⟩
/-- a tuple of texts -/
def TxR (H : Hp) (t : Addr) (l : List Str) : Prop := Rd H t (.tup (l.map V.str))
theorem TxR.same {H H' : Hp} {t : Addr} {l : List Str} (h : TxR H t l) (s : Same H H') : TxR H' t l := same_rd s h
def spNeedS (Cr : Addr) : Sp := fun vs H Q _ => ∃ (p : Addr) (y : Str) (AR : List (Addr × Row)), vs = [.ref p, .str y] ∧ RivAt Cr H p AR ∧ y ∈ namesOf AR ∧ Q .non H
def spCourseS (Cr : Addr) : Sp := fun vs H Q _ => ∃ (p : Addr) (y : Str) (AR : List (Addr × Row)), vs = [.ref p, .str y] ∧ RivAt Cr H p AR ∧ y ∈ namesOf AR ∧ ∀ t, TxR H t (course (rowsOf AR) y) → Q (.ref t) H
def spDepthS (Cr : Addr) : Sp := fun vs H Q _ => ∃ (p : Addr) (y : Str) (AR : List (Addr × Row)), vs = [.ref p, .str y] ∧ RivAt Cr H p AR ∧ y ∈ namesOf AR ∧ Q (.int ((course (rowsOf AR) y).length : Int)) H
def spDownS (Cr : Addr) : Sp := fun vs H Q _ => ∃ (p : Addr) (a b : Str) (AR : List (Addr × Row)), vs = [.ref p, .str a, .str b] ∧ RivAt Cr H p AR ∧ a ∈ namesOf AR ∧ b ∈ namesOf AR ∧ Q (.bl (decide (b ∈ course (rowsOf AR) a))) H
def spWayS (Cr : Addr) : Sp := fun vs H Q _ => ∃ (p : Addr) (r : RRow) (AR : List (Addr × Row)), vs = [.ref p, .str r.2.1, .str r.2.2] ∧ RivAt Cr H p AR ∧ GoodRows (rowsOf AR) ∧ r.2.1 ∈ namesOf AR ∧ (r.2.2 = "sea" ∨ r.2.2 ∈ course (rowsOf AR) r.2.1) ∧ ∀ t H', Same H H' → TxR H' t (wayB (rowsOf AR) r) → Q (.ref t) H'
def spRows (Cr : Addr) : Sp := fun vs H Q _ => ∃ (p : Addr) (AR : List (Addr × Row)), vs = [.ref p] ∧ RivAt Cr H p AR ∧ ∀ l, H l = none → Q (.ref l) (upd H l (.lst (AR.map fun q => .ref q.1)))
section
variable {P : Program} {w : World} {K : PySem.W.Frag} {mg : Str → Option Value} {base : Heap} {tS tM tL : Tok}
theorem ok_containsS {f Cr : Addr} {fd : FuncData} (F : FnM K "__contains__" "River.__contains__" sContains f fd) (T : Rv K mg Cr) (B : Bl mg) : FnOk P w K mg base CX0 1 f fd ["self", "x"] (spHas (GHasS Cr)) := by
  refine F.ok scContains (fun vs H Q E h => ?_) (fun cdv A outer s H vs Q E hr h => ?_)
  · obtain ⟨p, x, b, rfl, _⟩ := h
    rfl
  · obtain ⟨p, x, b, rfl, ⟨AR, y, R, rfl, rfl⟩, k⟩ := h
    have hu := hu_of hr
    refine ⟨_, PSs.nox (pss_one
      (ps_ret (pe_and (pe_callB call_isi (by rfl) B.isinstance (by decide +kernel) (pa_cons (pv 1) (pa_cons (pe_bltn (v := .ty "str") (by rfl) B.str (by decide +kernel) rfl) pa_nil))) (pe_one (pe_cmp (pc_din hu (pv 1) (fldK (K := K) (pv 0) rfl)) rfl))))), ?_⟩
    obtain ⟨dx, tw, tr, db, dc, da, du, o, h1, h2, h3, h4, h5, h6, h7, h8, h9⟩ := R.ex
    refine ⟨_, rfl, .str y, .ty "str", _, _, true, rfl, .ty "str", .base (.str y), kit_ty (by decide +kernel), true, rfl, iteT ?_⟩
    refine ⟨_, rfl, _, rfl, p, Cr, dx, _, _, rfl, h1, T.cl, T._below, g7b _ _ _ _ _ _ _, ?_⟩
    by_cases hy : y ∈ namesOf AR
    · refine ⟨db, some (.str (lowR (rowsOf AR) y)), rfl, dget_rn (.inl h5) hy, ?_⟩
      rw [decide_eq_true hy] at k
      exact k
    · refine ⟨db, none, rfl, .inl ⟨_, Sum.inr y, .inl h5, rfl, (kmap_not hy).symm⟩, ?_⟩
      rw [decide_eq_false hy] at k
      exact k
theorem ok_needS {f Cr : Addr} {fd : FuncData} (F : FnP K "need_weir" sNeed f fd) (M : Sc K Cr) (T : Rv K mg Cr) (B : Bl mg) : FnOk P w K mg base CX0 2 f fd ["river", "weir"] (spNeedS Cr) := by
  obtain ⟨fC, fdC, FC, hs, hf⟩ := M.has
  have GC : FnOk P w K mg base CX0 1 fC fdC ["self", "x"] (spHas (GHasS Cr)) := ok_containsS FC T B
  have bC : Binds K fdC ["self", "x"] [] := FC.bindsN fun _ _ _ _ _ _ us hl => match us, hl with | [_, _], _ => rfl
  refine F.ok scNeed (fun vs H Q E h => ?_) (fun cdv A outer s H vs Q E hr h => ?_)
  · obtain ⟨p, y, AR, rfl, _⟩ := h
    rfl
  · obtain ⟨p, y, AR, rfl, R, hy, k⟩ := h
    refine ⟨_, PSs.nox (pss_one
      (ps_if (pt_cmpR (k0_notIn_own (K := K) GC hr hs hf bC) (pv 1) (pv 0) (by rfl)) (pss_one
      ps_never) pss_nil)), ?_⟩
    obtain ⟨dx, tw, tr, db, dc, da, du, o, h1, _⟩ := id R.ex
    refine ⟨_, rfl, _, rfl, p, dx, _, true, rfl, h1, ⟨AR, y, R, rfl, (decide_eq_true hy).symm⟩, _, rfl, ?_⟩
    exact iteF k
/-- need_weir and what it promises -/
structure NdS (P : Program) (w : World) (K : PySem.W.Frag) (mg : Str → Option Value) (base : Heap) (Cr : Addr) : Prop where
  ex : ∃ f fd, FnP K "need_weir" sNeed f fd ∧ mg "need_weir" = some (.ref f) ∧ FnOk P w K mg base CX0 2 f fd ["river", "weir"] (spNeedS Cr)
theorem ok_courseS {f Cr : Addr} {fd : FuncData} (F : FnM K "course" "River.course" sCourseM f fd) (D : NdS P w K mg base Cr) (T : Rv K mg Cr) : FnOk P w K mg base CX0 3 f fd ["self", "weir"] (spCourseS Cr) := by
  obtain ⟨fN, fdN, Fneed_weir, gneed_weir, Gneed_weir⟩ := D.ex
  have bneed_weir : Binds K fdN ["river", "weir"] [] := Fneed_weir.bindsN fun _ _ _ _ _ _ us hl => match us, hl with | [_, _], _ => rfl
  refine F.ok scCourseM (fun vs H Q E h => ?_) (fun cdv A outer s H vs Q E hr h => ?_)
  · obtain ⟨p, y, AR, rfl, _⟩ := h
    rfl
  · obtain ⟨p, y, AR, rfl, R, hy, k⟩ := h
    have hu := hu_of hr
    have hrneed_weir : Room 2 _ := hr
    refine ⟨_, PSs.nox (pss_cons
      (ps_expr (pe_call Gneed_weir hrneed_weir (by rfl) gneed_weir Fneed_weir.kp bneed_weir .nil pass0 (pa_cons (pv 0) (pa_cons (pv 1) pa_nil))))
      (pss_one
      (ps_ret (pe_dget hu (fldK (K := K) (pv 0) rfl) (pv 1) (fun _ _ => rfl))))), ?_⟩
    obtain ⟨dx, tw, tr, db, dc, da, du, o, h1, h2, h3, h4, h5, h6, h7, h8, h9⟩ := id R.ex
    obtain ⟨ta, q1, q2⟩ := h6.ex
    refine ⟨_, rfl, _, rfl, p, y, AR, rfl, R, hy, ?_⟩
    exact ⟨_, rfl, p, Cr, dx, _, _, rfl, h1, T.cl, T._courses, g7c _ _ _ _ _ _ _, _, rfl, dc, _, rfl, dget_rn (.inl q1) hy, k _ (q2 y hy).rd⟩
theorem ok_depthS {f fC Cr : Addr} {fd fdC : FuncData} (F : FnM K "depth" "River.depth" sDepth f fd) (FC : FnM K "course" "River.course" sCourseM fC fdC) (Mcourse : Meth K Cr "course" fC) (D : NdS P w K mg base Cr) (T : Rv K mg Cr) (B : Bl mg) : FnOk P w K mg base CX0 4 f fd ["self", "weir"] (spDepthS Cr) := by
  have Gcourse : FnOk P w K mg base CX0 3 fC fdC ["self", "weir"] (spCourseS Cr) := ok_courseS FC D T
  have bcourse : Binds K fdC ["self", "weir"] [] := FC.bindsN fun _ _ _ _ _ _ us hl => match us, hl with | [_, _], _ => rfl
  refine F.ok scDepth (fun vs H Q E h => ?_) (fun cdv A outer s H vs Q E hr h => ?_)
  · obtain ⟨p, y, AR, rfl, _⟩ := h
    rfl
  · obtain ⟨p, y, AR, rfl, R, hy, k⟩ := h
    have hrcourse : Room 3 _ := hr
    refine ⟨_, PSs.nox (pss_one
      (ps_ret (pe_callB (lenK (K := K)) (by rfl) B.len PySem.boot_len (pa_cons (pe_meth (pv 0) T.cl Mcourse Gcourse hrcourse bcourse .nil pass0 (pa_cons (pv 1) pa_nil)) pa_nil)))), ?_⟩
    obtain ⟨dx, tw, tr, db, dc, da, du, o, h1, h2, h3, h4, h5, h6, h7, h8, h9⟩ := id R.ex
    refine ⟨_, rfl, p, dx, _, rfl, h1, g7no _ _ _ _ _ _ _ (by decide +kernel) (by decide +kernel) (by decide +kernel) (by decide +kernel) (by decide +kernel) (by decide +kernel) (by decide +kernel), _, rfl, p, y, AR, rfl, R, hy, fun t ht => ?_⟩
    refine ⟨t, _, rfl, .inr (.inl ht), ?_⟩
    rw [List.length_map]
    exact k
theorem ok_isdownS {f Cr : Addr} {fd : FuncData} (F : FnM K "is_down" "River.is_down" sIsDown f fd) (D : NdS P w K mg base Cr) (T : Rv K mg Cr) : FnOk P w K mg base CX0 3 f fd ["self", "high", "low"] (spDownS Cr) := by
  obtain ⟨fN, fdN, Fneed_weir, gneed_weir, Gneed_weir⟩ := D.ex
  have bneed_weir : Binds K fdN ["river", "weir"] [] := Fneed_weir.bindsN fun _ _ _ _ _ _ us hl => match us, hl with | [_, _], _ => rfl
  refine F.ok scIsDown (fun vs H Q E h => ?_) (fun cdv A outer s H vs Q E hr h => ?_)
  · obtain ⟨p, a, b, AR, rfl, _⟩ := h
    rfl
  · obtain ⟨p, a, b, AR, rfl, R, ha, hb, k⟩ := h
    have hu := hu_of hr
    have hrneed_weir : Room 2 _ := hr
    refine ⟨_, PSs.nox (pss_cons
      (ps_expr (pe_call Gneed_weir hrneed_weir (by rfl) gneed_weir Fneed_weir.kp bneed_weir .nil pass0 (pa_cons (pv 0) (pa_cons (pv 1) pa_nil))))
      (pss_cons
      (ps_expr (pe_call Gneed_weir hrneed_weir (by rfl) gneed_weir Fneed_weir.kp bneed_weir .nil pass0 (pa_cons (pv 0) (pa_cons (pv 2) pa_nil))))
      (pss_one
      (ps_ret (pe_cmpR (inK (K := K)) (pv 2) (pe_dget hu (fldK (K := K) (pv 0) rfl) (pv 1) (fun _ _ => rfl)) (by rfl)))))), ?_⟩
    obtain ⟨dx, tw, tr, db, dc, da, du, o, h1, h2, h3, h4, h5, h6, h7, h8, h9⟩ := id R.ex
    obtain ⟨ta, q1, q2⟩ := h6.ex
    refine ⟨_, rfl, _, rfl, p, a, AR, rfl, R, ha, ?_⟩
    refine ⟨_, rfl, _, rfl, p, b, AR, rfl, R, hb, ?_⟩
    refine ⟨_, rfl, _, rfl, p, Cr, dx, _, _, rfl, h1, T.cl, T._courses, g7c _ _ _ _ _ _ _, _, rfl, dc, _, rfl, dget_rn (.inl q1) ha, ta a, _, rfl, .inr (.inl (q2 a ha).rd), rfl, flat_strs _, ?_⟩
    rw [inV_str]
    exact k
theorem ok_wayS {f Cr : Addr} {fd : FuncData} (F : FnM K "way" "River.way" sWay f fd) (D : NdS P w K mg base Cr) (T : Rv K mg Cr) (C : Gc mg tS tM tL) : FnOk P w K mg base CX0 3 f fd ["self", "intake", "last"] (spWayS Cr) := by
  obtain ⟨fN, fdN, Fneed_weir, gneed_weir, Gneed_weir⟩ := D.ex
  have bneed_weir : Binds K fdN ["river", "weir"] [] := Fneed_weir.bindsN fun _ _ _ _ _ _ us hl => match us, hl with | [_, _], _ => rfl
  refine F.ok scWay (fun vs H Q E h => ?_) (fun cdv A outer s H vs Q E hr h => ?_)
  · obtain ⟨p, r, AR, rfl, _⟩ := h
    rfl
  · obtain ⟨p, r, AR, rfl, R, hG, ha, hl0, k⟩ := h
    have hu := hu_of hr
    have hrneed_weir : Room 2 _ := hr
    refine ⟨_, PSs.nox (pss_cons
      (ps_expr (pe_call Gneed_weir hrneed_weir (by rfl) gneed_weir Fneed_weir.kp bneed_weir .nil pass0 (pa_cons (pv 0) (pa_cons (pv 1) pa_nil))))
      (pss_cons
      (ps_set (i := 3) scWay.nd rfl (Or.inl rfl) (pe_dget hu (fldK (K := K) (pv 0) rfl) (pv 1) (fun _ _ => rfl)))
      (pss_cons
      (ps_if (pt_cmpR op_eq (pv 2) (pe_glob (v := .str "sea") (by rfl) C.SEA ⟨_, rfl⟩) (nomark _)) (pss_one
      (ps_ret (pv 3))) pss_nil)
      (pss_cons
      (ps_expr (pe_call Gneed_weir hrneed_weir (by rfl) gneed_weir Fneed_weir.kp bneed_weir .nil pass0 (pa_cons (pv 0) (pa_cons (pv 2) pa_nil))))
      (pss_cons
      (ps_if (pt_cmpR (notInK (K := K)) (pv 2) (pv 3) (by rfl)) (pss_one
      ps_never) pss_nil)
      (pss_one
      (ps_ret (pe_slice sl_tupA (pv 3) po_none (po_some (pe_op op_add (k0_bmT PySem.F.slot_tuple_index PySem.F.type_tuple_index mt_tup_index (pv 3) (pa_cons (pv 2) pa_nil)) pe_int)))))))))), ?_⟩
    obtain ⟨dx, tw, tr, db, dc, da, du, o, h1, h2, h3, h4, h5, h6, h7, h8, h9⟩ := id R.ex
    obtain ⟨ta, q1, q2⟩ := h6.ex
    refine ⟨_, rfl, _, rfl, p, r.2.1, AR, rfl, R, ha, ?_⟩
    refine ⟨_, rfl, p, Cr, dx, _, _, rfl, h1, T.cl, T._courses, g7c _ _ _ _ _ _ _, _, rfl, dc, _, rfl, dget_rn (.inl q1) ha, ?_⟩
    refine ⟨_, rfl, rfl, _, rfl, ?_⟩
    refine ite2 (fun e => ?_) (fun e => ?_)
    · have e : r.2.2 = "sea" := V.str.inj (of_decide_eq_true e)
      refine ⟨_, rfl, k _ _ (.refl _) ?_⟩
      unfold wayB
      rw [if_pos e]
      exact (q2 _ ha).rd
    · have e : ¬ r.2.2 = "sea" := fun z => e (decide_eq_true (congrArg V.str z))
      have hin := hl0.resolve_left e
      have hb : r.2.2 ∈ namesOf AR := course_sub hG ha _ hin
      refine ⟨_, rfl, _, rfl, p, r.2.2, AR, rfl, R, hb, ?_⟩
      refine ⟨_, rfl, _, rfl, ta r.2.1, _, rfl, .inr (.inl (q2 _ ha).rd), rfl, flat_strs _, _, rfl, ?_⟩
      rw [inV_str, decide_eq_true hin]
      refine iteF ?_
      have hlt := List.idxOf_lt_length_iff.mpr hin
      have hat : (course (rowsOf AR) r.2.1)[(course (rowsOf AR) r.2.1).idxOf r.2.2]? = some r.2.2 := by
        rw [List.getElem?_eq_getElem hlt, List.getElem_idxOf]
      have hfst : ∀ m, m < (course (rowsOf AR) r.2.1).idxOf r.2.2 → (course (rowsOf AR) r.2.1)[m]? ≠ some r.2.2 := fun m hm e => by
        have q := List.not_of_lt_findIdx (p := fun z => z == r.2.2) (xs := course (rowsOf AR) r.2.1) hm
        obtain ⟨hml, e2⟩ := List.getElem?_eq_some_iff.mp e
        rw [e2, beq_self_eq_true] at q
        cases q
      have hl : ((course (rowsOf AR) r.2.1).map V.str).length = (course (rowsOf AR) r.2.1).length := List.length_map _
      have haf := q2 r.2.1 ha
      obtain ⟨ot, pt, et⟩ := id haf
      have hmost : (course (rowsOf AR) r.2.1).length ≤ 40 := by
        obtain ⟨m, c⟩ := course_is hG ha
        rw [c.len]
        exact Nat.le_trans c.most hG.most
      have kw : ∀ t H', Same H H' → TxR H' t ((course (rowsOf AR) r.2.1).take ((course (rowsOf AR) r.2.1).idxOf r.2.2 + 1)) → Q (.ref t) H' := fun t H' s ht => by
        refine k t H' s ?_
        unfold wayB
        rw [if_neg e]
        exact ht
      refine ⟨_, rfl, ?_⟩
      refine ⟨_, rfl, ⟨ta r.2.1, ot, _, rfl, et, pt⟩, ?_⟩
      refine ⟨_, rfl, ta r.2.1, course (rowsOf AR) r.2.1, r.2.2, (course (rowsOf AR) r.2.1).idxOf r.2.2, rfl, rfl, .inl haf.rd, hat, hfst, ?_⟩
      refine ⟨_, _, rfl, rfl, ?_⟩
      have es : HT.sIx ((course (rowsOf AR) r.2.1).map V.str).length ((course (rowsOf AR) r.2.1).map V.str).length (some (((course (rowsOf AR) r.2.1).idxOf r.2.2 : Int) + 1)) = (course (rowsOf AR) r.2.1).idxOf r.2.2 + 1 := by
        have e := HT.sIx_nat ((course (rowsOf AR) r.2.1).map V.str).length ((course (rowsOf AR) r.2.1).map V.str).length ((course (rowsOf AR) r.2.1).idxOf r.2.2 + 1)
        rw [Int.natCast_add] at e
        have e : HT.sIx ((course (rowsOf AR) r.2.1).map V.str).length ((course (rowsOf AR) r.2.1).map V.str).length (some (((course (rowsOf AR) r.2.1).idxOf r.2.2 : Int) + 1)) = min ((course (rowsOf AR) r.2.1).idxOf r.2.2 + 1) ((course (rowsOf AR) r.2.1).map V.str).length := e
        rw [e, hl]
        omega
      refine ⟨_, rfl, ta r.2.1, _, rfl, .inl haf.rd, fun hw => ?_, fun hw t nt => ?_⟩
      · have hw2 := hw.2
        rw [es, hl] at hw2
        refine kw _ H (.refl _) ?_
        rw [List.take_of_length_le (by omega)]
        exact haf.rd
      · refine kw _ _ (same_upd nt) (.inl ?_)
        rw [upd_same]
        unfold cutV
        rw [es, HT.sIx_none, List.drop_zero, Nat.sub_zero, List.map_take]
theorem ok_rows {f Cr : Addr} {fd : FuncData} (F : FnM K "rows" "River.rows" sRows f fd) (T : Rv K mg Cr) (B : Bl mg) : FnOk P w K mg base CX0 1 f fd ["self"] (spRows Cr) := by
  refine F.ok scRows (fun vs H Q E h => ?_) (fun cdv A outer s H vs Q E hr h => ?_)
  · obtain ⟨p, AR, rfl, _⟩ := h
    rfl
  · obtain ⟨p, AR, rfl, R, k⟩ := h
    refine ⟨_, PSs.nox (pss_one
      (ps_ret (pe_callTy (listK (K := K)) (by rfl) B.list (by decide +kernel) (pa_cons (fldK (K := K) (pv 0) rfl) pa_nil)))), ?_⟩
    obtain ⟨dx, tw, tr, db, dc, da, du, o, h1, h2, h3, h4, h5, h6, h7, h8, h9⟩ := R.ex
    exact ⟨_, rfl, p, Cr, dx, _, _, rfl, h1, T.cl, T._rows, g7r _ _ _ _ _ _ _, tr, _, rfl, .inr (.inl (.inl h3)), fun l nl => k l nl⟩
end
end K0
end
section
set_option Elab.async false
set_option linter.all false
set_option maxRecDepth 100000
namespace L2
open PySem PySem.Spec PyProof.Rows
/-! ### comprehensions whose turns only lay new objects -/
/-- what a turn may end in -/
def Put1 (D : Addr) (acc acc' : List V) (H : Hp) (Nx : Hp → Prop) : Prop := ∀ (y : V) (H4 : Hp), Same H H4 → acc' = acc ++ [y] → ∃ a, H4 D = some (.lst a) ∧ a.length < sizeLine ∧ Nx (upd H4 D (.lst (a ++ [y])))
def Skip1 (acc acc' : List V) (H : Hp) (Nx : Hp → Prop) : Prop := ∀ H3, Same H H3 → acc' = acc → Nx H3
def Out1 (H1 : Hp) (D : Addr) (out : Nat → List V) (i : Nat) (H : Hp) : Prop := Same H1 H ∧ H D = some (.lst (out i))
theorem out1_0 {H1 : Hp} {D : Addr} {out : Nat → List V} (hD : H1 D = none) (h0 : out 0 = []) : Out1 H1 D out 0 (upd H1 D (.lst [])) :=
  ⟨fun b o hb => by rw [upd_ne (ne_of_none hb hD)]; exact hb, by rw [upd_same, h0]⟩
theorem out1_put {H1 H : Hp} {D : Addr} {out : Nat → List V} {i : Nat} (hD : H1 D = none) (hl : (out i).length < sizeLine) (h : Out1 H1 D out i H) : Put1 D (out i) (out (i + 1)) H (Out1 H1 D out (i + 1)) := fun y H4 s e => by
  refine ⟨_, s _ _ h.2, hl, fun b o hb => ?_, ?_⟩
  · rw [upd_ne (ne_of_none hb hD)]
    exact s _ _ (h.1 _ _ hb)
  · rw [upd_same, e]
theorem out1_skip {H1 H : Hp} {D : Addr} {out : Nat → List V} {i : Nat} (h : Out1 H1 D out i H) : Skip1 (out i) (out (i + 1)) H (Out1 H1 D out (i + 1)) := fun H3 s e => ⟨h.1.trans s, by rw [s _ _ h.2, e]⟩
section
variable {K : PySem.W.Frag} {a : Addr} {xs : List V} {g : TG} {tt : TT} {te : TE} {vs : List Nat} {σ : St} {H1 : Hp} {D : Addr} {Qd : Hp → Prop}
theorem lc_listO (hD : H1 D = none) (out : Nat → List V) (h0 : out 0 = []) (hz : ∀ i, i ≤ xs.length → (out i).length < sizeLine) (hl : SqL K H1 a xs)
    (hs : ∀ i x H (Nx : Hp → Prop), xs[i]? = some x → Same H1 H → Put1 D (out i) (out (i + 1)) H Nx → Skip1 (out i) (out (i + 1)) H Nx → g x (wipe σ vs) H fun σ2 H2 => wipe σ2 vs = wipe σ vs ∧ tt σ2 H2 fun b H3 =>
      if b = true then te σ2 H3 fun y H4 => ∃ acc, H4 D = some (.lst acc) ∧ acc.length < sizeLine ∧ Nx (upd H4 D (.lst (acc ++ [y]))) else Nx H3) (hd : ∀ H, Same H1 H → H D = some (.lst (out xs.length)) → Qd H) :
    ∃ W : Nat → Nat → Hp → Prop, (∃ m, W 0 m (upd H1 D (.lst []))) ∧ ∀ i m H, W i m H →
      ((Itl K a).stop i H ∧ Qd H) ∨ ((Itl K a).go i H ∧ ∃ Nx : Hp → Prop, (∀ H', Nx H' → ∃ m', m' < m ∧ W (i + 1) m' H') ∧ ∀ x H', (Itl K a).yld i H x H' → g x (wipe σ vs) H' fun σ2 H2 => wipe σ2 vs = wipe σ vs ∧ tt σ2 H2 fun b H3 =>
        if b = true then te σ2 H3 fun y H4 => ∃ acc, H4 D = some (.lst acc) ∧ acc.length < sizeLine ∧ Nx (upd H4 D (.lst (acc ++ [y]))) else Nx H3) :=
  lc_list (Out1 H1 D out) (out1_0 hD h0) (fun i H _ h => h.1.seq hl) (fun i x H hx h => hs i x H _ hx h.1 (out1_put hD (hz i (by have := (List.getElem?_eq_some_iff.mp hx).1; omega)) h) (out1_skip h)) (fun H h => hd H h.1 h.2)
theorem lc_tupO (hD : H1 D = none) (out : Nat → List V) (h0 : out 0 = []) (hz : ∀ i, i ≤ xs.length → (out i).length < sizeLine) (hl : ∀ H, Same H1 H → SqT K H a xs)
    (hs : ∀ i x H (Nx : Hp → Prop), xs[i]? = some x → Same H1 H → Put1 D (out i) (out (i + 1)) H Nx → Skip1 (out i) (out (i + 1)) H Nx → g x (wipe σ vs) H fun σ2 H2 => wipe σ2 vs = wipe σ vs ∧ tt σ2 H2 fun b H3 =>
      if b = true then te σ2 H3 fun y H4 => ∃ acc, H4 D = some (.lst acc) ∧ acc.length < sizeLine ∧ Nx (upd H4 D (.lst (acc ++ [y]))) else Nx H3) (hd : ∀ H, Same H1 H → H D = some (.lst (out xs.length)) → Qd H) :
    ∃ W : Nat → Nat → Hp → Prop, (∃ m, W 0 m (upd H1 D (.lst []))) ∧ ∀ i m H, W i m H →
      ((Itt K a).stop i H ∧ Qd H) ∨ ((Itt K a).go i H ∧ ∃ Nx : Hp → Prop, (∀ H', Nx H' → ∃ m', m' < m ∧ W (i + 1) m' H') ∧ ∀ x H', (Itt K a).yld i H x H' → g x (wipe σ vs) H' fun σ2 H2 => wipe σ2 vs = wipe σ vs ∧ tt σ2 H2 fun b H3 =>
        if b = true then te σ2 H3 fun y H4 => ∃ acc, H4 D = some (.lst acc) ∧ acc.length < sizeLine ∧ Nx (upd H4 D (.lst (acc ++ [y]))) else Nx H3) :=
  lc_tup (Out1 H1 D out) (out1_0 hD h0) (fun i H _ h => hl H h.1) (fun i x H hx h => hs i x H _ hx h.1 (out1_put hD (hz i (by have := (List.getElem?_eq_some_iff.mp hx).1; omega)) h) (out1_skip h)) (fun H h => hd H h.1 h.2)
theorem lc_itO {J : It} {n : Nat} {G : Hp → Prop} {Y : Nat → Hp → V → Hp → Prop} (w : Walk J n G Y) (hD : H1 D = none) (out : Nat → List V) (h0 : out 0 = []) (hz : ∀ i, i ≤ n → (out i).length < sizeLine) (hG : ∀ H, Same H1 H → G H)
    (hs : ∀ i x H H' (Nx : Hp → Prop), i < n → Same H1 H → H D = some (.lst (out i)) → Put1 D (out i) (out (i + 1)) H Nx → Skip1 (out i) (out (i + 1)) H Nx → Y i H x H' → g x (wipe σ vs) H' fun σ2 H2 => wipe σ2 vs = wipe σ vs ∧ tt σ2 H2 fun b H3 =>
      if b = true then te σ2 H3 fun y H4 => ∃ acc, H4 D = some (.lst acc) ∧ acc.length < sizeLine ∧ Nx (upd H4 D (.lst (acc ++ [y]))) else Nx H3) (hd : ∀ H, Same H1 H → H D = some (.lst (out n)) → Qd H) :
    ∃ W : Nat → Nat → Hp → Prop, (∃ m, W 0 m (upd H1 D (.lst []))) ∧ ∀ i m H, W i m H →
      (J.stop i H ∧ Qd H) ∨ (J.go i H ∧ ∃ Nx : Hp → Prop, (∀ H', Nx H' → ∃ m', m' < m ∧ W (i + 1) m' H') ∧ ∀ x H', J.yld i H x H' → g x (wipe σ vs) H' fun σ2 H2 => wipe σ2 vs = wipe σ vs ∧ tt σ2 H2 fun b H3 =>
        if b = true then te σ2 H3 fun y H4 => ∃ acc, H4 D = some (.lst acc) ∧ acc.length < sizeLine ∧ Nx (upd H4 D (.lst (acc ++ [y]))) else Nx H3) :=
  lc_it w (Out1 H1 D out) (out1_0 hD h0) (fun i H _ h => hG H h.1) (fun i x H H' hi h y => hs i x H H' _ hi h.1 h.2 (out1_put hD (hz i (by omega)) h) (out1_skip h) y) (fun H h => hd H h.1 h.2)
end
/-! the dict forms -/
def PutK1 (D : Addr) (acc acc' : List (Key × V)) (H : Hp) (Nx : Hp → Prop) : Prop := ∀ (k : Key) (z : V) (H5 : Hp), Same H H5 → acc' = putK acc k z → ∃ kvs k', kV k = kV k' ∧ H5 D = some (.dK kvs) ∧ kvs.length < sizeLine ∧ Nx (upd H5 D (.dK (putK kvs k' z)))
def OutK (H1 : Hp) (D : Addr) (out : Nat → List (Key × V)) (i : Nat) (H : Hp) : Prop := Same H1 H ∧ H D = some (.dK (out i))
theorem outK_0 {H1 : Hp} {D : Addr} {out : Nat → List (Key × V)} (hD : H1 D = none) (h0 : out 0 = []) : OutK H1 D out 0 (upd H1 D (.dK [])) :=
  ⟨fun b o hb => by rw [upd_ne (ne_of_none hb hD)]; exact hb, by rw [upd_same, h0]⟩
theorem outK_put {H1 H : Hp} {D : Addr} {out : Nat → List (Key × V)} {i : Nat} (hD : H1 D = none) (hl : (out i).length < sizeLine) (h : OutK H1 D out i H) : PutK1 D (out i) (out (i + 1)) H (OutK H1 D out (i + 1)) := fun k z H5 s e => by
  refine ⟨_, k, rfl, s _ _ h.2, hl, fun b o hb => ?_, ?_⟩
  · rw [upd_ne (ne_of_none hb hD)]
    exact s _ _ (h.1 _ _ hb)
  · rw [upd_same, e]
section
variable {K : PySem.W.Frag} {a : Addr} {xs : List V} {g : TG} {tt : TT} {tk tv : TE} {vs : List Nat} {σ : St} {H1 : Hp} {D : Addr} {Qd : Hp → Prop}
theorem dc_tupO (hD : H1 D = none) (out : Nat → List (Key × V)) (h0 : out 0 = []) (hz : ∀ i, i ≤ xs.length → (out i).length < sizeLine) (hl : ∀ H, Same H1 H → SqT K H a xs)
    (hs : ∀ i x H (Nx : Hp → Prop), xs[i]? = some x → Same H1 H → PutK1 D (out i) (out (i + 1)) H Nx → g x (wipe σ vs) H fun σ2 H2 => wipe σ2 vs = wipe σ vs ∧ tt σ2 H2 fun b H3 =>
      if b = true then tk σ2 H3 fun y H4 => tv σ2 H4 fun z H5 => ∃ kvs k, y = kV k ∧ H5 D = some (.dK kvs) ∧ kvs.length < sizeLine ∧ Nx (upd H5 D (.dK (putK kvs k z))) else Nx H3) (hd : ∀ H, Same H1 H → H D = some (.dK (out xs.length)) → Qd H) :
    ∃ W : Nat → Nat → Hp → Prop, (∃ m, W 0 m (upd H1 D (.dK []))) ∧ ∀ i m H, W i m H →
      ((Itt K a).stop i H ∧ Qd H) ∨ ((Itt K a).go i H ∧ ∃ Nx : Hp → Prop, (∀ H', Nx H' → ∃ m', m' < m ∧ W (i + 1) m' H') ∧ ∀ x H', (Itt K a).yld i H x H' → g x (wipe σ vs) H' fun σ2 H2 => wipe σ2 vs = wipe σ vs ∧ tt σ2 H2 fun b H3 =>
        if b = true then tk σ2 H3 fun y H4 => tv σ2 H4 fun z H5 => ∃ kvs k, y = kV k ∧ H5 D = some (.dK kvs) ∧ kvs.length < sizeLine ∧ Nx (upd H5 D (.dK (putK kvs k z))) else Nx H3) :=
  dc_tup (OutK H1 D out) (outK_0 hD h0) (fun i H _ h => hl H h.1) (fun i x H hx h => hs i x H _ hx h.1 (outK_put hD (hz i (by have := (List.getElem?_eq_some_iff.mp hx).1; omega)) h)) (fun H h => hd H h.1 h.2)
theorem dc_itO {J : It} {n : Nat} {G : Hp → Prop} {Y : Nat → Hp → V → Hp → Prop} (w : Walk J n G Y) (hD : H1 D = none) (out : Nat → List (Key × V)) (h0 : out 0 = []) (hz : ∀ i, i ≤ n → (out i).length < sizeLine) (hG : ∀ H, Same H1 H → G H)
    (hs : ∀ i x H H' (Nx : Hp → Prop), i < n → Same H1 H → H D = some (.dK (out i)) → PutK1 D (out i) (out (i + 1)) H Nx → Y i H x H' → g x (wipe σ vs) H' fun σ2 H2 => wipe σ2 vs = wipe σ vs ∧ tt σ2 H2 fun b H3 =>
      if b = true then tk σ2 H3 fun y H4 => tv σ2 H4 fun z H5 => ∃ kvs k, y = kV k ∧ H5 D = some (.dK kvs) ∧ kvs.length < sizeLine ∧ Nx (upd H5 D (.dK (putK kvs k z))) else Nx H3) (hd : ∀ H, Same H1 H → H D = some (.dK (out n)) → Qd H) :
    ∃ W : Nat → Nat → Hp → Prop, (∃ m, W 0 m (upd H1 D (.dK []))) ∧ ∀ i m H, W i m H →
      (J.stop i H ∧ Qd H) ∨ (J.go i H ∧ ∃ Nx : Hp → Prop, (∀ H', Nx H' → ∃ m', m' < m ∧ W (i + 1) m' H') ∧ ∀ x H', J.yld i H x H' → g x (wipe σ vs) H' fun σ2 H2 => wipe σ2 vs = wipe σ vs ∧ tt σ2 H2 fun b H3 =>
        if b = true then tk σ2 H3 fun y H4 => tv σ2 H4 fun z H5 => ∃ kvs k, y = kV k ∧ H5 D = some (.dK kvs) ∧ kvs.length < sizeLine ∧ Nx (upd H5 D (.dK (putK kvs k z))) else Nx H3) :=
  dc_it w (OutK H1 D out) (outK_0 hD h0) (fun i H _ h => hG H h.1) (fun i x H H' hi h y => hs i x H H' _ hi h.1 h.2 (outK_put hD (hz i (by omega)) h) y) (fun H h => hd H h.1 h.2)
end
end L2
namespace K0
open PySem PySem.Spec PyProof.Rows L2
/-- a dict from names to tuples of names -/
structure TupsR (H : Hp) (c : Addr) (ns : List Str) (g : Str → List Str) : Prop where
  ex : ∃ ta : Str → Addr, H c = some (.dK (kmap (fun y => .ref (ta y)) ns)) ∧ ∀ y ∈ ns, TxR H (ta y) (g y)
theorem TupsR.same {H H' : Hp} {c : Addr} {ns : List Str} {g : Str → List Str} (t : TupsR H c ns g) (s : Same H H') : TupsR H' c ns g := by
  obtain ⟨ta, q1, q2⟩ := t.ex
  exact ⟨ta, s _ _ q1, fun x hx => (q2 x hx).same s⟩
theorem TxR.upd {H : Hp} {t D : Addr} {l : List Str} {u : HO} (h : TxR H t l) (n : t ≠ D) : TxR (upd H D u) t l := by
  rcases h with e | ⟨o, e⟩
  · exact .inl (by rw [upd_ne n]; exact e)
  · exact .inr ⟨o, by rw [upd_ne n]; exact e⟩
theorem TxR.ne {H : Hp} {t D : Addr} {l : List Str} {kvs : List (Key × V)} (h : TxR H t l) (e : H D = some (.dK kvs)) : t ≠ D := by
  rintro rfl
  rcases h with e2 | ⟨o, e2⟩
  · rw [e] at e2
    cases e2
  · rw [e] at e2
    cases e2
theorem tupsR_more {H : Hp} {D t : Addr} {ns : List Str} {g : Str → List Str} {x : Str} (T : TupsR H D ns g) (hx : x ∉ ns) (ht : TxR H t (g x)) :
    ∃ kvs, H D = some (.dK kvs) ∧ kvs.length = ns.length ∧ TupsR (upd H D (.dK (putK kvs (Sum.inr x) (.ref t)))) D (ns ++ [x]) g := by
  obtain ⟨ta, h1, h2⟩ := T.ex
  refine ⟨_, h1, kmap_len _ _, fun y => if y = x then t else ta y, ?_, fun y hy => ?_⟩
  · rw [upd_same]
    have e1 : kmap (fun y => V.ref (ta y)) ns = kmap (fun y => V.ref (if y = x then t else ta y)) ns := kmap_congr fun y hy => by
      rw [if_neg (fun e => hx (by rw [← e]; exact hy))]
    have e2 : V.ref t = (fun y => V.ref (if y = x then t else ta y)) x := by
      show V.ref t = V.ref (if x = x then t else ta x)
      rw [if_pos rfl]
    rw [e1, e2, kmap_put hx]
  · show TxR _ (if y = x then t else ta y) (g y)
    by_cases e : y = x
    · rw [if_pos e, e]
      exact ht.upd (ht.ne h1)
    · rw [if_neg e]
      have hy' : y ∈ ns := (List.mem_append.mp hy).resolve_right fun z => e (List.mem_singleton.mp z)
      have := h2 y hy'
      exact this.upd (this.ne h1)
/-- a dict comprehension from names to tuples of names -/
theorem dc_itT {J : It} {ns : List Str} {gg : Str → List Str} {G : Hp → Prop} {Y : Nat → Hp → V → Hp → Prop} (w : Walk J ns.length G Y) {g : TG} {tt : TT} {tk tv : TE} {vs : List Nat} {σ : L2.St} {H1 : Hp} {D : Addr} {Qd : Hp → Prop} (hnd : ns.Nodup) (hD : H1 D = none) (hz : ns.length ≤ 900) (hG : ∀ H, Same H1 H → G H)
    (hs : ∀ i x y H H' (Nx : Hp → Prop), ns[i]? = some y → Same H1 H → (∀ t H5, Same H H5 → TxR H5 t (gg y) → ∃ kvs k', V.str y = kV k' ∧ H5 D = some (.dK kvs) ∧ kvs.length < sizeLine ∧ Nx (upd H5 D (.dK (putK kvs k' (.ref t))))) → Y i H x H' → g x (wipe σ vs) H' fun σ2 H2 => wipe σ2 vs = wipe σ vs ∧ tt σ2 H2 fun b H3 =>
      if b = true then tk σ2 H3 fun y H4 => tv σ2 H4 fun z H5 => ∃ kvs k, y = kV k ∧ H5 D = some (.dK kvs) ∧ kvs.length < sizeLine ∧ Nx (upd H5 D (.dK (putK kvs k z))) else Nx H3) (hd : ∀ H, Same H1 H → TupsR H D ns gg → Qd H) :
    ∃ W : Nat → Nat → Hp → Prop, (∃ m, W 0 m (upd H1 D (.dK []))) ∧ ∀ i m H, W i m H →
      (J.stop i H ∧ Qd H) ∨ (J.go i H ∧ ∃ Nx : Hp → Prop, (∀ H', Nx H' → ∃ m', m' < m ∧ W (i + 1) m' H') ∧ ∀ x H', J.yld i H x H' → g x (wipe σ vs) H' fun σ2 H2 => wipe σ2 vs = wipe σ vs ∧ tt σ2 H2 fun b H3 =>
        if b = true then tk σ2 H3 fun y H4 => tv σ2 H4 fun z H5 => ∃ kvs k, y = kV k ∧ H5 D = some (.dK kvs) ∧ kvs.length < sizeLine ∧ Nx (upd H5 D (.dK (putK kvs k z))) else Nx H3) := by
  refine dc_it w (fun i H => Same H1 H ∧ TupsR H D (ns.take i) gg) ⟨same_upd hD, ⟨fun _ => 0, by rw [upd_same, List.take_zero]; rfl, fun y hy => by rw [List.take_zero] at hy; cases hy⟩⟩ (fun i H _ h => hG H h.1) (fun i x H H' hi h y => ?_) (fun H h => hd H h.1 (by have := h.2; rw [List.take_length] at this; exact this))
  have hy : ns[i]? = some ns[i] := List.getElem?_eq_getElem hi
  refine hs i x ns[i] H H' _ hy h.1 (fun t H5 s ht => ?_) y
  have hn := nodup_take hnd hy
  obtain ⟨kvs, e1, e2, e3⟩ := tupsR_more (h.2.same s) hn ht
  refine ⟨kvs, Sum.inr ns[i], rfl, e1, ?_, fun b o hb => ?_, ?_⟩
  · rw [e2, List.length_take]
    exact small1000 (by omega)
  · rw [upd_ne (ne_of_none hb hD)]
    exact s _ _ (h.1 _ _ hb)
  · rw [List.take_add_one, hy]
    exact e3
theorem take_map1 {α β : Type} {l : List α} {f : α → β} {i : Nat} {x : α} (h : l[i]? = some x) : (l.take (i + 1)).map f = (l.take i).map f ++ [f x] := by
  rw [List.take_add_one, h, List.map_append]
  rfl
theorem filt_take {α : Type} {p : α → Bool} {l : List α} {i : Nat} {x : α} (h : l[i]? = some x) : (l.take (i + 1)).filter p = (l.take i).filter p ++ (if p x = true then [x] else []) := by
  rw [List.take_add_one, h, List.filter_append]
  congr 1
  by_cases hp : p x = true
  · rw [if_pos hp, Option.toList_some, List.filter_cons_of_pos hp]
    rfl
  · rw [if_neg hp, Option.toList_some, List.filter_cons_of_neg hp]
    rfl
theorem take_size {α β : Type} {l : List α} {f : α → β} (h : l.length ≤ 900) : ∀ i : Nat, i ≤ (l.map f).length → ((l.take i).map f).length < sizeLine := fun i hi => by
  rw [List.length_map, List.length_take]
  exact small1000 (by omega)
theorem filt_size {α β : Type} {l : List α} {p : α → Bool} {f : α → β} (h : l.length ≤ 900) : ∀ i : Nat, (((l.take i).filter p).map f).length < sizeLine := fun i => by
  have := List.length_filter_le p (l.take i)
  rw [List.length_take] at this
  rw [List.length_map]
  exact small1000 (by omega)
end K0
end
section
set_option Elab.async false
set_option linter.all false
set_option maxRecDepth 100000
set_option maxHeartbeats 1000000
namespace L2
open PySem PySem.Spec PyProof.Rows PySem.Calls
/-! ### enumerate(tuple) -/
def IteT (K : PySem.W.Frag) (a : Addr) : It :=
  ⟨fun i H => ∃ (xs : List V) (x : V), SqT K H a xs ∧ xs[i]? = some x, fun i H v H' => ∃ T x, v = .ref T ∧ H T = none ∧ H' = upd H T (.tup [.int (i : Nat), x]) ∧ ∀ xs, SqT K H a xs → xs[i]? = some x, fun i H => ∃ xs : List V, SqT K H a xs ∧ xs.length ≤ i⟩
theorem turn_enumT {P : Program} {w : World} {K : PySem.W.Frag} {elts : List Expr} {kk : Nat} {tpos : Pos} (a e it : Addr) :
    Turn P w K (.Tuple elts kk tpos) (IteT K a) [e, it] e (fun i h => (∃ old, IsEnum h e it ((i : Nat) : Int) old) ∧ h.IsTupleIter it a i ∧ e ≠ it) where
  mem := by simp
  obj := fun i h st b hb => by
    obtain ⟨⟨old, he⟩, ⟨o, ho, hc, hd⟩, _⟩ := st
    have e' : b = e ∨ b = it := by simpa using hb
    rcases e' with z | z
    · rw [z]; exact ⟨_, he, fun v q => nomatch q⟩
    · rw [z]; exact ⟨o, ho, fun v q => by rw [hd] at q; cases q⟩
  keep := fun i h h' st k => let ⟨⟨old, he⟩, hi, hne⟩ := st; ⟨⟨old, k e (by simp) _ he⟩, hi.at fun o q => k it (by simp) o q, hne⟩
  item := by
    intro X hP hw hK hc i pins s σ H E I hf st hg
    subst hP hw hK
    obtain ⟨⟨old, he⟩, hit, hne⟩ := st
    obtain ⟨xs, x, hq, hx⟩ := hg
    obtain ⟨its, rv, p, hz⟩ := I.tuple hq
    have p : s.heap.IsTuple a its.toArray := p
    obtain ⟨u, hu, ru⟩ := rv.get hx
    have hel : e < s.heap.objs.size := Heap.lt_size he
    have hil : it < s.heap.objs.size := by obtain ⟨_, q, _⟩ := hit; exact Heap.lt_size q
    obtain ⟨ot, hot, hct, hdt⟩ := id p
    have hea : e ≠ a := fun z => by
      have q := he
      unfold IsEnum at q
      rw [z, hot] at q
      rw [Option.some.inj q] at hct
      injection hct with c1
      exact absurd c1 (by decide)
    have hia : a ≠ it := fun z => by
      obtain ⟨o', q, q2, _⟩ := id hit
      rw [← z, hot] at q
      rw [← Option.some.inj q, hct] at q2
      injection q2 with c1
      exact absurd c1 (by decide)
    refine wpAny_pyNext_enum_itemD (Draws.tuple (A := X.A.in1) (show X.A.in1.handled = none from I.ok.hd hc) it a hia its.toArray) he ⟨hit, p⟩ (by
      have := (List.getElem?_eq_some_iff.mp hu).1
      simpa using this) hne (by simp [hne, hea]) fun x' h' tk hP ho hit' hT hsz' hk => ?_
    obtain rfl : u = x' := by
      have q : its.toArray[i]? = some x' := hP
      rw [List.getElem?_toArray, hu] at q
      exact Option.some.inj q
    refine ⟨_, rfl, wpAny_letOwnedTupleGo_enum (s := { s with heap := h', toks := tk + 1 }) ho fun h'' he' sb => ?_⟩
    have hT2 : h''.get? s.heap.objs.size = some { cls := .type "tuple", data := .seq #[.int i tk, u] } := (sb.2 _ (Nat.ne_of_gt hel)).trans hT
    have new : ObjOk X.prog X.w (upd H s.heap.objs.size (.tup [.int (i : Nat), x])) h'' s.heap.objs.size (.tup [.int (i : Nat), x]) :=
      ⟨by show 2 ≤ sizeLine; decide, [.int i tk, u], .cons ⟨_, rfl⟩ (.cons ru .nil), ⟨_, hT2, rfl, _, rfl⟩⟩
    have I1 : Inv X pins σ (upd H s.heap.objs.size (.tup [.int (i : Nat), x])) { s with heap := h'', toks := tk + 1 } :=
      I.turnedNew (ch := [e, it]) (fun b ob hb q => (sb.2 b (fun z => hb (by simp [z]))).trans (hk b ob (fun z => hb (by simp [z])) (fun z => hb (by simp [z])) q)) hf (Nat.le_refl _) new
    refine ⟨.ref s.heap.objs.size, _, I1, rfl, ⟨_, x, rfl, I.hok.fresh (Nat.le_refl _), rfl, fun ys hy => by rw [I.tuple_inj hy hq]; exact hx⟩, ⟨⟨u, ?_⟩, hit'.1.at fun o q => (sb.2 it (Ne.symm hne)).trans q, hne⟩, fun b hb => ?_⟩
    · have e1 : ((i + 1 : Nat) : Int) = (i : Int) + 1 := by omega
      rw [e1]; exact he'
    · have hb' : b < s.heap.objs.size := by
        have e' : b = e ∨ b = it := by simpa using hb
        rcases e' with z | z
        · rw [z]; exact hel
        · rw [z]; exact hil
      rw [upd_ne (Nat.ne_of_lt hb')]
      exact (hf b hb).1
  done := by
    intro X hP hw hK hc i pins s σ H E I hf st hg
    subst hP hw hK
    obtain ⟨⟨old, he⟩, hit, hne⟩ := st
    obtain ⟨xs, hq, hx⟩ := hg
    obtain ⟨its, rv, p, hz⟩ := I.tuple hq
    have p : s.heap.IsTuple a its.toArray := p
    obtain ⟨f0, f1, f2, f3, f4, f5⟩ := hf it (by simp)
    have hl := rv.length
    have hT : s.TypeIs (.ref e) "enumerate" := ⟨_, he, rfl⟩
    unfold pyNext
    refine wpAny_bind (wpAny_attempt (wpAny_callSpecial?_slot (name := Str.ofString "__next__") hT F.slot_enumerate_next
      (wpAny_call_entry F.slot_enumerate_next hT F.entry_enumerate_next ?_ (F.args_enumerate_next_1 _))))
    show wpAny _ _ (field (.ref e) 2 >>= _) _ _ _
    refine wpAny_bind (wpAny_field he rfl (x := .ref it) rfl ?_)
    refine wpAny_bind (wpAny_nextOf_tuple_end (I.ok.hd hc) hit p (by simp; omega) fun h' x he' hx' => ?_)
    obtain ⟨o', ho, hc'⟩ := hx'
    refine wpAny_bind (wpAny_isInstance (T := "StopIteration") (b := true) ⟨o', ho, hc'⟩ isSubtype_stop ?_)
    exact wpAny_pure ⟨rfl, I.turned (t' := s.toks) (fun b ob hb q => he' b ob hb q) f0 f1 f3 f4 f5⟩
  self := fun A i s Q E st h => let ⟨⟨_, he⟩, _⟩ := st; wpAny_pyIter_enum he h
def iEnumT (K : PySem.W.Frag) (ta : TA) : TI := fun σ H R => ta σ H fun vs H1 => ∃ a xs, vs = [.ref a] ∧ SqT K H1 a xs ∧ R (IteT K a) H1
theorem pi_enumT {X : Cx} {e : Expr} {ta : TA} {p pos tpos : Pos} {elts : List Expr} {kk : Nat} (hg : Gl X "enumerate") (hm : X.mg "enumerate" = none) (ha : PA X [e] ta) (hs : starEach [e] X.env = [(false, eval e X.env)] := by rfl) :
    PI X (.Tuple elts kk tpos) (.Call (.Name "enumerate" p) [e] [] pos) (iEnumT X.K ta) := by
  refine ⟨fun pins s σ H R I h => ?_⟩
  refine Call_ (ld_blt I hg hm boot_enumerate (PyProof.Rows.callWith_type1 (thn (ha.run pos pins s σ H _ I h) fun us s1 ⟨vs, H1, I1, r1, q1⟩ => ?_) hs rfl))
  obtain ⟨a, xs, ex, hq, q⟩ := q1
  subst ex
  cases r1 with
  | cons r rr =>
    cases rr
    cases r
    obtain ⟨its, rv, p', hz⟩ := I1.tuple hq
    refine k0_enum_call (begins_tuple a its.toArray) p' fun h' he hit hsz' hk => wpAny_pyIter_enum he ?_
    have I2 : Inv X pins σ H1 { s1 with heap := h' } := I1.kept (t' := s1.toks) hk
    refine ⟨s1.heap.objs.size + 1, [s1.heap.objs.size + 1, s1.heap.objs.size], _, _, H1, rfl, I2, turn_enumT a (s1.heap.objs.size + 1) s1.heap.objs.size, ⟨⟨.none, he⟩, ⟨_, hit, rfl, rfl⟩, Nat.succ_ne_self _⟩, fun b hb => ?_, q⟩
    have e' : b = s1.heap.objs.size + 1 ∨ b = s1.heap.objs.size := by simpa using hb
    have hle : s1.heap.objs.size ≤ b := by
      rcases e' with z | z
      · rw [z]; exact Nat.le_add_right _ _
      · rw [z]; exact Nat.le_refl _
    exact I1.fpOk hle (I1.hok.fresh hle)
theorem walk_enumT {K : PySem.W.Frag} {a : Addr} {xs : List V} : Walk (IteT K a) xs.length (fun H => SqT K H a xs) (YPair (fun i => some (.int (i : Nat))) (fun i => xs[i]?)) := by
  refine ⟨fun i _ hi q => ⟨xs, xs[i], q, by simp [hi]⟩, fun _ q => ⟨xs, q, Nat.le_refl _⟩, fun i H v H' _ q y => ?_⟩
  obtain ⟨T, x, h1, h2, h3, h4⟩ := y
  exact ⟨T, .int (i : Nat), x, h1, h2, h3, rfl, h4 xs q⟩
end L2
end
section
set_option Elab.async false
set_option linter.all false
set_option maxRecDepth 100000
set_option maxHeartbeats 4000000
namespace K0
open PySem PySem.Spec PyProof.Rows L2
/-! ### the rows of rights -/
structure BRows (H : Hp) (l : Addr) (BR : List (Addr × RRow)) : Prop where
  lst : H l = some (.lst (BR.map fun q => V.ref q.1))
  tup : ∀ q ∈ BR, H q.1 = some (.tup [.str q.2.1, .str q.2.2.1, .str q.2.2.2])
abbrev bOf (BR : List (Addr × RRow)) : List RRow := BR.map (·.2)
theorem BRows.same {H H' : Hp} {l : Addr} {BR : List (Addr × RRow)} (r : BRows H l BR) (s : Same H H') : BRows H' l BR := ⟨s _ _ r.lst, fun q hq => s _ _ (r.tup q hq)⟩
theorem brow_at {BR : List (Addr × RRow)} {i : Nat} {x : V} (e : (BR.map fun q => V.ref q.1)[i]? = some x) (hi : i < BR.length) : x = .ref BR[i].1 := by
  rw [List.getElem?_map, List.getElem?_eq_getElem hi] at e
  exact (Option.some.inj e).symm
theorem brow_nm {BR : List (Addr × RRow)} {i : Nat} (hi : i < BR.length) : (rnm (bOf BR))[i]? = some BR[i].2.1 := by
  rw [List.getElem?_map, List.getElem?_map, List.getElem?_eq_getElem hi]
  rfl
theorem riv_upto {Cr : Addr} {H H' : Hp} {p q : Addr} {AR : List (Addr × Row)} (u : Upto p H H') (hp : ∃ C dx fs, H p = some (.ins C dx fs)) (n : q ≠ p) (r : RivAt Cr H q AR) : RivAt Cr H' q AR := by
  obtain ⟨C, dx, fs, hp⟩ := hp
  have kp : ∀ {a : Addr} {o : HO}, H a = some o → (∀ z1 z2 z3, o ≠ .ins z1 z2 z3) → H' a = some o := fun e h => u _ _ e (ne_of e hp (h _ _ _))
  obtain ⟨dx, tw, tr, db, dc, da, du, o, h1, h2, h3, h4, h5, h6, h7, h8, h9⟩ := r.ex
  have tp : ∀ {c : Addr} {ns : List Str} {g : Str → List Str}, TupsAt H c ns g → TupsAt H' c ns g := fun t => by
    obtain ⟨ta, q1, q2⟩ := t.ex
    exact ⟨ta, kp q1 (fun _ _ _ z => by cases z), fun x hx => (q2 x hx).to fun u e _ _ _ h _ => kp e h⟩
  exact ⟨dx, tw, tr, db, dc, da, du, o, u _ _ h1 n, kp h2 (fun _ _ _ z => by cases z), kp h3 (fun _ _ _ z => by cases z), fun z hz => kp (h4 z hz) (fun _ _ _ z => by cases z), kp h5 (fun _ _ _ z => by cases z), tp h6, tp h7, tp h8, h9.to fun _ e => kp e (fun _ _ _ z => by cases z)⟩
theorem txr_upto {H H' : Hp} {p t : Addr} {l : List Str} (u : Upto p H H') (hp : ∃ C dx fs, H p = some (.ins C dx fs)) (h : TxR H t l) : TxR H' t l := by
  obtain ⟨C, dx, fs, hp⟩ := hp
  rcases h with e | ⟨o, e⟩
  · exact .inl (u _ _ e (ne_of e hp (fun z => by cases z)))
  · exact .inr ⟨o, u _ _ e (ne_of e hp (fun z => by cases z))⟩
theorem tupsR_upto {H H' : Hp} {p c : Addr} {ns : List Str} {g : Str → List Str} (u : Upto p H H') (hp : ∃ C dx fs, H p = some (.ins C dx fs)) (t : TupsR H c ns g) : TupsR H' c ns g := by
  obtain ⟨ta, q1, q2⟩ := t.ex
  obtain ⟨C, dx, fs, hp2⟩ := id hp
  exact ⟨ta, u _ _ q1 (ne_of q1 hp2 (fun z => by cases z)), fun x hx => txr_upto u hp (q2 x hx)⟩
abbrev scIsRowR_N : List Str := ["river", "entry"]
theorem scIsRowR : FnScope scIsRowR_N ["river", "entry"] (defScope sIsRowR) := ⟨rfl, rfl, rfl, by decide +kernel, rfl, by decide +kernel, by decide +kernel⟩
def spIsRowR (Cr : Addr) : Sp := fun vs H Q _ => ∃ (q t : Addr) (r : RRow) (AR : List (Addr × Row)), vs = [.ref q, .ref t] ∧ RivAt Cr H q AR ∧ H t = some (.tup [.str r.1, .str r.2.1, .str r.2.2]) ∧ NameOk r.1 ∧ r.2.1 ∈ namesOf AR ∧ (r.2.2 = "sea" ∨ r.2.2 ∈ namesOf AR) ∧ ∀ H', Same H H' → Q (.bl true) H'
abbrev scNeedRowsR_N : List Str := ["river", "rows", "names", "place", "entry", "_", "intake", "last"]
theorem scNeedRowsR : FnScope scNeedRowsR_N ["river", "rows"] (defScope sNeedRowsR) := ⟨rfl, rfl, rfl, by decide +kernel, rfl, by decide +kernel, by decide +kernel⟩
def spNeedRowsR (Cr : Addr) : Sp := fun vs H Q _ => ∃ (q l : Addr) (AR : List (Addr × Row)) (BR : List (Addr × RRow)), vs = [.ref q, .ref l] ∧ RivAt Cr H q AR ∧ GoodRows (rowsOf AR) ∧ BRows H l BR ∧ RtOk (rowsOf AR) (bOf BR) ∧ ∀ H', Same H H' → Q .non H'
section
variable {P : Program} {w : World} {K : PySem.W.Frag} {mg : Str → Option Value} {base : Heap} {tS tM tL : Tok}
theorem ok_isrowR {f fN Cr : Addr} {fd fdN : FuncData} (F : FnP K "_is_row" sIsRowR f fd) (F_is_name : FnP K "is_name" sIsName fN fdN) (gis_name : mg "is_name" = some (.ref fN)) (M : Sc K Cr) (T : Rv K mg Cr) (B : Bl mg) (C : Gc mg tS tM tL) : FnOk P w K mg base CX0 2 f fd ["river", "entry"] (spIsRowR Cr) := by
  obtain ⟨fC, fdC, FC, hs, hf⟩ := M.has
  have GC : FnOk P w K mg base CX0 1 fC fdC ["self", "x"] (spHas (GHasS Cr)) := ok_containsS FC T B
  have bC : Binds K fdC ["self", "x"] [] := FC.bindsN fun _ _ _ _ _ _ us hl => match us, hl with | [_, _], _ => rfl
  have Gis_name : FnOk P w K mg base CX0 1 fN fdN ["value"] spIsName := ok_isname F_is_name B C
  have bis_name : Binds K fdN ["value"] [] := F_is_name.bindsN fun _ _ _ _ _ _ us hl => match us, hl with | [_], _ => rfl
  refine F.ok scIsRowR (fun vs H Q E h => ?_) (fun cdv A outer s H vs Q E hr h => ?_)
  · obtain ⟨q, t, r, AR, rfl, _⟩ := h
    rfl
  · obtain ⟨q, t, r, AR, rfl, R, ht, h1, h2, h3, k⟩ := h
    have hris_name : Room 1 _ := hr
    have Fis_name := F_is_name
    refine ⟨_, PSs.nox (pss_cons
      (ps_if (PW.pt (pw_or (pt_not (pt_val (pe_callB call_isi (by rfl) B.isinstance (by decide +kernel) (pa_cons (pv 1) (pa_cons (pe_bltn (v := .ty "tuple") (by rfl) B.tuple (by decide +kernel) rfl) pa_nil))))) (pw_or1 (pt_cmpR op_ne (pe_callB (lenK (K := K)) (by rfl) B.len PySem.boot_len (pa_cons (pv 1) pa_nil)) pe_int (nomark _))))) (pss_one
      (ps_ret pe_bl)) pss_nil)
      (pss_one
      (ps_ret (pe_and (pe_call Gis_name hris_name (by rfl) gis_name Fis_name.kp bis_name .nil pass0 (pa_cons (pe_ix (ixTK (K := K)) (pv 1) pe_int (fun _ _ => rfl)) pa_nil)) (pe_and (pe_cmpR (k0_in_own (K := K) GC hr hs hf bC) (pe_ix (ixTK (K := K)) (pv 1) pe_int (fun _ _ => rfl)) (pv 0) (by rfl)) (pe_one (pe_or (pe_cmpR op_eq (pe_ix (ixTK (K := K)) (pv 1) pe_int (fun _ _ => rfl)) (pe_glob (v := .str "sea") (by rfl) C.SEA ⟨_, rfl⟩) (nomark _)) (pe_one (pe_cmpR (k0_in_own (K := K) GC hr hs hf bC) (pe_ix (ixTK (K := K)) (pv 1) pe_int (fun _ _ => rfl)) (pv 0) (by rfl)))))))))), ?_⟩
    have g : ∀ H', Same H H' → SqT K H' t [.str r.1, .str r.2.1, .str r.2.2] := fun H' s => .inl (.inl (s _ _ ht))
    refine ⟨_, rfl, .ref t, .ty "tuple", _, _, true, rfl, .ty "tuple", .base (.tup ht), kit_ty (by decide +kernel), _, rfl, ?_⟩
    refine iteF ?_
    refine ⟨_, rfl, t, _, rfl, .inr (g _ (.refl _)), rfl, _, rfl, ?_⟩
    refine iteNS rfl ?_
    refine ⟨_, rfl, t, _, _, _, rfl, rfl, g _ (.refl _), atI_nat (j := 0) rfl, r.1, rfl, h1, fun H1 s1 => ⟨_, rfl, iteT ?_⟩⟩
    have R1 := Same.riv s1 R
    obtain ⟨dx, tw, tr, db, dc, da, du, o, i1, _⟩ := id R1.ex
    refine ⟨_, rfl, t, _, _, _, rfl, rfl, g _ s1, atI_nat (j := 1) rfl, _, rfl, q, dx, _, true, rfl, i1, ⟨AR, r.2.1, R1, rfl, (decide_eq_true h2).symm⟩, _, rfl, iteT ?_⟩
    refine ⟨_, rfl, t, _, _, _, rfl, rfl, g _ s1, atI_nat (j := 2) rfl, rfl, ?_⟩
    by_cases e : r.2.2 = "sea"
    · rw [e, decide_eq_true rfl]
      exact ⟨_, rfl, iteT (k H1 s1)⟩
    · rw [decide_eq_false (fun z => e (V.str.inj z))]
      refine ⟨_, rfl, iteF ?_⟩
      refine ⟨_, rfl, t, _, _, _, rfl, rfl, g _ s1, atI_nat (j := 2) rfl, _, rfl, q, dx, _, true, rfl, i1, ⟨AR, r.2.2, R1, rfl, (decide_eq_true (h3.resolve_left e)).symm⟩, ?_⟩
      exact k H1 s1
theorem ok_needrowsR {f fN fR fI Cr : Addr} {fd fdN fdR fdI : FuncData} (F : FnP K "_need_rows" sNeedRowsR f fd) (F_is_name : FnP K "is_name" sIsName fN fdN) (gis_name : mg "is_name" = some (.ref fN))
    (F_is_rowR : FnP K "_is_row" sIsRowR fR fdR) (g_is_rowR : mg "is_row_rights" = some (.ref fR)) (Fis_down : FnM K "is_down" "River.is_down" sIsDown fI fdI) (Mis_down : Meth K Cr "is_down" fI) (D : NdS P w K mg base Cr) (M : Sc K Cr) (T : Rv K mg Cr) (B : Bl mg) (C : Gc mg tS tM tL) :
    FnOk P w K mg base CX0 4 f fd ["river", "rows"] (spNeedRowsR Cr) := by
  have G_is_rowR : FnOk P w K mg base CX0 2 fR fdR ["river", "entry"] (spIsRowR Cr) := ok_isrowR F_is_rowR F_is_name gis_name M T B C
  have b_is_rowR : Binds K fdR ["river", "entry"] [] := F_is_rowR.bindsN fun _ _ _ _ _ _ us hl => match us, hl with | [_, _], _ => rfl
  have Gis_down : FnOk P w K mg base CX0 3 fI fdI ["self", "high", "low"] (spDownS Cr) := ok_isdownS Fis_down D T
  have bis_down : Binds K fdI ["self", "high", "low"] [] := Fis_down.bindsN fun _ _ _ _ _ _ us hl => match us, hl with | [_, _, _], _ => rfl
  refine F.ok scNeedRowsR (fun vs H Q E h => ?_) (fun cdv A outer s H vs Q E hr h => ?_)
  · obtain ⟨q, l, AR, BR, rfl, _⟩ := h
    rfl
  · obtain ⟨q, l, AR, BR, rfl, R, hG, hR, hB, k⟩ := h
    have hu := hu_of hr
    have hr_is_rowR : Room 2 _ := hr.mono (by decide)
    have hris_down : Room 3 _ := hr
    refine ⟨_, PSs.nox (pss_cons
      (ps_if (PW.pt (pw_or (pt_not (pt_val (pe_callB call_isi (by rfl) B.isinstance (by decide +kernel) (pa_cons (pv 1) (pa_cons (pe_bltn (v := .ty "list") (by rfl) B.list (by decide +kernel) rfl) pa_nil))))) (pw_or1 (pt_cmpR op_gt (pe_callB (lenK (K := K)) (by rfl) B.len PySem.boot_len (pa_cons (pv 1) pa_nil)) (pe_glob (v := .int 40) (by rfl) C.MOST_ROWS ⟨_, rfl⟩) (nomark _))))) (pss_one
      ps_never) pss_nil)
      (pss_cons
      (ps_set (i := 2) scNeedRowsR.nd rfl (Or.inl rfl) pe_dnewK)
      (pss_cons
      (ps_for PassesOwn.never rfl (pi_enum (by rfl) B.enumerate (pa_cons (pv 1) pa_nil)) (tgK (K := K) (n := 2) (by rfl) (pgs_cons (pg_name (i := 3) scNeedRowsR.nd rfl (Or.inl rfl)) (pgs_cons (pg_name (i := 4) scNeedRowsR.nd rfl (Or.inl rfl)) pgs_nil))) (pss_cons
      (ps_if (PW.pt (pw_or (pt_not (pt_val (pe_call G_is_rowR hr_is_rowR (by rfl) g_is_rowR F_is_rowR.kp b_is_rowR .nil pass0 (pa_cons (pv 0) (pa_cons (pv 4) pa_nil))))) (pw_or1 (pt_cmp (pc_din hu (pe_ix (ixTK (K := K)) (pv 4) pe_int (fun _ _ => rfl)) (pv 2)))))) (pss_one
      ps_never) pss_nil)
      (pss_one
      (ps_dput hu (pv 2) (pe_ix (ixTK (K := K)) (pv 4) pe_int (fun _ _ => rfl)) pe_bl rfl))))
      (pss_one
      (ps_for PassesOwn.never rfl (pi_enum (by rfl) B.enumerate (pa_cons (pv 1) pa_nil)) (tgK (K := K) (n := 2) (by rfl) (pgs_cons (pg_name (i := 3) scNeedRowsR.nd rfl (Or.inl rfl)) (pgs_cons (tgK (K := K) (n := 3) (by rfl) (pgs_cons (pg_name (i := 5) scNeedRowsR.nd rfl (Or.inl rfl)) (pgs_cons (pg_name (i := 6) scNeedRowsR.nd rfl (Or.inl rfl)) (pgs_cons (pg_name (i := 7) scNeedRowsR.nd rfl (Or.inl rfl)) pgs_nil)))) pgs_nil))) (pss_one
      (ps_if (PW.pt (pw_and (pt_cmpR op_ne (pv 7) (pe_glob (v := .str "sea") (by rfl) C.SEA ⟨_, rfl⟩) (nomark _)) (pw_and1 (pt_not (pt_val (pe_meth (pv 0) T.cl Mis_down Gis_down hris_down bis_down .nil pass0 (pa_cons (pv 6) (pa_cons (pv 7) pa_nil)))))))) (pss_one
      ps_never) pss_nil))))))), ?_⟩
    refine ⟨_, rfl, .ref l, .ty "list", _, _, true, rfl, .ty "list", .base (.lst hR.lst), kit_ty (by decide +kernel), _, rfl, ?_⟩
    refine iteF ?_
    have hm := hB.most
    have hlb : (bOf BR).length = BR.length := List.length_map _
    have hnd := hB.nd
    refine ⟨_, rfl, l, _, rfl, .inl (.inl (.inl hR.lst)), _, _, rfl, rfl, _, rfl, ?_⟩
    refine iteDn (by rw [List.length_map]; omega) ?_
    intro D hD
    have s0 : Same H (upd H D (.dK [])) := same_upd hD
    refine ⟨_, rfl, l, _, rfl, s0.seq (.inl (.inl hR.lst)), ?_⟩
    refine for_it (walk_enum (xs := BR.map fun q => V.ref q.1)) (fun i σ H2 => ∃ (v3 v4 v5 v6 v7 : Option V), σ = [some (.ref q), some (.ref l), some (.ref D), v3, v4, v5, v6, v7] ∧ Same H H2 ∧ H2 D = some (.dK (kmap (fun _ => .bl true) ((rnm (bOf BR)).take i))))
      ⟨_, _, _, _, _, rfl, s0, by rw [upd_same, List.take_zero]; rfl⟩ (fun _ _ _ _ h => by obtain ⟨_, _, _, _, _, _, s, _⟩ := h; exact s.seq (.inl (.inl hR.lst))) ?_ ?_
    · rintro i x σ H2 H3 hi ⟨v3, v4, v5, v6, v7, rfl, s2, hD2⟩ ⟨Tt, x1, x2, rfl, hT, rfl, e1, e2⟩
      rw [List.length_map] at hi
      have hx1 : x1 = .int (i : Int) := (Option.some.inj e1).symm
      subst hx1
      have hx2 : x2 = .ref BR[i].1 := brow_at e2 hi
      subst hx2
      have hmem : BR[i] ∈ BR := List.getElem_mem hi
      have hrow : BR[i].2 ∈ bOf BR := List.mem_map.mpr ⟨_, hmem, rfl⟩
      have s3 : Same H (upd H2 Tt (.tup [.int (i : Int), .ref BR[i].1])) := s2.trans (same_upd hT)
      have hD3 : (upd H2 Tt (.tup [.int (i : Int), .ref BR[i].1])) D = some (.dK (kmap (fun _ => .bl true) ((rnm (bOf BR)).take i))) := by
        rw [upd_ne (ne_of_none hD2 hT)]
        exact hD2
      have hni := brow_nm hi
      have hnot : BR[i].2.1 ∉ (rnm (bOf BR)).take i := nodup_take hnd hni
      have hlast : BR[i].2.2.2 = "sea" ∨ BR[i].2.2.2 ∈ namesOf AR := (hB.last _ hrow).imp_right fun z => course_sub hG (hB.inn _ hrow) _ z
      refine ⟨Tt, _, rfl, .inl (.inl upd_same), rfl, _, _, rfl, _, _, rfl, rfl, ?_⟩
      refine ⟨_, rfl, _, rfl, q, BR[i].1, BR[i].2, AR, rfl, Same.riv s3 R, s3 _ _ (hR.tup _ hmem), hB.ok _ hrow, hB.inn _ hrow, hlast, fun H4 s4 => ⟨_, rfl, ?_⟩⟩
      refine iteF ?_
      have s5 : Same H H4 := s3.trans s4
      have hD4 := s4 _ _ hD3
      have ht4 : SqT K H4 BR[i].1 [.str BR[i].2.1, .str BR[i].2.2.1, .str BR[i].2.2.2] := .inl (.inl (s5 _ _ (hR.tup _ hmem)))
      refine ⟨_, rfl, BR[i].1, _, _, _, rfl, rfl, ht4, atI_nat (j := 0) rfl, _, rfl, D, _, rfl, DGet.k (k := Sum.inr BR[i].2.1) hD4, _, rfl, ?_⟩
      rw [kmap_not hnot]
      refine iteF ?_
      refine ⟨_, rfl, _, rfl, BR[i].1, _, _, _, rfl, rfl, ht4, atI_nat (j := 0) rfl, D, _, rfl, DPut.k (k := Sum.inr BR[i].2.1) hD4 ?_, ?_⟩
      · rw [kmap_len, List.length_take, List.length_map]
        exact small1000 (by omega)
      · refine ⟨_, _, _, _, _, rfl, fun b o hb => ?_, ?_⟩
        · rw [upd_ne (ne_of_none hb hD)]
          exact s5 b o hb
        · have := kmap_put (f := fun _ => .bl true) hnot
          rw [upd_same, this, List.take_add_one, hni]
          rfl
    · rintro σ H2 ⟨v3, v4, v5, v6, v7, rfl, s2, hD2⟩
      refine ⟨_, rfl, l, _, rfl, s2.seq (.inl (.inl hR.lst)), ?_⟩
      refine for_it (walk_enum (xs := BR.map fun q => V.ref q.1)) (fun i σ H3 => ∃ (v3 v4 v5 v6 v7 : Option V), σ = [some (.ref q), some (.ref l), some (.ref D), v3, v4, v5, v6, v7] ∧ Same H2 H3)
        ⟨_, _, _, _, _, rfl, .refl _⟩ (fun _ _ _ _ h => by obtain ⟨_, _, _, _, _, _, s⟩ := h; exact (s2.trans s).seq (.inl (.inl hR.lst))) ?_ ?_
      · rintro i x σ H3 H4 hi ⟨v3, v4, v5, v6, v7, rfl, s3⟩ ⟨Tt, x1, x2, rfl, hT, rfl, e1, e2⟩
        rw [List.length_map] at hi
        have hx2 : x2 = .ref BR[i].1 := brow_at e2 hi
        subst hx2
        have hmem : BR[i] ∈ BR := List.getElem_mem hi
        have hrow : BR[i].2 ∈ bOf BR := List.mem_map.mpr ⟨_, hmem, rfl⟩
        have s4 : Same H2 (upd H3 Tt (.tup [x1, .ref BR[i].1])) := s3.trans (same_upd hT)
        have ht4 : SqT K (upd H3 Tt (.tup [x1, .ref BR[i].1])) BR[i].1 [.str BR[i].2.1, .str BR[i].2.2.1, .str BR[i].2.2.2] := .inl (.inl (s4 _ _ (s2 _ _ (hR.tup _ hmem))))
        refine ⟨Tt, _, rfl, .inl (.inl upd_same), rfl, _, _, rfl, _, _, rfl, _, _, rfl, ht4, rfl, _, _, rfl, _, _, rfl, _, _, rfl, rfl, rfl, ?_⟩
        refine ⟨_, rfl, rfl, _, rfl, ?_⟩
        refine ite2 (fun h1 => ?_) (fun h1 => ?_)
        · have hmm : BR[i].2.2.2 ∈ course (rowsOf AR) BR[i].2.2.1 := by
            rcases hB.last _ hrow with e | e
            · rw [decide_eq_true (congrArg V.str e)] at h1
              cases h1
            · exact e
          have R4 : RivAt Cr (upd H3 Tt (.tup [x1, .ref BR[i].1])) q AR := Same.riv (s2.trans s4) R
          obtain ⟨dx, tw, tr, db, dc, da, du, o, i1, _⟩ := id R4.ex
          refine ⟨_, rfl, q, dx, _, rfl, i1, g7no _ _ _ _ _ _ _ (by decide +kernel) (by decide +kernel) (by decide +kernel) (by decide +kernel) (by decide +kernel) (by decide +kernel) (by decide +kernel), _, rfl, _, rfl, q, _, _, AR, rfl, R4, hB.inn _ hrow, course_sub hG (hB.inn _ hrow) _ hmm, ?_⟩
          rw [decide_eq_true hmm]
          refine ⟨_, rfl, iteF ?_⟩
          exact ⟨_, _, _, _, _, rfl, s4⟩
        · exact ⟨_, _, _, _, _, rfl, s4⟩
      · rintro σ H3 ⟨v3, v4, v5, v6, v7, rfl, s3⟩
        exact k H3 (s2.trans s3)
end
end K0
end
section
set_option Elab.async false
set_option linter.all false
set_option maxRecDepth 100000
set_option maxHeartbeats 4000000
namespace K0
open PySem PySem.Spec PyProof.Rows L2
/-! ### Rights -/
abbrev sGInit : Stmt := inClass sRights 0
abbrev sGContains : Stmt := inClass sRights 4
abbrev sThose : Stmt := inClass sRights 5
abbrev sGRows : Stmt := inClass sRights 6
abbrev sGLast : Stmt := inClass sRights 8
abbrev sGWay : Stmt := inClass sRights 10
abbrev sGPassing : Stmt := inClass sRights 12
structure Rg (K : PySem.W.Frag) (mg : Str → Option Value) (C : Addr) : Prop where
  cl : Cls K C
  river : NoAttr K C "river"
  names : NoAttr K C "names"
  _rows : NoAttr K C "_rows"
  _ways : NoAttr K C "_ways"
  _lasts : NoAttr K C "_lasts"
  _passing : NoAttr K C "_passing"
  mgC : mg "Rights" = some (.ref C)
def r1 (a : V) : List (Str × V) := putF "river" a []
def r2 (a b : V) : List (Str × V) := putF "names" b (r1 a)
def r3 (a b c : V) : List (Str × V) := putF "_rows" c (r2 a b)
def r4 (a b c d : V) : List (Str × V) := putF "_ways" d (r3 a b c)
def r5 (a b c d e : V) : List (Str × V) := putF "_lasts" e (r4 a b c d)
def r6 (a b c d e g : V) : List (Str × V) := putF "_passing" g (r5 a b c d e)
section
variable (a b c d e g : V)
theorem rl1 : (r1 a).length ≤ 1 := putF_len _ _ _
theorem rl2 : (r2 a b).length ≤ 2 := Nat.le_trans (putF_len _ _ _) (Nat.succ_le_succ (rl1 a))
theorem rl3 : (r3 a b c).length ≤ 3 := Nat.le_trans (putF_len _ _ _) (Nat.succ_le_succ (rl2 a b))
theorem rl4 : (r4 a b c d).length ≤ 4 := Nat.le_trans (putF_len _ _ _) (Nat.succ_le_succ (rl3 a b c))
theorem rl5 : (r5 a b c d e).length ≤ 5 := Nat.le_trans (putF_len _ _ _) (Nat.succ_le_succ (rl4 a b c d))
theorem rr2n : (r2 a b).lookup ("names" : Str) = some b := by rw [r2, lookup_putF, if_pos rfl]
theorem rr5n : (r5 a b c d e).lookup ("names" : Str) = some b := by
  rw [r5, lookup_putF, if_neg (by decide +kernel), r4, lookup_putF, if_neg (by decide +kernel), r3, lookup_putF, if_neg (by decide +kernel), rr2n]
theorem rr5w : (r5 a b c d e).lookup ("_ways" : Str) = some d := by
  rw [r5, lookup_putF, if_neg (by decide +kernel), r4, lookup_putF, if_pos rfl]
theorem rr6r : (r6 a b c d e g).lookup ("river" : Str) = some a := by
  rw [r6, lookup_putF, if_neg (by decide +kernel), r5, lookup_putF, if_neg (by decide +kernel), r4, lookup_putF, if_neg (by decide +kernel), r3, lookup_putF, if_neg (by decide +kernel), r2, lookup_putF, if_neg (by decide +kernel), r1, lookup_putF, if_pos rfl]
theorem rr6n : (r6 a b c d e g).lookup ("names" : Str) = some b := by rw [r6, lookup_putF, if_neg (by decide +kernel), rr5n]
theorem rr6o : (r6 a b c d e g).lookup ("_rows" : Str) = some c := by
  rw [r6, lookup_putF, if_neg (by decide +kernel), r5, lookup_putF, if_neg (by decide +kernel), r4, lookup_putF, if_neg (by decide +kernel), r3, lookup_putF, if_pos rfl]
theorem rr6w : (r6 a b c d e g).lookup ("_ways" : Str) = some d := by rw [r6, lookup_putF, if_neg (by decide +kernel), rr5w]
theorem rr6p : (r6 a b c d e g).lookup ("_passing" : Str) = some g := by rw [r6, lookup_putF, if_pos rfl]
theorem rr5no {m : Str} (h1 : (["river", "names", "_rows", "_ways", "_lasts", "_passing"] : List Str).contains m = false) : (r5 a b c d e).lookup m = none := by
  simp only [List.contains_cons, List.contains_nil, Bool.or_false, Bool.or_eq_false_iff, beq_eq_false_iff_ne] at h1
  rw [r5, lookup_putF, if_neg h1.2.2.2.2.1, r4, lookup_putF, if_neg h1.2.2.2.1, r3, lookup_putF, if_neg h1.2.2.1, r2, lookup_putF, if_neg h1.2.1, r1, lookup_putF, if_neg h1.1]
  rfl
theorem rr6no {m : Str} (h1 : (["river", "names", "_rows", "_ways", "_lasts", "_passing"] : List Str).contains m = false) : (r6 a b c d e g).lookup m = none := by
  have h2 := h1
  simp only [List.contains_cons, List.contains_nil, Bool.or_false, Bool.or_eq_false_iff, beq_eq_false_iff_ne] at h1
  rw [r6, lookup_putF, if_neg h1.2.2.2.2.2, rr5no _ _ _ _ _ h2]
end
theorem ft_upto {H H' : Hp} {p t : Addr} {l : List Str} (u : Upto p H H') (hp : ∃ C dx fs, H p = some (.ins C dx fs)) (h : FT H t l) : FT H' t l := by
  obtain ⟨C, dx, fs, hp⟩ := hp
  obtain ⟨o, q, e⟩ := h
  exact ⟨o, q, u _ _ e (ne_of e hp (fun z => by cases z))⟩
/-- rights of these rows stand at p, over the river at q -/
structure RigAt (Cg Cr : Addr) (H : Hp) (p q : Addr) (AR : List (Addr × Row)) (BR : List (Addr × RRow)) : Prop where
  ex : ∃ (dx tn tr dw dl dp : Addr), H p = some (.ins Cg dx (r6 (.ref q) (.ref tn) (.ref tr) (.ref dw) (.ref dl) (.ref dp))) ∧ RivAt Cr H q AR ∧ FT H tn (rnm (bOf BR)) ∧ H tr = some (.tup (BR.map fun q => V.ref q.1)) ∧
    (∀ z ∈ BR, H z.1 = some (.tup [.str z.2.1, .str z.2.2.1, .str z.2.2.2])) ∧ TupsR H dw (rnm (bOf BR)) (wayN (rowsOf AR) (bOf BR)) ∧ TupsR H dp (namesOf AR) (passR (rowsOf AR) (bOf BR))
theorem RigAt.same {Cg Cr : Addr} {H H' : Hp} {p q : Addr} {AR : List (Addr × Row)} {BR : List (Addr × RRow)} (r : RigAt Cg Cr H p q AR BR) (s : Same H H') : RigAt Cg Cr H' p q AR BR := by
  obtain ⟨dx, tn, tr, dw, dl, dp, h1, h2, h3, h4, h5, h6, h7⟩ := r.ex
  exact ⟨dx, tn, tr, dw, dl, dp, s _ _ h1, Same.riv s h2, h3.same s, s _ _ h4, fun z hz => s _ _ (h5 z hz), h6.same s, h7.same s⟩
abbrev scThose_N : List Str := ["self", "weir", "name"]
abbrev scThose_S : Stmt := sThose
theorem scThose : FnScope scThose_N ["self", "weir"] (defScope sThose) := ⟨rfl, rfl, rfl, by decide +kernel, rfl, by decide +kernel, by decide +kernel⟩
def spThose (Cg : Addr) : Sp := fun vs H Q _ => ∃ (p dx tn dw : Addr) (fs : List (Str × V)) (y : Str) (R : List Row) (B : List RRow), vs = [.ref p, .str y] ∧ H p = some (.ins Cg dx fs) ∧ fs.lookup ("names" : Str) = some (.ref tn) ∧ fs.lookup ("_ways" : Str) = some (.ref dw) ∧ TxR H tn (rnm B) ∧ TupsR H dw (rnm B) (wayN R B) ∧ B.length ≤ 40 ∧
  ∀ t H', Same H H' → TxR H' t (passR R B y) → Q (.ref t) H'
abbrev scGInit_N : List Str := ["self", "river", "rows", "row", "name", "intake", "last", "weir"]
abbrev scGInit_S : Stmt := sGInit
theorem scGInit : FnScope scGInit_N ["self", "river", "rows"] (defScope sGInit) := ⟨rfl, rfl, rfl, by decide +kernel, rfl, by decide +kernel, by decide +kernel⟩
def spGInit (Cg Cr : Addr) : Sp := fun vs H Q _ => ∃ (p q l dx : Addr) (AR : List (Addr × Row)) (BR : List (Addr × RRow)), vs = [.ref p, .ref q, .ref l] ∧ H p = some (.ins Cg dx []) ∧ RivAt Cr H q AR ∧ GoodRows (rowsOf AR) ∧ BRows H l BR ∧ RtOk (rowsOf AR) (bOf BR) ∧
  ∀ H', Upto p H H' → RigAt Cg Cr H' p q AR BR → Q .non H'
section
variable {P : Program} {w : World} {K : PySem.W.Frag} {mg : Str → Option Value} {base : Heap} {tS tM tL : Tok}
theorem ok_those {f Cg : Addr} {fd : FuncData} (F : FnM K "_those_over" "Rights._those_over" sThose f fd) (TG : Rg K mg Cg) (B : Bl mg) : FnOk P w K mg base CX0 1 f fd ["self", "weir"] (spThose Cg) := by
  refine F.ok scThose (fun vs H Q E h => ?_) (fun cdv A outer s H vs Q E hr h => ?_)
  · obtain ⟨p, dx, tn, dw, fs, y, R, B, rfl, _⟩ := h
    rfl
  · obtain ⟨p, dx, tn, dw, fs, y, R, BB, rfl, hp, l1, l2, hn, hw, hB, k⟩ := h
    have hu := hu_of hr
    refine ⟨_, PSs.nox (pss_one
      (ps_ret (pe_callTy (tupleK (K := K)) (by rfl) B.tuple (by decide +kernel) (pa_cons (pe_lc (own := [("name", 2)]) (g := gName 2) (by rfl) scThose.nd (pi_tup (fldK (K := K) (pv 0) rfl)) (blkOk_by (own := [("name", 2)]) (N := scThose_N) (sc := defScope scThose_S) (by decide +kernel)) (fun _ _ _ _ _ => (pg_name (i := 2) scThose.nd rfl (Or.inl rfl))) (fun _ _ _ _ _ => (pts_one (pt_cmpR (inK (K := K)) (pv 1) (pe_dget hu (fldK (K := K) (pv 0) rfl) (pv 2) (fun _ _ => rfl)) (by rfl)))) (fun _ _ _ _ _ => (pv 2))) pa_nil)))), ?_⟩
    obtain ⟨ta, w1, w2⟩ := hw.ex
    have hlb : (rnm BB).length = BB.length := List.length_map _
    refine ⟨_, rfl, p, Cg, dx, _, _, rfl, hp, TG.cl, TG.names, l1, tn, rfl, ⟨_, .inl hn⟩, fun D hD => ?_⟩
    refine lc_tupO (K := K) (a := tn) (xs := (rnm BB).map V.str) hD (fun i => (((rnm BB).take i).filter fun n => decide (y ∈ wayN R BB n)).map V.str) (by rw [List.take_zero]; rfl) (fun i _ => filt_size (by omega) i) (fun H2 s => .inl (hn.same s)) ?_ ?_
    · intro i x H2 Nx hx s put skip
      rw [List.getElem?_map] at hx
      obtain ⟨n, hn2, rfl⟩ := Option.map_eq_some_iff.mp hx
      have hnm : n ∈ rnm BB := List.mem_of_getElem? hn2
      refine ⟨rfl, ?_⟩
      refine ⟨_, rfl, _, rfl, p, Cg, dx, _, _, rfl, s _ _ hp, TG.cl, TG._ways, l2, _, rfl, dw, _, rfl, dget_rn (.inl (s _ _ w1)) hnm, ta n, _, rfl, .inr (.inl ((w2 n hnm).same s)), rfl, flat_strs _, _, rfl, ?_⟩
      rw [inV_str]
      have e := filt_take (p := fun n => decide (y ∈ wayN R BB n)) hn2
      refine ite2 (fun h => ?_) (fun h => ?_)
      · have h : decide (y ∈ wayN R BB n) = true := h
        rw [if_pos h] at e
        refine ⟨_, rfl, put _ _ (.refl _) ?_⟩
        rw [e, List.map_append]
        rfl
      · have h : ¬ decide (y ∈ wayN R BB n) = true := h
        rw [if_neg h, List.append_nil] at e
        exact skip _ (.refl _) (congrArg _ e)
    · intro H2 s2 hl
      rw [List.length_map, List.take_length] at hl
      refine ⟨D, _, rfl, .inl ⟨.inl (.inl hl), fun t nt => ?_⟩⟩
      refine k t _ (s2.trans (same_upd nt)) (.inl ?_)
      rw [upd_same]
      rfl
/-- the functions that the making of rights calls -/
structure Mg (P : Program) (w : World) (K : PySem.W.Frag) (mg : Str → Option Value) (base : Heap) (Cg Cr : Addr) : Prop where
  isName : ∃ f fd, FnP K "is_name" sIsName f fd ∧ mg "is_name" = some (.ref f)
  isRow : ∃ f fd, FnP K "_is_row" sIsRowR f fd ∧ mg "is_row_rights" = some (.ref f)
  needRows : ∃ f fd, FnP K "_need_rows" sNeedRowsR f fd ∧ mg "need_rows_rights" = some (.ref f)
  isDown : ∃ f fd, FnM K "is_down" "River.is_down" sIsDown f fd ∧ Meth K Cr "is_down" f
  way : ∃ f fd, FnM K "way" "River.way" sWay f fd ∧ Meth K Cr "way" f
  those : ∃ f fd, FnM K "_those_over" "Rights._those_over" sThose f fd ∧ Meth K Cg "_those_over" f
  D : NdS P w K mg base Cr
  M : Sc K Cr
theorem ok_ginit {f Cg Cr : Addr} {fd : FuncData} (F : FnM K "__init__" "Rights.__init__" sGInit f fd) (G : Mg P w K mg base Cg Cr) (TG : Rg K mg Cg) (T : Rv K mg Cr) (B : Bl mg) (C : Gc mg tS tM tL) : FnOk P w K mg base CX0 5 f fd ["self", "river", "rows"] (spGInit Cg Cr) := by
  obtain ⟨a1, d1, F1, m1⟩ := G.isName
  obtain ⟨a2, d2, F2, m2⟩ := G.isRow
  obtain ⟨a3, d3, F_need_rowsR, g_need_rowsR⟩ := G.needRows
  obtain ⟨a4, d4, F4, m4⟩ := G.isDown
  obtain ⟨a5, d5, Fway, Mway⟩ := G.way
  obtain ⟨a6, d6, F_those_over, M_those_over⟩ := G.those
  have G_need_rowsR : FnOk P w K mg base CX0 4 a3 d3 ["river", "rows"] (spNeedRowsR Cr) := ok_needrowsR F_need_rowsR F1 m1 F2 m2 F4 m4 G.D G.M T B C
  have b_need_rowsR : Binds K d3 ["river", "rows"] [] := F_need_rowsR.bindsN fun _ _ _ _ _ _ us hl => match us, hl with | [_, _], _ => rfl
  have Gway : FnOk P w K mg base CX0 3 a5 d5 ["self", "intake", "last"] (spWayS Cr) := ok_wayS Fway G.D T C
  have bway : Binds K d5 ["self", "intake", "last"] [] := Fway.bindsN fun _ _ _ _ _ _ us hl => match us, hl with | [_, _, _], _ => rfl
  have G_those_over : FnOk P w K mg base CX0 1 a6 d6 ["self", "weir"] (spThose Cg) := ok_those F_those_over TG B
  have b_those_over : Binds K d6 ["self", "weir"] [] := F_those_over.bindsN fun _ _ _ _ _ _ us hl => match us, hl with | [_, _], _ => rfl
  refine F.ok scGInit (fun vs H Q E h => ?_) (fun cdv A outer s H vs Q E hr h => ?_)
  · obtain ⟨p, q, l, dx, AR, BR, rfl, _⟩ := h
    rfl
  · obtain ⟨p, q, l, dx, AR, BR, rfl, hp, R, hG, hR, hB, k⟩ := h
    have hu := hu_of hr
    have hr_need_rowsR : Room 4 _ := hr
    have hrway : Room 3 _ := hr.mono (by decide)
    have hr_those_over : Room 1 _ := hr.mono (by decide)
    refine ⟨_, PSs.nox (pss_cons
      (ps_expr (pe_call G_need_rowsR hr_need_rowsR (by rfl) g_need_rowsR F_need_rowsR.kp b_need_rowsR .nil pass0 (pa_cons (pv 1) (pa_cons (pv 2) pa_nil))))
      (pss_cons
      (ps_fld (pv 0) (pv 1) rfl)
      (pss_cons
      (ps_fld (pv 0) (pe_callTy (tupleF (K := K)) (by rfl) B.tuple (by decide +kernel) (pa_cons (pe_lc (own := [("row", 3)]) (g := gName 3) (tt := tYes) (by rfl) scGInit.nd (pi_list (pv 2)) (blkOk_by (own := [("row", 3)]) (N := scGInit_N) (sc := defScope scGInit_S) (by decide +kernel)) (fun _ _ _ _ _ => (pg_name (i := 3) scGInit.nd rfl (Or.inl rfl))) (fun _ _ _ _ _ => pts_nil) (fun _ _ _ _ _ => (pe_ix (ixTK (K := K)) (pv 3) pe_int (fun _ _ => rfl)))) pa_nil)) rfl)
      (pss_cons
      (ps_fld (pv 0) (pe_callTy (tupleK (K := K)) (by rfl) B.tuple (by decide +kernel) (pa_cons (pv 2) pa_nil)) rfl)
      (pss_cons
      (ps_fld (pv 0) (pe_dc (own := [("name", 4), ("intake", 5), ("last", 6)]) (tt := tYes) (by rfl) scGInit.nd (pi_list (pv 2)) (blkOk_by (own := [("name", 4), ("intake", 5), ("last", 6)]) (N := scGInit_N) (sc := defScope scGInit_S) (by decide +kernel)) (fun _ _ _ _ _ => (tgK (K := K) (n := 3) (by rfl) (pgs_cons (pg_name (i := 4) scGInit.nd rfl (Or.inl rfl)) (pgs_cons (pg_name (i := 5) scGInit.nd rfl (Or.inl rfl)) (pgs_cons (pg_name (i := 6) scGInit.nd rfl (Or.inl rfl)) pgs_nil))))) (fun _ _ _ _ _ => pts_nil) (fun _ _ _ _ _ => (pv 4)) (fun _ _ _ _ _ => (pe_meth (pv 1) T.cl Mway Gway hrway bway .nil pass0 (pa_cons (pv 5) (pa_cons (pv 6) pa_nil))))) rfl)
      (pss_cons
      (ps_fld (pv 0) (pe_dc (own := [("row", 3)]) (g := gName 3) (tt := tYes) (by rfl) scGInit.nd (pi_list (pv 2)) (blkOk_by (own := [("row", 3)]) (N := scGInit_N) (sc := defScope scGInit_S) (by decide +kernel)) (fun _ _ _ _ _ => (pg_name (i := 3) scGInit.nd rfl (Or.inl rfl))) (fun _ _ _ _ _ => pts_nil) (fun _ _ _ _ _ => (pe_ix (ixTK (K := K)) (pv 3) pe_int (fun _ _ => rfl))) (fun _ _ _ _ _ => (pe_ix (ixTK (K := K)) (pv 3) pe_int (fun _ _ => rfl)))) rfl)
      (pss_one
      (ps_fld (pv 0) (pe_dc (own := [("weir", 7)]) (g := gName 7) (tt := tYes) (by rfl) scGInit.nd (pi_tup (fldK (K := K) (pv 1) rfl)) (blkOk_by (own := [("weir", 7)]) (N := scGInit_N) (sc := defScope scGInit_S) (by decide +kernel)) (fun _ _ _ _ _ => (pg_name (i := 7) scGInit.nd rfl (Or.inl rfl))) (fun _ _ _ _ _ => pts_nil) (fun _ _ _ _ _ => (pv 7)) (fun _ _ _ _ _ => (pe_meth (pv 0) TG.cl M_those_over G_those_over hr_those_over b_those_over .nil pass0 (pa_cons (pv 7) pa_nil)))) rfl)))))))), ?_⟩
    have hm := hB.most
    have hlb : (bOf BR).length = BR.length := List.length_map _
    have hln : (rnm (bOf BR)).length = BR.length := by rw [List.length_map, List.length_map]
    have hnd := hB.nd
    have hRm := hG.most
    have hAl : (rowsOf AR).length = AR.length := List.length_map _
    have hnl : (namesOf AR).length = AR.length := nmlen AR
    have notp : ∀ {Hk : Hp} {fs : List (Str × V)} {o : HO} {a : Addr}, Hk p = some (.ins Cg dx fs) → Hk a = some o → (∀ z1 z2 z3, o ≠ .ins z1 z2 z3) → a ≠ p := fun h1 h2 n => ne_of h2 h1 (n _ _ _)
    have hqp : ∀ {Hk : Hp} {fs : List (Str × V)}, Hk p = some (.ins Cg dx fs) → RivAt Cr Hk q AR → fs.lookup ("weirs" : Str) = none → q ≠ p := fun h1 r hno e => by
      obtain ⟨dx2, tw, tr, db, dc, da, du, o, j1, _⟩ := r.ex
      rw [e, h1] at j1
      injection j1 with j1
      injection j1 with j2 j3 j4
      rw [j4, g7w] at hno
      cases hno
    have hq0 : q ≠ p := hqp hp R rfl
    -- need_rows
    refine ⟨_, rfl, _, rfl, q, l, AR, BR, rfl, R, hG, hR, hB, fun H1 t1 => ?_⟩
    have p1 := t1 _ _ hp
    have R1 := Same.riv t1 R
    have b1 := hR.same t1
    -- self.river
    refine ⟨_, rfl, _, rfl, p, Cg, dx, _, rfl, p1, TG.cl, TG.river, by show 0 < 1000; decide, ?_⟩
    have step : ∀ {Hk : Hp} {fs fs2 : List (Str × V)}, Hk p = some (.ins Cg dx fs) → Upto p H Hk → RivAt Cr Hk q AR → BRows Hk l BR →
        Upto p H (upd Hk p (.ins Cg dx fs2)) ∧ RivAt Cr (upd Hk p (.ins Cg dx fs2)) q AR ∧ BRows (upd Hk p (.ins Cg dx fs2)) l BR ∧ Upto p Hk (upd Hk p (.ins Cg dx fs2)) := fun {Hk fs fs2} h1 u r b =>
      ⟨u.trans Upto.at_, riv_upto Upto.at_ ⟨_, _, _, h1⟩ hq0 r, ⟨by rw [upd_ne (notp h1 b.lst (fun _ _ _ z => by cases z))]; exact b.lst, fun z hz => by rw [upd_ne (notp h1 (b.tup z hz) (fun _ _ _ z => by cases z))]; exact b.tup z hz⟩, Upto.at_⟩
    obtain ⟨u2, R2, b2, v2⟩ := step (fs2 := r1 (.ref q)) p1 (Upto.of t1) R1 b1
    have p2 : (upd H1 p (.ins Cg dx (r1 (.ref q)))) p = some (.ins Cg dx (r1 (.ref q))) := upd_same
    show tSeq _ _ _ _ (upd H1 p (.ins Cg dx (r1 (.ref q))))
    generalize upd H1 p (.ins Cg dx (r1 (.ref q))) = H2 at u2 R2 b2 v2 p2
    -- self.names
    refine ⟨_, rfl, l, rfl, ⟨_, .inl (.inl b2.lst)⟩, fun D hD => ?_⟩
    refine lc_listO (K := K) (a := l) (xs := BR.map fun q => V.ref q.1) hD (fun i => ((rnm (bOf BR)).take i).map V.str) (by rw [List.take_zero]; rfl) (fun i hi => take_size (by omega) i (by rw [List.length_map] at hi ⊢; omega)) (.inl (.inl b2.lst)) ?_ ?_
    · intro i x H3 Nx hx s put skip
      have hi : i < BR.length := by
        have := (List.getElem?_eq_some_iff.mp hx).1
        rw [List.length_map] at this
        exact this
      have ex := brow_at hx hi
      subst ex
      refine ⟨rfl, ?_⟩
      unfold tYes
      refine iteT ?_
      refine ⟨_, rfl, BR[i].1, _, _, _, rfl, rfl, .inl (.inl (s _ _ (b2.tup _ (List.getElem_mem hi)))), atI_nat (j := 0) rfl, put _ _ (.refl _) (take_map1 (brow_nm hi))⟩
    intro H3 s3 hl
    rw [List.length_map, ← hln, List.take_length] at hl
    refine ⟨D, _, rfl, .inl (.inl hl), fun tn otn ntn ptn => ?_⟩
    have s4 : Same H2 (upd H3 tn (.frz otn (.tup ((rnm (bOf BR)).map V.str)))) := s3.trans (same_upd ntn)
    have n4 : FT (upd H3 tn (.frz otn (.tup ((rnm (bOf BR)).map V.str)))) tn (rnm (bOf BR)) := ⟨otn, ptn, upd_same⟩
    generalize upd H3 tn (.frz otn (.tup ((rnm (bOf BR)).map V.str))) = H4 at s4 n4
    have p4 := s4 _ _ p2
    have R4 := Same.riv s4 R2
    have b4 := b2.same s4
    have u4 : Upto p H H4 := u2.trans (Upto.of s4)
    refine ⟨_, rfl, p, Cg, dx, _, rfl, p4, TG.cl, TG.names, by have := rl1 (.ref q); omega, ?_⟩
    obtain ⟨u5, R5, b5, v5⟩ := step (fs2 := r2 (.ref q) (.ref tn)) p4 u4 R4 b4
    have p5 : (upd H4 p (.ins Cg dx (r2 (.ref q) (.ref tn)))) p = some (.ins Cg dx (r2 (.ref q) (.ref tn))) := upd_same
    have n5 := ft_upto v5 ⟨_, _, _, p4⟩ n4
    show tSeq _ _ _ _ (upd H4 p (.ins Cg dx (r2 (.ref q) (.ref tn))))
    generalize upd H4 p (.ins Cg dx (r2 (.ref q) (.ref tn))) = H5 at u5 R5 b5 v5 p5 n5
    -- self._rows
    refine ⟨_, rfl, l, _, rfl, .inl ⟨.inl (.inl b5.lst), fun tr ntr => ?_⟩⟩
    have s6 : Same H5 (upd H5 tr (.tup (BR.map fun q => V.ref q.1))) := same_upd ntr
    have o6 : (upd H5 tr (.tup (BR.map fun q => V.ref q.1))) tr = some (.tup (BR.map fun q => V.ref q.1)) := upd_same
    generalize upd H5 tr (.tup (BR.map fun q => V.ref q.1)) = H6 at s6 o6
    have p6 := s6 _ _ p5
    have R6 := Same.riv s6 R5
    have b6 := b5.same s6
    have n6 := n5.same s6
    have u6 : Upto p H H6 := u5.trans (Upto.of s6)
    refine ⟨_, rfl, p, Cg, dx, _, rfl, p6, TG.cl, TG._rows, by have := rl2 (.ref q) (.ref tn); omega, ?_⟩
    obtain ⟨u7, R7, b7, v7⟩ := step (fs2 := r3 (.ref q) (.ref tn) (.ref tr)) p6 u6 R6 b6
    have p7 : (upd H6 p (.ins Cg dx (r3 (.ref q) (.ref tn) (.ref tr)))) p = some (.ins Cg dx (r3 (.ref q) (.ref tn) (.ref tr))) := upd_same
    have n7 := ft_upto v7 ⟨_, _, _, p6⟩ n6
    have o7 : (upd H6 p (.ins Cg dx (r3 (.ref q) (.ref tn) (.ref tr)))) tr = some (.tup (BR.map fun q => V.ref q.1)) := v7 _ _ o6 (notp p6 o6 (fun _ _ _ z => by cases z))
    show tSeq _ _ _ _ (upd H6 p (.ins Cg dx (r3 (.ref q) (.ref tn) (.ref tr))))
    generalize upd H6 p (.ins Cg dx (r3 (.ref q) (.ref tn) (.ref tr))) = H7 at u7 R7 b7 v7 p7 n7 o7
    -- self._ways
    refine ⟨_, rfl, l, rfl, ⟨_, .inl (.inl b7.lst)⟩, fun dw ndw => ?_⟩
    have hle : (BR.map fun q => V.ref q.1).length = (rnm (bOf BR)).length := by rw [hln, List.length_map]
    have wl := walk_list (K := K) (a := l) (xs := BR.map fun q => V.ref q.1)
    rw [hle] at wl
    refine dc_itT (gg := wayN (rowsOf AR) (bOf BR)) wl hnd ndw (by omega) (fun H8 s => .inl (.inl (s _ _ b7.lst))) ?_ ?_
    · rintro i x y H8 H8' Nx hy s put ⟨rfl, hx⟩
      have hi : i < BR.length := by
        have := (List.getElem?_eq_some_iff.mp hx).1
        rw [List.length_map] at this
        exact this
      have ex := brow_at hx hi
      subst ex
      rw [brow_nm hi] at hy
      obtain rfl : BR[i].2.1 = y := Option.some.inj hy
      have hmem : BR[i] ∈ BR := List.getElem_mem hi
      have hrow : BR[i].2 ∈ bOf BR := List.mem_map.mpr ⟨_, hmem, rfl⟩
      refine ⟨BR[i].1, _, rfl, .inl (.inl (s _ _ (b7.tup _ hmem))), rfl, _, _, rfl, _, _, rfl, _, _, rfl, rfl, rfl, ?_⟩
      unfold tYes
      refine iteT ?_
      have R8 := Same.riv s R7
      obtain ⟨dx2, tw, tr2, db, dc, da, du, o, i1, _⟩ := id R8.ex
      refine ⟨_, rfl, _, rfl, q, dx2, _, rfl, i1, g7no _ _ _ _ _ _ _ (by decide +kernel) (by decide +kernel) (by decide +kernel) (by decide +kernel) (by decide +kernel) (by decide +kernel) (by decide +kernel), _, rfl, _, rfl, q, BR[i].2, AR, rfl, R8, hG, hB.inn _ hrow, hB.last _ hrow, fun t H9 s9 ht => ?_⟩
      rw [← way_of hnd hrow] at ht
      exact put t H9 s9 ht
    intro H8 s8 hw8
    have p8 := s8 _ _ p7
    have R8 := Same.riv s8 R7
    have b8 := b7.same s8
    have n8 := n7.same s8
    have o8 := s8 _ _ o7
    have u8 : Upto p H H8 := u7.trans (Upto.of s8)
    refine ⟨_, rfl, p, Cg, dx, _, rfl, p8, TG.cl, TG._ways, by have := rl3 (.ref q) (.ref tn) (.ref tr); omega, ?_⟩
    obtain ⟨u9, R9, b9, v9⟩ := step (fs2 := r4 (.ref q) (.ref tn) (.ref tr) (.ref dw)) p8 u8 R8 b8
    have p9 : (upd H8 p (.ins Cg dx (r4 (.ref q) (.ref tn) (.ref tr) (.ref dw)))) p = some (.ins Cg dx (r4 (.ref q) (.ref tn) (.ref tr) (.ref dw))) := upd_same
    have n9 := ft_upto v9 ⟨_, _, _, p8⟩ n8
    have o9 : (upd H8 p (.ins Cg dx (r4 (.ref q) (.ref tn) (.ref tr) (.ref dw)))) tr = some (.tup (BR.map fun q => V.ref q.1)) := v9 _ _ o8 (notp p8 o8 (fun _ _ _ z => by cases z))
    have w9 := tupsR_upto v9 ⟨_, _, _, p8⟩ hw8
    show tSeq _ _ _ _ (upd H8 p (.ins Cg dx (r4 (.ref q) (.ref tn) (.ref tr) (.ref dw))))
    generalize upd H8 p (.ins Cg dx (r4 (.ref q) (.ref tn) (.ref tr) (.ref dw))) = H9 at u9 R9 b9 v9 p9 n9 o9 w9
    -- self._lasts
    refine ⟨_, rfl, l, rfl, ⟨_, .inl (.inl b9.lst)⟩, fun dl ndl => ?_⟩
    refine dc_itO (walk_list (K := K) (a := l) (xs := BR.map fun q => V.ref q.1)) ndl (fun i => kmap (fun n => .str (rowB (bOf BR) n).2.2) ((rnm (bOf BR)).take i)) (by rw [List.take_zero]; rfl) (fun i hi => by rw [kmap_len, List.length_take]; exact small1000 (by omega)) (fun H10 s => .inl (.inl (s _ _ b9.lst))) ?_ ?_
    · rintro i x H10 H10' Nx hi s hcur put ⟨rfl, hx⟩
      have hi : i < BR.length := by rw [List.length_map] at hi; exact hi
      have ex := brow_at hx hi
      subst ex
      have hmem : BR[i] ∈ BR := List.getElem_mem hi
      have hrow : BR[i].2 ∈ bOf BR := List.mem_map.mpr ⟨_, hmem, rfl⟩
      refine ⟨rfl, ?_⟩
      unfold tYes
      refine iteT ?_
      refine ⟨_, rfl, BR[i].1, _, _, _, rfl, rfl, .inl (.inl (s _ _ (b9.tup _ hmem))), atI_nat (j := 0) rfl, _, rfl, BR[i].1, _, _, _, rfl, rfl, .inl (.inl (s _ _ (b9.tup _ hmem))), atI_nat (j := 2) rfl, ?_⟩
      refine put (Sum.inr BR[i].2.1) _ _ (.refl _) ?_
      have e := kmap_put (f := fun n => V.str (rowB (bOf BR) n).2.2) (nodup_take hnd (brow_nm hi))
      rw [row_of hnd hrow] at e
      rw [List.take_add_one, brow_nm hi]
      exact e.symm
    intro H10 s10 _
    have p10 := s10 _ _ p9
    have R10 := Same.riv s10 R9
    have b10 := b9.same s10
    have n10 := n9.same s10
    have o10 := s10 _ _ o9
    have w10 := w9.same s10
    have u10 : Upto p H H10 := u9.trans (Upto.of s10)
    refine ⟨_, rfl, p, Cg, dx, _, rfl, p10, TG.cl, TG._lasts, by have := rl4 (.ref q) (.ref tn) (.ref tr) (.ref dw); omega, ?_⟩
    obtain ⟨u11, R11, b11, v11⟩ := step (fs2 := r5 (.ref q) (.ref tn) (.ref tr) (.ref dw) (.ref dl)) p10 u10 R10 b10
    have p11 : (upd H10 p (.ins Cg dx (r5 (.ref q) (.ref tn) (.ref tr) (.ref dw) (.ref dl)))) p = some (.ins Cg dx (r5 (.ref q) (.ref tn) (.ref tr) (.ref dw) (.ref dl))) := upd_same
    have n11 := ft_upto v11 ⟨_, _, _, p10⟩ n10
    have o11 : (upd H10 p (.ins Cg dx (r5 (.ref q) (.ref tn) (.ref tr) (.ref dw) (.ref dl)))) tr = some (.tup (BR.map fun q => V.ref q.1)) := v11 _ _ o10 (notp p10 o10 (fun _ _ _ z => by cases z))
    have w11 := tupsR_upto v11 ⟨_, _, _, p10⟩ w10
    show Ends.nx _ _ (upd H10 p (.ins Cg dx (r5 (.ref q) (.ref tn) (.ref tr) (.ref dw) (.ref dl))))
    generalize upd H10 p (.ins Cg dx (r5 (.ref q) (.ref tn) (.ref tr) (.ref dw) (.ref dl))) = H11 at u11 R11 b11 v11 p11 n11 o11 w11
    -- self._passing
    obtain ⟨dx3, tw, tr3, db, dc, da, du, o, i1, i2, _⟩ := id R11.ex
    refine ⟨_, rfl, q, Cr, dx3, _, _, rfl, i1, T.cl, T.weirs, g7w _ _ _ _ _ _ _, tw, rfl, ⟨_, .inl (.inl i2)⟩, fun dp ndp => ?_⟩
    have hle2 : ((namesOf AR).map V.str).length = (namesOf AR).length := List.length_map _
    have wt := walk_tup (K := K) (a := tw) (xs := (namesOf AR).map V.str)
    rw [hle2] at wt
    refine dc_itT (gg := passR (rowsOf AR) (bOf BR)) wt hG.nm.nd ndp (by omega) (fun H12 s => .inl (.inl (s _ _ i2))) ?_ ?_
    · rintro i x y H12 H12' Nx hy s put ⟨rfl, hx⟩
      rw [List.getElem?_map, hy] at hx
      obtain rfl : V.str y = x := Option.some.inj hx
      refine ⟨rfl, ?_⟩
      unfold tYes
      refine iteT ?_
      refine ⟨_, rfl, _, rfl, p, dx, _, rfl, s _ _ p11, rr5no _ _ _ _ _ (by decide +kernel), _, rfl, p, dx, tn, dw, _, y, rowsOf AR, bOf BR, rfl, s _ _ p11, rr5n _ _ _ _ _, rr5w _ _ _ _ _, (n11.same s).rd, w11.same s, hm, fun t H13 s13 ht => put t H13 s13 ht⟩
    intro H12 s12 hp12
    have p12 := s12 _ _ p11
    refine ⟨_, rfl, p, Cg, dx, _, rfl, p12, TG.cl, TG._passing, by have := rl5 (.ref q) (.ref tn) (.ref tr) (.ref dw) (.ref dl); omega, ?_⟩
    have v13 : Upto p H12 (upd H12 p (.ins Cg dx (r6 (.ref q) (.ref tn) (.ref tr) (.ref dw) (.ref dl) (.ref dp)))) := Upto.at_
    have hpx : ∃ C dx fs, H12 p = some (.ins C dx fs) := ⟨_, _, _, p12⟩
    have b12 := b11.same s12
    refine k _ ((u11.trans (Upto.of s12)).trans v13) ⟨dx, tn, tr, dw, dl, dp, upd_same, riv_upto v13 hpx hq0 (Same.riv s12 R11), ft_upto v13 hpx (n11.same s12), v13 _ _ (s12 _ _ o11) (notp p12 (s12 _ _ o11) (fun _ _ _ z => by cases z)), fun z hz => v13 _ _ (b12.tup z hz) (notp p12 (b12.tup z hz) (fun _ _ _ z => by cases z)), tupsR_upto v13 hpx (w11.same s12), tupsR_upto v13 hpx hp12⟩
end
end K0
end
section
set_option Elab.async false
set_option linter.all false
set_option maxRecDepth 100000
set_option maxHeartbeats 4000000
namespace L2
open PySem PySem.Spec PyProof.Rows
def tTru (K : PySem.W.Frag) (ta : TE) : TT := fun σ H Q => ta σ H fun x H' => ∃ k, TruV K x H' k ∧ Q k H'
theorem pt_tru {X : Cx} {K : PySem.W.Frag} {a : Expr} {ta : TE} (ha : PE X a ta) (he : ∀ whole, isTrue a X.env whole = (do let v ← whole; standAt a.pos; holding [v] (truthy v)) := by intro _; rfl) (e : X.K = K := by rfl) : PT X a (tTru K ta) := e ▸ pt_truth ha he
end L2
namespace K0
open PySem PySem.Spec PyProof.Rows L2
/-! ### what rights are asked, for rights that there are -/
structure Gm (K : PySem.W.Frag) (Cg : Addr) : Prop where
  has : ∃ f fd, FnM K "__contains__" "Rights.__contains__" sGContains f fd ∧ PySem.W.findIn K (.ref Cg) "__contains__" = some (some (.ref f)) ∧ PySem.W.isFn K (.ref f) = true
abbrev GHasG (Cg Cr : Addr) : Hp → Addr → V → Bool → Prop := fun H p x b => ∃ q AR BR n, RigAt Cg Cr H p q AR BR ∧ x = .str n ∧ b = decide (n ∈ rnm (bOf BR))
theorem scGContains : FnScope ["self", "x"] ["self", "x"] (defScope sGContains) := ⟨rfl, rfl, rfl, by decide +kernel, rfl, by decide +kernel, by decide +kernel⟩
theorem scNeedR : FnScope ["rights", "name"] ["rights", "name"] (defScope sNeedR) := ⟨rfl, rfl, rfl, by decide +kernel, rfl, by decide +kernel, by decide +kernel⟩
theorem scGLast : FnScope ["self", "name"] ["self", "name"] (defScope sGLast) := ⟨rfl, rfl, rfl, by decide +kernel, rfl, by decide +kernel, by decide +kernel⟩
theorem scGWay : FnScope ["self", "name"] ["self", "name"] (defScope sGWay) := ⟨rfl, rfl, rfl, by decide +kernel, rfl, by decide +kernel, by decide +kernel⟩
theorem scGPassing : FnScope ["self", "weir"] ["self", "weir"] (defScope sGPassing) := ⟨rfl, rfl, rfl, by decide +kernel, rfl, by decide +kernel, by decide +kernel⟩
theorem scGRows : FnScope ["self"] ["self"] (defScope sGRows) := ⟨rfl, rfl, rfl, by decide +kernel, rfl, by decide +kernel, by decide +kernel⟩
/-- what stands at p, and that all is in order -/
structure RigOk (Cg Cr : Addr) (H : Hp) (p q : Addr) (AR : List (Addr × Row)) (BR : List (Addr × RRow)) : Prop where
  at_ : RigAt Cg Cr H p q AR BR
  g : GoodRows (rowsOf AR)
  b : RtOk (rowsOf AR) (bOf BR)
theorem RigOk.same {Cg Cr : Addr} {H H' : Hp} {p q : Addr} {AR : List (Addr × Row)} {BR : List (Addr × RRow)} (r : RigOk Cg Cr H p q AR BR) (s : Same H H') : RigOk Cg Cr H' p q AR BR := ⟨r.at_.same s, r.g, r.b⟩
abbrev wyN (AR : List (Addr × Row)) (BR : List (Addr × RRow)) (n : Str) : List Str := wayN (rowsOf AR) (bOf BR) n
def spNeedG (Cg Cr : Addr) : Sp := fun vs H Q _ => ∃ (p q : Addr) (n : Str) (AR : List (Addr × Row)) (BR : List (Addr × RRow)), vs = [.ref p, .str n] ∧ RigOk Cg Cr H p q AR BR ∧ n ∈ rnm (bOf BR) ∧ Q .non H
def spLastG (Cg Cr : Addr) : Sp := fun vs H Q _ => ∃ (p q : Addr) (n : Str) (AR : List (Addr × Row)) (BR : List (Addr × RRow)), vs = [.ref p, .str n] ∧ RigOk Cg Cr H p q AR BR ∧ n ∈ rnm (bOf BR) ∧ Q (.str (lastW (wyN AR BR n))) H
def spWayG (Cg Cr : Addr) : Sp := fun vs H Q _ => ∃ (p q : Addr) (n : Str) (AR : List (Addr × Row)) (BR : List (Addr × RRow)), vs = [.ref p, .str n] ∧ RigOk Cg Cr H p q AR BR ∧ n ∈ rnm (bOf BR) ∧ ∀ t, TxR H t (wyN AR BR n) → Q (.ref t) H
def spPassG (Cg Cr : Addr) : Sp := fun vs H Q _ => ∃ (p q : Addr) (y : Str) (AR : List (Addr × Row)) (BR : List (Addr × RRow)), vs = [.ref p, .str y] ∧ RigOk Cg Cr H p q AR BR ∧ y ∈ namesOf AR ∧ ∀ t, TxR H t (passR (rowsOf AR) (bOf BR) y) → Q (.ref t) H
def spRowsG (Cg Cr : Addr) : Sp := fun vs H Q _ => ∃ (p q : Addr) (AR : List (Addr × Row)) (BR : List (Addr × RRow)), vs = [.ref p] ∧ RigOk Cg Cr H p q AR BR ∧ ∀ l, H l = none → Q (.ref l) (upd H l (.lst (BR.map fun q => .ref q.1)))
def metR (R : List Row) (B : List RRow) (a : Str) : List Str := (rnm B).filter fun o => decide (o ≠ a) && meetB R B a o
theorem way_ne {R : List Row} (g : GoodRows R) {B : List RRow} (b : RtOk R B) {n : Str} (hn : n ∈ rnm B) : atI ((wayN R B n).map V.str) (-1) = some (.str (lastW (wayN R B n))) ∧ (wayN R B n).length ≤ 40 := by
  obtain ⟨r, hr, rfl⟩ := List.mem_map.mp hn
  obtain ⟨m, k, w⟩ := way_is g (b.inn r hr) (b.last r hr)
  rw [way_of b.nd hr]
  have h1 := w.one; have h2 := w.most; have h3 := w.c.most; have h4 := g.most
  constructor
  · rw [w.last, w.eq]
    exact last_of h1
  · rw [w.eq, List.length_map, List.length_range]
    omega
section
variable {P : Program} {w : World} {K : PySem.W.Frag} {mg : Str → Option Value} {base : Heap} {tS tM tL : Tok}
theorem ok_gcontains {f Cg Cr : Addr} {fd : FuncData} (F : FnM K "__contains__" "Rights.__contains__" sGContains f fd) (TG : Rg K mg Cg) (B : Bl mg) : FnOk P w K mg base CX0 1 f fd ["self", "x"] (spHas (GHasG Cg Cr)) := by
  refine F.ok scGContains (fun vs H Q E h => ?_) (fun cdv A outer s H vs Q E hr h => ?_)
  · obtain ⟨p, x, b, rfl, _⟩ := h
    rfl
  · obtain ⟨p, x, b, rfl, ⟨q, AR, BR, n, R, rfl, rfl⟩, k⟩ := h
    have hu := hu_of hr
    refine ⟨_, PSs.nox (pss_one
      (ps_ret (pe_and (pe_callB call_isi (by rfl) B.isinstance (by decide +kernel) (pa_cons (pv 1) (pa_cons (pe_bltn (v := .ty "str") (by rfl) B.str (by decide +kernel) rfl) pa_nil))) (pe_one (pe_cmp (pc_din hu (pv 1) (fldK (K := K) (pv 0) rfl)) rfl))))), ?_⟩
    obtain ⟨dx, tn, tr, dw, dl, dp, h1, h2, h3, h4, h5, h6, h7⟩ := R.ex
    obtain ⟨ta, w1, w2⟩ := h6.ex
    refine ⟨_, rfl, .str n, .ty "str", _, _, true, rfl, .ty "str", .base (.str n), kit_ty (by decide +kernel), true, rfl, iteT ?_⟩
    refine ⟨_, rfl, _, rfl, p, Cg, dx, _, _, rfl, h1, TG.cl, TG._ways, rr6w _ _ _ _ _ _, ?_⟩
    by_cases hy : n ∈ rnm (bOf BR)
    · refine ⟨dw, some (.ref (ta n)), rfl, dget_rn (.inl w1) hy, ?_⟩
      rw [decide_eq_true hy] at k
      exact k
    · refine ⟨dw, none, rfl, .inl ⟨_, Sum.inr n, .inl w1, rfl, (kmap_not hy).symm⟩, ?_⟩
      rw [decide_eq_false hy] at k
      exact k
theorem ok_needG {f Cg Cr : Addr} {fd : FuncData} (F : FnP K "need_right" sNeedR f fd) (M : Gm K Cg) (TG : Rg K mg Cg) (B : Bl mg) : FnOk P w K mg base CX0 2 f fd ["rights", "name"] (spNeedG Cg Cr) := by
  obtain ⟨fC, fdC, FC, hs, hf⟩ := M.has
  have GC : FnOk P w K mg base CX0 1 fC fdC ["self", "x"] (spHas (GHasG Cg Cr)) := ok_gcontains FC TG B
  have bC : Binds K fdC ["self", "x"] [] := FC.bindsN fun _ _ _ _ _ _ us hl => match us, hl with | [_, _], _ => rfl
  refine F.ok scNeedR (fun vs H Q E h => ?_) (fun cdv A outer s H vs Q E hr h => ?_)
  · obtain ⟨p, q, n, AR, BR, rfl, _⟩ := h
    rfl
  · obtain ⟨p, q, n, AR, BR, rfl, R, hn, k⟩ := h
    refine ⟨_, PSs.nox (pss_one
      (ps_if (pt_cmpR (k0_notIn_own (K := K) GC hr hs hf bC) (pv 1) (pv 0) (by rfl)) (pss_one
      ps_never) pss_nil)), ?_⟩
    obtain ⟨dx, tn, tr, dw, dl, dp, h1, _⟩ := id R.at_.ex
    refine ⟨_, rfl, _, rfl, p, dx, _, true, rfl, h1, ⟨q, AR, BR, n, R.at_, rfl, (decide_eq_true hn).symm⟩, _, rfl, ?_⟩
    exact iteF k
/-- need_right and what it promises -/
structure NdG (P : Program) (w : World) (K : PySem.W.Frag) (mg : Str → Option Value) (base : Heap) (Cg Cr : Addr) : Prop where
  ex : ∃ f fd, FnP K "need_right" sNeedR f fd ∧ mg "need_right" = some (.ref f) ∧ FnOk P w K mg base CX0 2 f fd ["rights", "name"] (spNeedG Cg Cr)
theorem ok_lastG {f Cg Cr : Addr} {fd : FuncData} (F : FnM K "last" "Rights.last" sGLast f fd) (D : NdG P w K mg base Cg Cr) (TG : Rg K mg Cg) : FnOk P w K mg base CX0 3 f fd ["self", "name"] (spLastG Cg Cr) := by
  obtain ⟨fN, fdN, Fneed_right, gneed_right, Gneed_right⟩ := D.ex
  have bneed_right : Binds K fdN ["rights", "name"] [] := Fneed_right.bindsN fun _ _ _ _ _ _ us hl => match us, hl with | [_, _], _ => rfl
  refine F.ok scGLast (fun vs H Q E h => ?_) (fun cdv A outer s H vs Q E hr h => ?_)
  · obtain ⟨p, q, n, AR, BR, rfl, _⟩ := h
    rfl
  · obtain ⟨p, q, n, AR, BR, rfl, R, hn, k⟩ := h
    have hu := hu_of hr
    have hrneed_right : Room 2 _ := hr
    refine ⟨_, PSs.nox (pss_cons
      (ps_expr (pe_call Gneed_right hrneed_right (by rfl) gneed_right Fneed_right.kp bneed_right .nil pass0 (pa_cons (pv 0) (pa_cons (pv 1) pa_nil))))
      (pss_one
      (ps_ret (pe_ix (ixTK (K := K)) (pe_dget hu (fldK (K := K) (pv 0) rfl) (pv 1) (fun _ _ => rfl)) (pe_un un_neg pe_int) (fun _ _ => rfl))))), ?_⟩
    obtain ⟨dx, tn, tr, dw, dl, dp, h1, h2, h3, h4, h5, h6, h7⟩ := id R.at_.ex
    obtain ⟨ta, w1, w2⟩ := h6.ex
    refine ⟨_, rfl, _, rfl, p, q, n, AR, BR, rfl, R, hn, ?_⟩
    exact ⟨_, rfl, p, Cg, dx, _, _, rfl, h1, TG.cl, TG._ways, rr6w _ _ _ _ _ _, _, rfl, dw, _, rfl, dget_rn (.inl w1) hn, _, rfl, ta n, _, _, _, rfl, rfl, .inl (w2 n hn), (way_ne R.g R.b hn).1, k⟩
theorem ok_wayG {f Cg Cr : Addr} {fd : FuncData} (F : FnM K "way" "Rights.way" sGWay f fd) (D : NdG P w K mg base Cg Cr) (TG : Rg K mg Cg) : FnOk P w K mg base CX0 3 f fd ["self", "name"] (spWayG Cg Cr) := by
  obtain ⟨fN, fdN, Fneed_right, gneed_right, Gneed_right⟩ := D.ex
  have bneed_right : Binds K fdN ["rights", "name"] [] := Fneed_right.bindsN fun _ _ _ _ _ _ us hl => match us, hl with | [_, _], _ => rfl
  refine F.ok scGWay (fun vs H Q E h => ?_) (fun cdv A outer s H vs Q E hr h => ?_)
  · obtain ⟨p, q, n, AR, BR, rfl, _⟩ := h
    rfl
  · obtain ⟨p, q, n, AR, BR, rfl, R, hn, k⟩ := h
    have hu := hu_of hr
    have hrneed_right : Room 2 _ := hr
    refine ⟨_, PSs.nox (pss_cons
      (ps_expr (pe_call Gneed_right hrneed_right (by rfl) gneed_right Fneed_right.kp bneed_right .nil pass0 (pa_cons (pv 0) (pa_cons (pv 1) pa_nil))))
      (pss_one
      (ps_ret (pe_dget hu (fldK (K := K) (pv 0) rfl) (pv 1) (fun _ _ => rfl))))), ?_⟩
    obtain ⟨dx, tn, tr, dw, dl, dp, h1, h2, h3, h4, h5, h6, h7⟩ := id R.at_.ex
    obtain ⟨ta, w1, w2⟩ := h6.ex
    refine ⟨_, rfl, _, rfl, p, q, n, AR, BR, rfl, R, hn, ?_⟩
    exact ⟨_, rfl, p, Cg, dx, _, _, rfl, h1, TG.cl, TG._ways, rr6w _ _ _ _ _ _, _, rfl, dw, _, rfl, dget_rn (.inl w1) hn, k _ (w2 n hn)⟩
theorem ok_passG {f Cg Cr : Addr} {fd : FuncData} (F : FnM K "passing" "Rights.passing" sGPassing f fd) (D : NdS P w K mg base Cr) (TG : Rg K mg Cg) : FnOk P w K mg base CX0 3 f fd ["self", "weir"] (spPassG Cg Cr) := by
  obtain ⟨fN, fdN, Fneed_weir, gneed_weir, Gneed_weir⟩ := D.ex
  have bneed_weir : Binds K fdN ["river", "weir"] [] := Fneed_weir.bindsN fun _ _ _ _ _ _ us hl => match us, hl with | [_, _], _ => rfl
  refine F.ok scGPassing (fun vs H Q E h => ?_) (fun cdv A outer s H vs Q E hr h => ?_)
  · obtain ⟨p, q, y, AR, BR, rfl, _⟩ := h
    rfl
  · obtain ⟨p, q, y, AR, BR, rfl, R, hy, k⟩ := h
    have hu := hu_of hr
    have hrneed_weir : Room 2 _ := hr
    refine ⟨_, PSs.nox (pss_cons
      (ps_expr (pe_call Gneed_weir hrneed_weir (by rfl) gneed_weir Fneed_weir.kp bneed_weir .nil pass0 (pa_cons (fldK (K := K) (pv 0) rfl) (pa_cons (pv 1) pa_nil))))
      (pss_one
      (ps_ret (pe_dget hu (fldK (K := K) (pv 0) rfl) (pv 1) (fun _ _ => rfl))))), ?_⟩
    obtain ⟨dx, tn, tr, dw, dl, dp, h1, h2, h3, h4, h5, h6, h7⟩ := id R.at_.ex
    obtain ⟨ta, w1, w2⟩ := h7.ex
    refine ⟨_, rfl, p, Cg, dx, _, _, rfl, h1, TG.cl, TG.river, rr6r _ _ _ _ _ _, _, rfl, q, y, AR, rfl, h2, hy, ?_⟩
    exact ⟨_, rfl, p, Cg, dx, _, _, rfl, h1, TG.cl, TG._passing, rr6p _ _ _ _ _ _, _, rfl, dp, _, rfl, dget_rn (.inl w1) hy, k _ (w2 y hy)⟩
theorem ok_rowsG {f Cg Cr : Addr} {fd : FuncData} (F : FnM K "rows" "Rights.rows" sGRows f fd) (TG : Rg K mg Cg) (B : Bl mg) : FnOk P w K mg base CX0 1 f fd ["self"] (spRowsG Cg Cr) := by
  refine F.ok scGRows (fun vs H Q E h => ?_) (fun cdv A outer s H vs Q E hr h => ?_)
  · obtain ⟨p, q, AR, BR, rfl, _⟩ := h
    rfl
  · obtain ⟨p, q, AR, BR, rfl, R, k⟩ := h
    refine ⟨_, PSs.nox (pss_one
      (ps_ret (pe_callTy (listK (K := K)) (by rfl) B.list (by decide +kernel) (pa_cons (fldK (K := K) (pv 0) rfl) pa_nil)))), ?_⟩
    obtain ⟨dx, tn, tr, dw, dl, dp, h1, h2, h3, h4, h5, h6, h7⟩ := id R.at_.ex
    exact ⟨_, rfl, p, Cg, dx, _, _, rfl, h1, TG.cl, TG._rows, rr6o _ _ _ _ _ _, tr, _, rfl, .inr (.inl (.inl h4)), fun l nl => k l nl⟩
end
end K0
end
section
set_option Elab.async false
set_option linter.all false
set_option maxRecDepth 100000
set_option maxHeartbeats 4000000
namespace K0
open PySem PySem.Spec PyProof.Rows L2
/-! ### lists of new tuples -/
structure TsAt (H : Hp) (D : Addr) (f : Nat → List V) (m : Nat) : Prop where
  ex : ∃ ts : List Addr, H D = some (.lst (ts.map V.ref)) ∧ ts.length = m ∧ ∀ k t, ts[k]? = some t → H t = some (.tup (f k))
theorem TsAt.same {H H' : Hp} {D : Addr} {f : Nat → List V} {m : Nat} (h : TsAt H D f m) (s : Same H H') : TsAt H' D f m := by
  obtain ⟨ts, h1, h2, h3⟩ := h.ex
  exact ⟨ts, s _ _ h1, h2, fun k t hk => s _ _ (h3 k t hk)⟩
theorem lc_itP {J : It} {n : Nat} {G : Hp → Prop} {Y : Nat → Hp → V → Hp → Prop} (w : Walk J n G Y) {g : TG} {tt : TT} {te : TE} {vs : List Nat} {σ : L2.St} {H1 : Hp} {D : Addr} {Qd : Hp → Prop} (f : Nat → List V) (hD : H1 D = none) (hz : n ≤ 900) (hG : ∀ H, Same H1 H → G H)
    (hs : ∀ i x H H' (Nx : Hp → Prop), i < n → Same H1 H → H D ≠ none → (∀ t H5, Same H H5 → H5 t = some (.tup (f i)) → ∃ acc, H5 D = some (.lst acc) ∧ acc.length < sizeLine ∧ Nx (upd H5 D (.lst (acc ++ [.ref t])))) → Y i H x H' → g x (wipe σ vs) H' fun σ2 H2 => wipe σ2 vs = wipe σ vs ∧ tt σ2 H2 fun b H3 =>
      if b = true then te σ2 H3 fun y H4 => ∃ acc, H4 D = some (.lst acc) ∧ acc.length < sizeLine ∧ Nx (upd H4 D (.lst (acc ++ [y]))) else Nx H3) (hd : ∀ H, Same H1 H → TsAt H D f n → Qd H) :
    ∃ W : Nat → Nat → Hp → Prop, (∃ m, W 0 m (upd H1 D (.lst []))) ∧ ∀ i m H, W i m H →
      (J.stop i H ∧ Qd H) ∨ (J.go i H ∧ ∃ Nx : Hp → Prop, (∀ H', Nx H' → ∃ m', m' < m ∧ W (i + 1) m' H') ∧ ∀ x H', J.yld i H x H' → g x (wipe σ vs) H' fun σ2 H2 => wipe σ2 vs = wipe σ vs ∧ tt σ2 H2 fun b H3 =>
        if b = true then te σ2 H3 fun y H4 => ∃ acc, H4 D = some (.lst acc) ∧ acc.length < sizeLine ∧ Nx (upd H4 D (.lst (acc ++ [y]))) else Nx H3) := by
  refine lc_it w (fun i H => Same H1 H ∧ TsAt H D f i) ⟨same_upd hD, ⟨[], upd_same, rfl, fun k t hk => by cases hk⟩⟩ (fun i H _ h => hG H h.1) (fun i x H H' hi h y => ?_) (fun H h => hd H h.1 h.2)
  obtain ⟨ts, h1, h2, h3⟩ := id h.2.ex
  refine hs i x H H' _ hi h.1 (by rw [h1]; exact fun z => by cases z) (fun t H5 s ht => ?_) y
  have hD5 := s _ _ h1
  have tD : t ≠ D := ne_of ht hD5 (fun z => by cases z)
  refine ⟨_, hD5, by rw [List.length_map]; exact small1000 (by omega), fun b o hb => ?_, ts ++ [t], by rw [upd_same, List.map_append]; rfl, by rw [List.length_append, h2]; rfl, fun k u hk => ?_⟩
  · rw [upd_ne (ne_of_none hb hD)]
    exact s _ _ (h.1 _ _ hb)
  · rcases Nat.lt_or_ge k ts.length with hl | hl
    · rw [List.getElem?_append_left hl] at hk
      have := s _ _ (h3 k u hk)
      rw [upd_ne (ne_of this hD5 (fun z => by cases z))]
      exact this
    · rw [List.getElem?_append_right hl] at hk
      have hk0 : k - ts.length = 0 := by
        have := (List.getElem?_eq_some_iff.mp hk).1
        rw [List.length_singleton] at this
        omega
      rw [hk0] at hk
      obtain rfl : t = u := Option.some.inj hk
      rw [upd_ne tD, show k = i by omega]
      exact ht
/-! ### the order in which rights are taken away -/
section
variable {K : PySem.W.Frag}
structure Gk (K : PySem.W.Frag) (Cg Cr : Addr) : Prop where
  last : ∃ f fd, FnM K "last" "Rights.last" sGLast f fd ∧ Meth K Cg "last" f
  way : ∃ f fd, FnM K "way" "Rights.way" sGWay f fd ∧ Meth K Cg "way" f
  passing : ∃ f fd, FnM K "passing" "Rights.passing" sGPassing f fd ∧ Meth K Cg "passing" f
  depth : ∃ f fd, FnM K "depth" "River.depth" sDepth f fd ∧ Meth K Cr "depth" f
  course : ∃ f fd, FnM K "course" "River.course" sCourseM f fd ∧ Meth K Cr "course" f
end
end K0
end
section
set_option Elab.async false
set_option linter.all false
set_option maxRecDepth 100000
set_option maxHeartbeats 4000000
namespace K0
open PySem PySem.Spec PyProof.Rows L2
/-! ### the law draws rights -/
structure RNm (ns : List Str) : Prop where
  nd : ns.Nodup
  ok : ∀ x ∈ ns, NameOk x
theorem cut_take (xs : List V) (m : Nat) : cutV xs none (some (m : Int)) = xs.take m := by
  unfold cutV
  rw [HT.sIx_nat, HT.sIx_none, List.drop_zero, Nat.sub_zero, List.take_eq_take_iff]
  omega
theorem nodup_set {ns : List Str} {x : Str} (h : ns.Nodup) (hx : x ∉ ns) : ∀ i : Nat, (ns.set i x).Nodup := by
  induction ns with
  | nil => exact fun i => by simp
  | cons a r ih =>
    obtain ⟨h1, h2⟩ := List.nodup_cons.mp h
    intro i
    cases i with
    | zero => exact List.nodup_cons.mpr ⟨fun z => hx (List.mem_cons_of_mem _ z), h2⟩
    | succ i =>
      refine List.nodup_cons.mpr ⟨fun z => ?_, ih h2 (fun z => hx (List.mem_cons_of_mem _ z)) i⟩
      rcases List.mem_or_eq_of_mem_set z with e | e
      · exact h1 e
      · exact hx (e ▸ List.mem_cons_self)
theorem split3 {α β γ : Type} {R C : α → β → γ → Prop} {G : Prop} (use : (∀ a b c, R a b c → C a b c) → G) (key : ∀ a b c, R a b c → C a b c) : G := use key
abbrev scRNames_N : List Str := ["_law_bag_here", "_law_rows", "_law_many", "_law_names_here", "_law_row"]
abbrev scRNames_S : Stmt := sRNames
theorem scRNames : FnScope scRNames_N ["_law_bag_here", "_law_rows", "_law_many"] (defScope sRNames) := ⟨rfl, rfl, rfl, by decide +kernel, rfl, by decide +kernel, by decide +kernel⟩
def spRNames : Sp := fun vs H Q _ => ∃ (p l : Addr) (m : Nat) (AR : List (Addr × Row)), vs = [.ref p, .ref l, .int (m : Int)] ∧ BagAt H p ∧ l ≠ p ∧ RowsAt H l AR ∧ GoodRows (rowsOf AR) ∧ m ≤ 40 ∧
  ∀ (H' : Hp) (z : Addr) (ns : List Str), Upto p H H' → BagAt H' p → H z = none → z ≠ p → H' z = some (.lst (ns.map V.str)) → ns.length = m → RNm ns → Q (.ref z) H'
/-- what stands between the steps -/
structure RnS (H : Hp) (p l : Addr) (AR : List (Addr × Row)) (m : Nat) (H' : Hp) (z : Addr) (ns : List Str) : Prop where
  u : Upto p H H'
  bag : BagAt H' p
  new : H z = none
  zp : z ≠ p
  lst : H' z = some (.lst (ns.map V.str))
  len : ns.length = m
  ok : RNm ns
  sea : ("sea" : Str) ∉ ns
section
variable {P : Program} {w : World} {K : PySem.W.Frag} {mg : Str → Option Value} {base : Heap} {tS tM tL : Tok}
theorem ok_rnames {f : Addr} {fd : FuncData} (F : FnP K "_law_right_names" sRNames f fd) (T : Hf K mg) : FnOk P w K mg base CX0 4 f fd ["_law_bag_here", "_law_rows", "_law_many"] spRNames := by
  have B := T.B
  obtain ⟨fT, fdT, F_law_take, g_law_take⟩ := T.take
  obtain ⟨fO, fdO, F_law_of, g_law_of⟩ := T.of
  obtain ⟨fM, fdM, F_law_mixed, g_law_mixed⟩ := T.mixed
  obtain ⟨fN, fdN, F_law_names, g_law_names⟩ := T.names
  have G_law_take : FnOk P w K mg base CX0 1 fT fdT ["_law_bag_here", "_law_many"] spTake := ok_take F_law_take B
  have b_law_take : Binds K fdT ["_law_bag_here", "_law_many"] [] := F_law_take.bindsN fun _ _ _ _ _ _ us hl => match us, hl with | [_, _], _ => rfl
  have G_law_mixed : FnOk P w K mg base CX0 2 fM fdM ["_law_bag_here", "_law_some"] (spMixed K) := ok_mixed F_law_mixed F_law_take B g_law_take
  have b_law_mixed : Binds K fdM ["_law_bag_here", "_law_some"] [] := F_law_mixed.bindsN fun _ _ _ _ _ _ us hl => match us, hl with | [_, _], _ => rfl
  have G_law_names : FnOk P w K mg base CX0 3 fN fdN ["_law_bag_here", "_law_many"] spNames := ok_names F_law_names F_law_take F_law_of B g_law_take g_law_of
  have b_law_names : Binds K fdN ["_law_bag_here", "_law_many"] [] := F_law_names.bindsN fun _ _ _ _ _ _ us hl => match us, hl with | [_, _], _ => rfl
  refine F.ok scRNames (fun vs H Q E h => ?_) (fun cdv A outer s H vs Q E hr h => ?_)
  · obtain ⟨p, l, m, AR, rfl, _⟩ := h
    rfl
  · obtain ⟨p, l, m, AR, rfl, hB, hlp, hR, hG, hm, k⟩ := h
    have hr_law_take : Room 1 _ := hr.mono (by decide)
    have hr_law_mixed : Room 2 _ := hr.mono (by decide)
    have hr_law_names : Room 3 _ := hr
    refine ⟨_, PSs.nox (pss_cons
      (ps_set (i := 3) scRNames.nd rfl (Or.inl rfl) (pe_call G_law_names hr_law_names (by rfl) g_law_names F_law_names.kp b_law_names .nil pass0 (pa_cons (pv 0) (pa_cons (pv 2) pa_nil))))
      (pss_cons
      (ps_if (PW.pt (pw_and (pt_cmpR op_le (pv 2) (pe_callB (lenK (K := K)) (by rfl) B.len PySem.boot_len (pa_cons (pv 1) pa_nil)) (nomark _)) (pw_and1 (pt_cmpR op_eq (pe_call G_law_take hr_law_take (by rfl) g_law_take F_law_take.kp b_law_take .nil pass0 (pa_cons (pv 0) (pa_cons pe_int pa_nil))) pe_int (nomark _))))) (pss_one
      (ps_set (i := 3) scRNames.nd rfl (Or.inl rfl) (pe_slice sl_list (pe_lc (own := [("_law_row", 4)]) (g := gName 4) (tt := tYes) (by rfl) scRNames.nd (pi_list (pe_call G_law_mixed hr_law_mixed (by rfl) g_law_mixed F_law_mixed.kp b_law_mixed .nil pass0 (pa_cons (pv 0) (pa_cons (pv 1) pa_nil)))) (blkOk_by (own := [("_law_row", 4)]) (N := scRNames_N) (sc := defScope scRNames_S) (by decide +kernel)) (fun _ _ _ _ _ => (pg_name (i := 4) scRNames.nd rfl (Or.inl rfl))) (fun _ _ _ _ _ => pts_nil) (fun _ _ _ _ _ => (pe_ix (ixTK (K := K)) (pv 4) pe_int (fun _ _ => rfl)))) po_none (po_some (pv 2))))) pss_nil)
      (pss_cons
      (ps_if (PW.pt (pw_and (pt_cmpR op_gt (pv 2) pe_int (nomark _)) (pw_and1 (pt_cmpR op_eq (pe_call G_law_take hr_law_take (by rfl) g_law_take F_law_take.kp b_law_take .nil pass0 (pa_cons (pv 0) (pa_cons pe_int pa_nil))) pe_int (nomark _))))) (pss_one
      (ps_asg pe_str (pg_sub (pv 3) (pe_call G_law_take hr_law_take (by rfl) g_law_take F_law_take.kp b_law_take .nil pass0 (pa_cons (pv 0) (pa_cons (pv 2) pa_nil))) set_list))) pss_nil)
      (pss_one
      (ps_ret (pv 3)))))), ?_⟩
    have hAl : (rowsOf AR).length = AR.length := List.length_map _
    have hRm := hG.most
    have hnl : (namesOf AR).length = AR.length := nmlen AR
    refine ⟨_, rfl, _, rfl, p, m, rfl, hB, by omega, fun H1 z ns u1 B1 nz zp hz hlen hok => ?_⟩
    have hseaN : ("sea" : Str) ∉ ns := fun q => hok.sea _ q rfl
    have st0 : RnS H p l AR m H1 z ns := ⟨u1, B1, nz, zp, hz, hlen, ⟨hok.nd, hok.ok⟩, hseaN⟩
    have hR1 : RowsAt H1 l AR := hR.upto hB hlp u1
    refine split3 (α := Hp) (β := Addr) (γ := List Str) (R := fun H2 z2 ns2 => RnS H p l AR m H2 z2 ns2) (C := ?C) ?use ?key
    case use =>
      intro key
      refine ⟨_, rfl, _, rfl, l, _, rfl, .inl (.inl (.inl hR1.lst)), _, _, rfl, rfl, _, rfl, ?_⟩
      refine ite2 (fun hc => ?_) (fun hc => ?_)
      · have hc : m ≤ AR.length := by
          have := of_decide_eq_true hc
          rw [List.length_map] at this
          omega
        refine ⟨_, rfl, p, 3, rfl, B1, by decide, by decide, fun r xs hr0 hr1 hx => ?_⟩
        have u2 : Upto p H (upd H1 p (.lst xs)) := u1.trans Upto.at_
        have B2 : BagAt (upd H1 p (.lst xs)) p := ⟨xs, upd_same, hx⟩
        have hz2 : (upd H1 p (.lst xs)) z = some (.lst (ns.map V.str)) := by rw [upd_ne zp]; exact hz
        have hR2 : RowsAt (upd H1 p (.lst xs)) l AR := hR1.upto B1 hlp Upto.at_
        generalize upd H1 p (.lst xs) = H2 at u2 B2 hz2 hR2
        refine ⟨rfl, _, rfl, ?_⟩
        refine ite2 (fun hc2 => ?_) (fun hc2 => ?_)
        · refine ⟨_, rfl, _, rfl, p, l, _, rfl, B2, hlp, .inl (.inl hR2.lst), by rw [List.length_map]; omega, fun H3 y zs u3 B3 ny nyp hy hp => ?_⟩
          obtain ⟨AR', ezs, hp'⟩ := perm_lift hp AR rfl
          subst ezs
          have hR3 : RowsAt H3 l AR := hR2.upto B2 hlp u3
          have tup3 : ∀ q ∈ AR', H3 q.1 = some (.tup [.str q.2.1, .str q.2.2]) := fun q hq => hR3.tup q (hp'.mem_iff.mp hq)
          have hlen' : AR'.length = AR.length := hp'.length_eq
          refine ⟨y, rfl, ⟨_, .inl (.inl hy)⟩, fun D hD => ?_⟩
          refine lc_listO (K := K) (a := y) (xs := AR'.map fun q => V.ref q.1) hD (fun i => ((namesOf AR').take i).map V.str) (by rw [List.take_zero]; rfl) (fun i hi => by rw [List.length_map, List.length_take, nmlen]; exact small1000 (by omega)) (.inl (.inl hy)) ?_ ?_
          · intro i x H4 Nx hx s put skip
            have hi : i < AR'.length := by
              have := (List.getElem?_eq_some_iff.mp hx).1
              rw [List.length_map] at this
              exact this
            have ex := row_at hx hi
            subst ex
            have hni : (namesOf AR')[i]? = some AR'[i].2.1 := by
              show ((AR'.map (·.2)).map (·.1))[i]? = _
              rw [List.getElem?_map, List.getElem?_map, List.getElem?_eq_getElem hi]
              rfl
            refine ⟨rfl, ?_⟩
            unfold tYes
            refine iteT ?_
            exact ⟨_, rfl, AR'[i].1, _, _, _, rfl, rfl, .inl (.inl (s _ _ (tup3 _ (List.getElem_mem hi)))), atI_nat (j := 0) rfl, put _ _ (.refl _) (take_map1 hni)⟩
          intro H4 s4 hl4
          rw [List.length_map, ← nmlen AR', List.take_length] at hl4
          refine ⟨_, rfl, _, rfl, D, _, rfl, .inl (.inl hl4), fun z2 nz2 => ?_⟩
          obtain ⟨b3, hb3, hv3⟩ := id B3
          have u5 : Upto p H (upd H4 z2 (.lst (cutV ((namesOf AR').map V.str) none (some (m : Int))))) := (((u2.trans u3).trans (Upto.of s4))).trans (Upto.of (same_upd nz2))
          have z2p : z2 ≠ p := fun e => by
            rw [e, s4 _ _ hb3] at nz2
            cases nz2
          have B5 : BagAt (upd H4 z2 (.lst (cutV ((namesOf AR').map V.str) none (some (m : Int))))) p := ⟨b3, by rw [upd_ne z2p.symm]; exact s4 _ _ hb3, hv3⟩
          have hz5 : (upd H4 z2 (.lst (cutV ((namesOf AR').map V.str) none (some (m : Int))))) z2 = some (.lst (((namesOf AR').take m).map V.str)) := by rw [upd_same, cut_take, List.map_take]
          generalize upd H4 z2 (.lst (cutV ((namesOf AR').map V.str) none (some (m : Int)))) = H5 at u5 B5 hz5
          have hHz2 : H z2 = none := by
            cases e : H z2 with
            | none => rfl
            | some o =>
              rw [s4 _ _ (u3 _ _ (u2 _ _ e z2p) z2p)] at nz2
              cases nz2
          have hG' : GoodRows (rowsOf AR') := hG.perm (hp'.map _)
          have hst : RnS H p l AR m H5 z2 ((namesOf AR').take m) := ⟨u5, B5, hHz2, z2p, hz5, by rw [List.length_take, nmlen]; omega, ⟨hG'.nm.nd.sublist (List.take_sublist _ _), fun x hx => hG'.nm.ok x (List.mem_of_mem_take hx)⟩, fun q => hG'.nm.sea _ (List.mem_of_mem_take q) rfl⟩
          generalize (namesOf AR').take m = ns5 at hst
          exact key H5 z2 ns5 hst
        · exact key H2 z ns ⟨u2, B2, nz, zp, hz2, hlen, ⟨hok.nd, hok.ok⟩, hseaN⟩
      · exact key H1 z ns st0
    case key =>
      intro H2 z2 ns2 S
      have B2 := S.bag
      refine ⟨_, rfl, _, _, rfl, rfl, _, rfl, ?_⟩
      refine ite2 (fun hc => ?_) (fun hc => ?_)
      · have hc : 0 < m := by
          have := of_decide_eq_true hc
          omega
        refine ⟨_, rfl, p, 6, rfl, B2, by decide, by decide, fun r xs hr0 hr1 hx => ⟨rfl, _, rfl, ?_⟩⟩
        have u3 : Upto p H (upd H2 p (.lst xs)) := S.u.trans Upto.at_
        have B3 : BagAt (upd H2 p (.lst xs)) p := ⟨xs, upd_same, hx⟩
        have hz3 : (upd H2 p (.lst xs)) z2 = some (.lst (ns2.map V.str)) := by rw [upd_ne S.zp]; exact S.lst
        generalize upd H2 p (.lst xs) = H3 at u3 B3 hz3
        refine ite2 (fun hc2 => ?_) (fun hc2 => ?_)
        · refine ⟨_, rfl, _, rfl, _, rfl, p, (m : Int), rfl, B3, by omega, by omega, fun r2 xs2 hr2 hr3 hx2 => ?_⟩
          obtain ⟨rn, rfl⟩ : ∃ rn : Nat, r2 = (rn : Int) := ⟨r2.toNat, by omega⟩
          have u4 : Upto p H (upd H3 p (.lst xs2)) := u3.trans Upto.at_
          have B4 : BagAt (upd H3 p (.lst xs2)) p := ⟨xs2, upd_same, hx2⟩
          have hz4 : (upd H3 p (.lst xs2)) z2 = some (.lst (ns2.map V.str)) := by rw [upd_ne S.zp]; exact hz3
          generalize upd H3 p (.lst xs2) = H4 at u4 B4 hz4
          have hlen2 := S.len
          have hrn : rn < ns2.length := by omega
          refine ⟨z2, _, _, rn, rfl, rfl, hz4, ?_, ?_⟩
          · unfold ixN
            rw [List.length_map]
            simp only [Int.natCast_nonneg, if_true]
            rw [if_pos (by omega)]
            rfl
          · rw [show (ns2.map V.str).set rn (.str "sea") = (ns2.set rn "sea").map V.str by rw [List.map_set]]
            obtain ⟨b4, hb4, hv4⟩ := id B4
            refine ⟨_, rfl, k _ z2 (ns2.set rn "sea") (fun b o hb hn => ?_) ⟨b4, by rw [upd_ne S.zp.symm]; exact hb4, hv4⟩ S.new S.zp upd_same (by rw [List.length_set]; exact hlen2) ⟨nodup_set S.ok.nd S.sea rn, fun x hx => ?_⟩⟩
            · rw [upd_ne (ne_of_none hb S.new)]
              exact u4 _ _ hb hn
            · rcases List.mem_or_eq_of_mem_set hx with e | e
              · exact S.ok.ok x e
              · rw [e]
                exact sea_ok
        · exact ⟨_, rfl, k H3 z2 ns2 u3 B3 S.new S.zp hz3 S.len S.ok⟩
      · exact ⟨_, rfl, k H2 z2 ns2 S.u B2 S.new S.zp S.lst S.len S.ok⟩
end
end K0
end
section
set_option Elab.async false
set_option linter.all false
set_option maxRecDepth 100000
namespace K0
open PySem PySem.Spec PyProof.Rows L2
theorem iteYes {c A B : Prop} [Decidable c] (hc : ¬ c) (h : A) : if (!decide c) = true then A else B := by
  rw [decide_eq_false hc]
  exact iteT h
theorem iteNo {c A B : Prop} [Decidable c] (hc : ¬ ¬ c) (h : B) : if (!decide c) = true then A else B := by
  rw [decide_eq_true (Decidable.not_not.mp hc)]
  exact iteF h
theorem low_sea {R : List Row} (g : GoodRows R) : lowR R "sea" = "sea" := by
  unfold lowR
  cases e : R.find? (fun r => decide (r.1 = ("sea" : Str))) with
  | none => rfl
  | some r =>
    have h1 := List.mem_of_find?_eq_some e
    have h0 := List.find?_some e
    have h2 := of_decide_eq_true h0
    exact absurd h2 (g.nm.sea _ (List.mem_map.mpr ⟨r, h1, rfl⟩))
theorem itr_sea {low : Str → Str} (h : low "sea" = "sea") : ∀ n, itr low n "sea" = "sea"
  | 0 => rfl
  | n + 1 => by
    show low (itr low n "sea") = "sea"
    rw [itr_sea h n, h]
theorem crs_snoc {low : Str → Str} (h : low "sea" = "sea") : ∀ (n : Nat) (x : Str), crs low (n + 1) x = crs low n x ++ (if itr low n x = "sea" then [] else [itr low n x])
  | 0, x => rfl
  | n + 1, x => by
    show (if x = "sea" then [] else x :: crs low (n + 1) (low x)) = (if x = "sea" then [] else x :: crs low n (low x)) ++ _
    rw [itr_shift]
    by_cases hx : x = "sea"
    · subst hx
      rw [if_pos rfl, if_pos rfl, h, itr_sea h n, if_pos rfl]
      rfl
    · rw [if_neg hx, if_neg hx, crs_snoc h n (low x)]
      rfl
theorem itr_in {R : List Row} (g : GoodRows R) {x : Str} (hx : x ∈ nmsOf R) : ∀ n, itr (lowR R) n x = "sea" ∨ itr (lowR R) n x ∈ nmsOf R
  | 0 => .inr hx
  | n + 1 => by
    show lowR R (itr (lowR R) n x) = "sea" ∨ lowR R (itr (lowR R) n x) ∈ nmsOf R
    rcases itr_in g hx n with e | e
    · rw [e]
      exact .inl (low_sea g)
    · obtain ⟨r, hr, e1, e2⟩ := low_row e
      obtain ⟨rk, hk⟩ := g.rank
      rw [← e2]
      rcases hk r hr with z | ⟨z, _⟩
      · exact .inl z
      · exact .inr z
theorem merge_rows {R : List Row} : ∀ {Q : List Row} {ns : List Str}, (ns ++ Q.map (·.1)).Nodup → (∀ r ∈ Q, lowR R r.1 = r.2) → mergeK (kmap (fun y => .str (lowR R y)) ns) (Q.map fun r => ((Sum.inr r.1 : Key), V.str r.2)) = kmap (fun y => .str (lowR R y)) (ns ++ Q.map (·.1))
  | [], ns, _, _ => by
    show kmap (fun y => V.str (lowR R y)) ns = kmap (fun y => V.str (lowR R y)) (ns ++ [])
    rw [List.append_nil]
  | r :: Q, ns, hd, hl => by
    have hd2 : ((ns ++ [r.1]) ++ Q.map (·.1)).Nodup := by
      rw [List.append_assoc]
      exact hd
    have hn : r.1 ∉ ns := fun z => by
      have := List.nodup_append.mp hd
      exact this.2.2 r.1 z r.1 (by rw [List.map_cons]; exact List.mem_cons_self) rfl
    have ih := merge_rows (Q := Q) hd2 fun q hq => hl q (List.mem_cons_of_mem _ hq)
    have e1 : putK (kmap (fun y => V.str (lowR R y)) ns) (Sum.inr r.1) (V.str r.2) = kmap (fun y => V.str (lowR R y)) (ns ++ [r.1]) := by
      have := kmap_put (f := fun y => V.str (lowR R y)) hn
      rw [hl r List.mem_cons_self] at this
      exact this
    show mergeK (putK (kmap (fun y => V.str (lowR R y)) ns) (Sum.inr r.1) (V.str r.2)) (Q.map fun r => ((Sum.inr r.1 : Key), V.str r.2)) = _
    rw [e1, ih, List.append_assoc]
    rfl
theorem merge_all {R : List Row} (g : GoodRows R) : mergeK [] (R.map fun r => ((Sum.inr r.1 : Key), V.str r.2)) = belowK R :=
  merge_rows (R := R) (Q := R) (ns := []) (by simpa using g.nm.nd) fun r hr => low_at g.nm.nd hr
theorem rows_pairs {K : PySem.W.Frag} {H : Hp} : ∀ {AR : List (Addr × Row)}, (∀ q ∈ AR, H q.1 = some (.tup [.str q.2.1, .str q.2.2])) → Paired (fun p (kv : Key × V) => SqT K H p [kV kv.1, kv.2]) (AR.map (·.1)) ((rowsOf AR).map fun r => ((Sum.inr r.1 : Key), V.str r.2))
  | [], _ => .nil
  | q :: AR, h => .cons (.inl (.inl (h q List.mem_cons_self))) (rows_pairs fun z hz => h z (List.mem_cons_of_mem _ hz))
abbrev scLCourse_N : List Str := ["_law_rows", "_law_weir", "_law_below", "_law_found", "_law_k"]
theorem scLCourse : FnScope scLCourse_N ["_law_rows", "_law_weir"] (defScope sLCourse) := ⟨rfl, rfl, rfl, by decide +kernel, rfl, by decide +kernel, by decide +kernel⟩
def spLCourse : Sp := fun vs H Q _ => ∃ (l : Addr) (AR : List (Addr × Row)) (y : Str), vs = [.ref l, .str y] ∧ RowsAt H l AR ∧ GoodRows (rowsOf AR) ∧ y ∈ namesOf AR ∧
  ∀ (H' : Hp) (c : Addr), Same H H' → H c = none → H' c = some (.lst ((course (rowsOf AR) y).map V.str)) → Q (.ref c) H'
section
variable {P : Program} {w : World} {K : PySem.W.Frag} {mg : Str → Option Value} {base : Heap} {tS tM tL : Tok}
theorem ok_lcourse {f : Addr} {fd : FuncData} (F : FnP K "_law_course" sLCourse f fd) (B : Bl mg) : FnOk P w K mg base CX0 1 f fd ["_law_rows", "_law_weir"] spLCourse := by
  refine F.ok scLCourse (fun vs H Q E h => ?_) (fun cdv A outer s H vs Q E hr h => ?_)
  · obtain ⟨l, AR, y, rfl, _⟩ := h
    rfl
  · obtain ⟨l, AR, y, rfl, hR, hG, hy, k⟩ := h
    have hu := hu_of hr
    refine ⟨_, PSs.nox (pss_cons
      (ps_par (i := 2) (j := 3) (by rfl) scLCourse.nd rfl rfl (by decide) rfl rfl (pa_cons (pe_callTy (call_dictP rfl) (by rfl) B.dict (by decide +kernel) (pa_cons (pv 0) pa_nil)) (pa_cons (pe_lst pa_nil) pa_nil)) (by rfl))
      (pss_cons
      (ps_for PassesOwn.never rfl (pi_range1 (by rfl) B.range (pa_cons (pe_callB (lenK (K := K)) (by rfl) B.len PySem.boot_len (pa_cons (pv 0) pa_nil)) pa_nil)) (pg_name (i := 4) scLCourse.nd rfl (Or.inl rfl)) (pss_one
      (ps_if (pt_cmpR op_ne (pv 1) pe_str (nomark _)) (pss_cons
      (ps_expr (pe_bm PySem.F.plainAttrs_list PySem.F.slot_list_append PySem.F.type_list_append mt_append (pv 3) (pa_cons (pv 1) pa_nil)))
      (pss_one
      (ps_set (i := 1) scLCourse.nd rfl (Or.inl rfl) (pe_dget hu (pv 2) (pv 1) (fun _ _ => rfl))))) pss_nil)))
      (pss_one
      (ps_ret (pv 3))))), ?_⟩
    have hRm := hG.most
    have hAl : (rowsOf AR).length = AR.length := List.length_map _
    refine ⟨_, rfl, l, AR.map (·.1), (rowsOf AR).map fun r => ((Sum.inr r.1 : Key), V.str r.2), rfl, ?_, rows_pairs hR.tup, fun d nd => ?_⟩
    · rw [List.map_map]
      exact .inl (.inl hR.lst)
    rw [merge_all hG]
    refine ⟨Nat.zero_le _, fun c nc => ⟨_, _, rfl, ?_⟩⟩
    have ndc : d ≠ c := ne_of_none upd_same nc
    have nc0 : H c = none := by
      rw [upd_ne ndc.symm] at nc
      exact nc
    have s1 : Same H (upd (upd H d (.dK (belowK (rowsOf AR)))) c (.lst [])) := (same_upd nd).trans (same_upd nc)
    refine ⟨_, rfl, l, _, rfl, .inl (.inl (.inl (s1 _ _ hR.lst))), ((AR.map fun q => V.ref q.1).length : Int), rfl, by omega, by rw [List.length_map]; omega, ?_⟩
    refine for_range (n := (AR.map fun q => V.ref q.1).length) (lo := 0) (fun i σ H2 => ∃ v, σ = [some (.ref l), some (.str (itr (lowR (rowsOf AR)) i y)), some (.ref d), some (.ref c), v] ∧ Same H H2 ∧ H2 d = some (.dK (belowK (rowsOf AR))) ∧ H2 c = some (.lst ((crs (lowR (rowsOf AR)) i y).map V.str)) ∧ (crs (lowR (rowsOf AR)) i y).length ≤ i)
      ⟨none, rfl, s1, by rw [upd_ne ndc, upd_same], upd_same, Nat.le_refl _⟩ ?_ ?_
    · rintro i σ H2 hi ⟨v, rfl, s2, hd2, hc2, hl2⟩
      have hls := low_sea hG
      refine ⟨_, rfl, rfl, ?_⟩
      have hcz := crs_snoc hls i y
      rcases itr_in hG hy i with e | e
      · have ec : crs (lowR (rowsOf AR)) (i + 1) y = crs (lowR (rowsOf AR)) i y := by rw [hcz, if_pos e, List.append_nil]
        have ei : itr (lowR (rowsOf AR)) (i + 1) y = itr (lowR (rowsOf AR)) i y := by
          show lowR (rowsOf AR) (itr (lowR (rowsOf AR)) i y) = _
          rw [e, hls]
        refine ⟨_, rfl, ?_⟩
        refine iteNo (fun z => z (congrArg V.str e)) ?_
        exact ⟨_, by rw [ei]; rfl, s2, hd2, by rw [ec]; exact hc2, by rw [ec]; omega⟩
      · have en : itr (lowR (rowsOf AR)) i y ≠ "sea" := hG.nm.sea _ e
        have ec : crs (lowR (rowsOf AR)) (i + 1) y = crs (lowR (rowsOf AR)) i y ++ [itr (lowR (rowsOf AR)) i y] := by rw [hcz, if_neg en]
        refine ⟨_, rfl, ?_⟩
        refine iteYes (fun z => en (V.str.inj z)) ?_
        have hi40 : i ≤ 40 := by rw [List.length_map] at hi; omega
        have dc : d ≠ c := ne_of hd2 hc2 (fun z => by cases z)
        refine ⟨_, rfl, .inl ⟨rfl, _, .inl (.inl hc2)⟩, _, rfl, c, _, _, rfl, rfl, hc2, by rw [List.length_map]; exact small1000 (by omega), ?_⟩
        refine ⟨_, rfl, _, rfl, d, _, rfl, dget_rn (.inl ((upd_ne dc).trans hd2)) e, ?_⟩
        refine ⟨_, rfl, fun b o hb => ?_, (upd_ne dc).trans hd2, ?_, ?_⟩
        · rw [upd_ne (ne_of_none hb nc0)]
          exact s2 b o hb
        · rw [upd_same, ec, List.map_append]
          rfl
        · rw [ec, List.length_append]
          show _ + 1 ≤ i + 1
          omega
    · rintro σ H2 ⟨v, rfl, s2, hd2, hc2, hl2⟩
      have en : (AR.map fun q => V.ref q.1).length = (rowsOf AR).length := by rw [List.length_map, hAl]
      rw [en] at hc2
      exact ⟨_, rfl, k H2 c s2 nc0 hc2⟩
end
end K0
end
section
set_option Elab.async false
set_option linter.all false
set_option maxRecDepth 100000
set_option maxHeartbeats 4000000
namespace K0
open PySem PySem.Spec PyProof.Rows L2
abbrev scLRights_N : List Str := ["_law_bag_here", "_law_rows", "_law_many", "_law_found", "_law_name", "_law_course_here", "_law_at"]
abbrev scLRights_S : Stmt := sLRights
theorem scLRights : FnScope scLRights_N ["_law_bag_here", "_law_rows", "_law_many"] (defScope sLRights) := ⟨rfl, rfl, rfl, by decide +kernel, rfl, by decide +kernel, by decide +kernel⟩
def spLRights : Sp := fun vs H Q _ => ∃ (p l : Addr) (m : Nat) (AR : List (Addr × Row)), vs = [.ref p, .ref l, .int (m : Int)] ∧ BagAt H p ∧ l ≠ p ∧ RowsAt H l AR ∧ GoodRows (rowsOf AR) ∧ m ≤ 40 ∧
  ∀ (H' : Hp) (z : Addr) (BR : List (Addr × RRow)), Upto p H H' → BagAt H' p → H z = none → z ≠ p → BRows H' z BR → RtOk (rowsOf AR) (bOf BR) → BR.length = m → Q (.ref z) H'
abbrev scLWay_N : List Str := ["_law_rows", "_law_right", "_law_course_here"]
abbrev scLWay_S : Stmt := sLWay
theorem scLWay : FnScope scLWay_N ["_law_rows", "_law_right"] (defScope sLWay) := ⟨rfl, rfl, rfl, by decide +kernel, rfl, by decide +kernel, by decide +kernel⟩
def spLWay : Sp := fun vs H Q _ => ∃ (l t : Addr) (AR : List (Addr × Row)) (r : RRow), vs = [.ref l, .ref t] ∧ RowsAt H l AR ∧ GoodRows (rowsOf AR) ∧ H t = some (.tup [.str r.1, .str r.2.1, .str r.2.2]) ∧ r.2.1 ∈ namesOf AR ∧ (r.2.2 = "sea" ∨ r.2.2 ∈ course (rowsOf AR) r.2.1) ∧
  ∀ (H' : Hp) (c : Addr), Same H H' → H c = none → H' c = some (.lst ((wayB (rowsOf AR) r).map V.str)) → Q (.ref c) H'
theorem eqV_str (a b : Str) : eqV (.str a) (.str b) = decide (a = b) := by
  show (a == b) = _
  rw [Bool.eq_iff_iff, beq_iff_eq, decide_eq_true_eq]
theorem bOf_snoc (BR : List (Addr × RRow)) (z : Addr × RRow) : bOf (BR ++ [z]) = bOf BR ++ [z.2] := List.map_append
theorem BRows.upto {H H' : Hp} {p l : Addr} {BR : List (Addr × RRow)} (r : BRows H l BR) (B : BagAt H p) (n : l ≠ p) (u : Upto p H H') : BRows H' l BR :=
  ⟨u _ _ r.lst n, fun q hq => u _ _ (r.tup q hq) (bag_ne B (r.tup q hq))⟩
section
variable {P : Program} {w : World} {K : PySem.W.Frag} {mg : Str → Option Value} {base : Heap} {tS tM tL : Tok}
theorem ok_lrights {f fN fC : Addr} {fd fdN fdC : FuncData} (F : FnP K "_law_rights" sLRights f fd) (F_law_right_names : FnP K "_law_right_names" sRNames fN fdN) (g_law_right_names : mg "_law_right_names" = some (.ref fN)) (F_law_course : FnP K "_law_course" sLCourse fC fdC) (g_law_course : mg "_law_course" = some (.ref fC)) (T : Hf K mg) : FnOk P w K mg base CX0 5 f fd ["_law_bag_here", "_law_rows", "_law_many"] spLRights := by
  have B := T.B
  obtain ⟨fT, fdT, F_law_take, g_law_take⟩ := T.take
  obtain ⟨fO, fdO, F_law_of, g_law_of⟩ := T.of
  have G_law_take : FnOk P w K mg base CX0 1 fT fdT ["_law_bag_here", "_law_many"] spTake := ok_take F_law_take B
  have b_law_take : Binds K fdT ["_law_bag_here", "_law_many"] [] := F_law_take.bindsN fun _ _ _ _ _ _ us hl => match us, hl with | [_, _], _ => rfl
  have G_law_of : FnOk P w K mg base CX0 2 fO fdO ["_law_bag_here", "_law_some"] (spOf K) := ok_of F_law_of F_law_take B g_law_take
  have b_law_of : Binds K fdO ["_law_bag_here", "_law_some"] [] := F_law_of.bindsN fun _ _ _ _ _ _ us hl => match us, hl with | [_, _], _ => rfl
  have G_law_course : FnOk P w K mg base CX0 1 fC fdC ["_law_rows", "_law_weir"] spLCourse := ok_lcourse F_law_course B
  have b_law_course : Binds K fdC ["_law_rows", "_law_weir"] [] := F_law_course.bindsN fun _ _ _ _ _ _ us hl => match us, hl with | [_, _], _ => rfl
  have G_law_right_names : FnOk P w K mg base CX0 4 fN fdN ["_law_bag_here", "_law_rows", "_law_many"] spRNames := ok_rnames F_law_right_names T
  have b_law_right_names : Binds K fdN ["_law_bag_here", "_law_rows", "_law_many"] [] := F_law_right_names.bindsN fun _ _ _ _ _ _ us hl => match us, hl with | [_, _, _], _ => rfl
  refine F.ok scLRights (fun vs H Q E h => ?_) (fun cdv A outer s H vs Q E hr h => ?_)
  · obtain ⟨p, l, m, AR, rfl, _⟩ := h
    rfl
  · obtain ⟨p, l, m, AR, rfl, hB, hlp, hR, hG, hm, k⟩ := h
    have hr_law_take : Room 1 _ := hr.mono (by decide)
    have hr_law_of : Room 2 _ := hr.mono (by decide)
    have hr_law_course : Room 1 _ := hr.mono (by decide)
    have hr_law_right_names : Room 4 _ := hr
    refine ⟨_, PSs.nox (pss_cons
      (ps_set (i := 3) scLRights.nd rfl (Or.inl rfl) (pe_lst pa_nil))
      (pss_cons
      (ps_for PassesOwn.never rfl (pi_list (pe_call G_law_right_names hr_law_right_names (by rfl) g_law_right_names F_law_right_names.kp b_law_right_names .nil pass0 (pa_cons (pv 0) (pa_cons (pv 1) (pa_cons (pv 2) pa_nil))))) (pg_name (i := 4) scLRights.nd rfl (Or.inl rfl)) (pss_cons
      (ps_set (i := 5) scLRights.nd rfl (Or.inl rfl) (pe_call G_law_course hr_law_course (by rfl) g_law_course F_law_course.kp b_law_course .nil pass0 (pa_cons (pv 1) (pa_cons (pe_ix (ixTK (K := K)) (pe_call G_law_of hr_law_of (by rfl) g_law_of F_law_of.kp b_law_of .nil pass0 (pa_cons (pv 0) (pa_cons (pv 1) pa_nil))) pe_int (fun _ _ => rfl)) pa_nil))))
      (pss_cons
      (ps_set (i := 6) scLRights.nd rfl (Or.inl rfl) (pe_call G_law_take hr_law_take (by rfl) g_law_take F_law_take.kp b_law_take .nil pass0 (pa_cons (pv 0) (pa_cons (pe_op op_add (pe_callB (lenK (K := K)) (by rfl) B.len PySem.boot_len (pa_cons (pv 5) pa_nil)) pe_int) pa_nil))))
      (pss_one
      (ps_expr (pe_bm PySem.F.plainAttrs_list PySem.F.slot_list_append PySem.F.type_list_append mt_append (pv 3) (pa_cons (pe_tup (pa_cons (pv 4) (pa_cons (pe_ix (ixLK (K := K)) (pv 5) pe_int (fun _ _ => rfl)) (pa_cons (pe_ifExp (pt_cmpR op_lt (pv 6) (pe_callB (lenK (K := K)) (by rfl) B.len PySem.boot_len (pa_cons (pv 5) pa_nil)) (nomark _)) (pe_ix (ixLK (K := K)) (pv 5) (pv 6) (fun _ _ => rfl)) pe_str) pa_nil)))) pa_nil)))))))
      (pss_one
      (ps_ret (pv 3))))), ?_⟩
    have hAl : (rowsOf AR).length = AR.length := List.length_map _
    have hRm := hG.most
    have hR1 := hG.one
    have hnl : (namesOf AR).length = AR.length := nmlen AR
    refine ⟨by show 0 ≤ sizeLine; decide, fun F0 hF => ?_⟩
    obtain ⟨b0, hb0, hv0⟩ := id hB
    have pF : p ≠ F0 := ne_of_none hb0 hF
    have s1 : Same H (upd H F0 (.lst [])) := same_upd hF
    have hF1 : (upd H F0 (.lst [])) F0 = some (.lst []) := upd_same
    generalize upd H F0 (.lst []) = H1 at s1 hF1
    have hBa : BagAt H1 p := ⟨b0, s1 _ _ hb0, hv0⟩
    refine ⟨_, rfl, _, rfl, _, rfl, p, l, m, AR, rfl, hBa, hlp, hR.same s1, hG, hm, fun H2 Z ns u2 B2 hZ1 zp hZ hlen hok => ?_⟩
    have zF : Z ≠ F0 := fun e => by
      rw [e, hF1] at hZ1
      cases hZ1
    have hHZ : H Z = none := by
      cases e : H Z with
      | none => rfl
      | some o =>
        rw [s1 _ _ e] at hZ1
        cases hZ1
    refine ⟨Z, rfl, ⟨_, .inl (.inl hZ)⟩, ?_⟩
    refine for_list (K := K) (a := Z) (xs := ns.map V.str) (fun i σ H3 => ∃ v4 v5 v6 BR, σ = [some (.ref p), some (.ref l), some (.int (m : Int)), some (.ref F0), v4, v5, v6] ∧ Upto p H H3 ∧ BagAt H3 p ∧ H3 Z = some (.lst (ns.map V.str)) ∧ BRows H3 F0 BR ∧ rnm (bOf BR) = ns.take i ∧
        (∀ r ∈ bOf BR, r.2.1 ∈ namesOf AR) ∧ ∀ r ∈ bOf BR, r.2.2 = "sea" ∨ r.2.2 ∈ course (rowsOf AR) r.2.1)
      ⟨none, none, none, [], rfl, (Upto.of s1).trans u2, B2, hZ, ⟨u2 _ _ hF1 pF.symm, fun q hq => by cases hq⟩, by rw [List.take_zero]; rfl, (fun r hr => by cases hr), fun r hr => by cases hr⟩ (fun i σ H3 hi h => by
        obtain ⟨_, _, _, _, _, _, _, h, _⟩ := h
        exact .inl (.inl h)) ?_ ?_
    · rintro i x σ H3 hx ⟨v4, v5, v6, BR, rfl, u3, B3, hZ3, hb3, hn3, hi3, hl3⟩
      rw [List.getElem?_map] at hx
      obtain ⟨n, hn, rfl⟩ := Option.map_eq_some_iff.mp hx
      have hR3 : RowsAt H3 l AR := hR.upto hB hlp u3
      -- course
      refine ⟨_, rfl, _, rfl, _, rfl, p, l, _, rfl, B3, hlp, .inl (.inl hR3.lst), by rw [List.length_map]; omega, by rw [List.length_map]; omega, fun j v xs hv hx4 => ?_⟩
      have hj : j < AR.length := by
        have := (List.getElem?_eq_some_iff.mp hv).1
        rw [List.length_map] at this
        exact this
      have ev := row_at hv hj
      subst ev
      have u4 : Upto p H (upd H3 p (.lst xs)) := u3.trans Upto.at_
      have B4 : BagAt (upd H3 p (.lst xs)) p := ⟨xs, upd_same, hx4⟩
      have hZ4 : (upd H3 p (.lst xs)) Z = some (.lst (ns.map V.str)) := by rw [upd_ne zp]; exact hZ3
      have hb4 : BRows (upd H3 p (.lst xs)) F0 BR := hb3.upto B3 pF.symm Upto.at_
      have hR4 : RowsAt (upd H3 p (.lst xs)) l AR := hR3.upto B3 hlp Upto.at_
      generalize upd H3 p (.lst xs) = H4 at u4 B4 hZ4 hb4 hR4
      have hym : AR[j].2.1 ∈ namesOf AR := List.mem_map.mpr ⟨_, List.mem_map.mpr ⟨_, List.getElem_mem hj, rfl⟩, rfl⟩
      refine ⟨AR[j].1, _, _, _, rfl, rfl, .inl (.inl (hR4.tup _ (List.getElem_mem hj))), atI_nat (j := 0) rfl, l, AR, AR[j].2.1, rfl, hR4, hG, hym, fun H5 c s5 hc0 hc => ?_⟩
      have B5 : BagAt H5 p := by
        obtain ⟨b4, hb, hv⟩ := B4
        exact ⟨b4, s5 _ _ hb, hv⟩
      have u5 : Upto p H H5 := u4.trans (Upto.of s5)
      have hZ5 := s5 _ _ hZ4
      have hb5 := hb4.same s5
      have cp : c ≠ p := by
        obtain ⟨b4, hb, hv⟩ := B4
        exact (ne_of_none hb hc0).symm
      obtain ⟨mc, hcs⟩ := course_is hG hym
      have hcl := hcs.len
      have hc1 := hcs.one
      have hc2 := hcs.most
      -- at
      refine ⟨_, rfl, _, rfl, c, _, rfl, .inl (.inl (.inl hc)), _, _, rfl, rfl, p, _, rfl, B5, ?_, ?_, fun r xs6 hr0 hr1 hx6 => ?_⟩
      · rw [List.length_map]; omega
      · rw [List.length_map]; omega
      rw [List.length_map, hcl] at hr1
      obtain ⟨rn, rfl⟩ : ∃ rn : Nat, r = (rn : Int) := ⟨r.toNat, by omega⟩
      have u6 : Upto p H (upd H5 p (.lst xs6)) := u5.trans Upto.at_
      have B6 : BagAt (upd H5 p (.lst xs6)) p := ⟨xs6, upd_same, hx6⟩
      have hZ6 : (upd H5 p (.lst xs6)) Z = some (.lst (ns.map V.str)) := by rw [upd_ne zp]; exact hZ5
      have hb6 : BRows (upd H5 p (.lst xs6)) F0 BR := hb5.upto B5 pF.symm Upto.at_
      have hc6 : (upd H5 p (.lst xs6)) c = some (.lst ((course (rowsOf AR) AR[j].2.1).map V.str)) := by rw [upd_ne cp]; exact hc
      show Ends.nx _ _ (upd H5 p (.lst xs6))
      generalize upd H5 p (.lst xs6) = H6 at u6 B6 hZ6 hb6 hc6
      have hBl : BR.length = i := by
        have h1 := congrArg List.length hn3
        rw [List.length_map, List.length_map, List.length_take] at h1
        have := (List.getElem?_eq_some_iff.mp hn).1
        omega
      have hnl2 := (List.getElem?_eq_some_iff.mp hn).1
      have h0 : (course (rowsOf AR) AR[j].2.1)[0]? = some AR[j].2.1 := by
        rw [hcs.eq, List.getElem?_map, List.getElem?_range (by omega)]
        rfl
      have fin : ∀ y : Str, (y = "sea" ∨ y ∈ course (rowsOf AR) AR[j].2.1) → ∀ t, H6 t = none → (upd H6 t (.tup [.str n, .str AR[j].2.1, .str y])) F0 = some (.lst (BR.map fun q => V.ref q.1)) ∧ (BR.map fun q => V.ref q.1).length < sizeLine ∧ ∃ v4 v5 v6 BR', [some (V.ref p), some (.ref l), some (.int (m : Int)), some (.ref F0), some (.str n), some (.ref c), some (.int (rn : Int))] = [some (V.ref p), some (.ref l), some (.int (m : Int)), some (.ref F0), v4, v5, v6] ∧
          Upto p H (upd (upd H6 t (.tup [.str n, .str AR[j].2.1, .str y])) F0 (.lst ((BR.map fun q => V.ref q.1) ++ [.ref t]))) ∧ BagAt (upd (upd H6 t (.tup [.str n, .str AR[j].2.1, .str y])) F0 (.lst ((BR.map fun q => V.ref q.1) ++ [.ref t]))) p ∧ (upd (upd H6 t (.tup [.str n, .str AR[j].2.1, .str y])) F0 (.lst ((BR.map fun q => V.ref q.1) ++ [.ref t]))) Z = some (.lst (ns.map V.str)) ∧
          BRows (upd (upd H6 t (.tup [.str n, .str AR[j].2.1, .str y])) F0 (.lst ((BR.map fun q => V.ref q.1) ++ [.ref t]))) F0 BR' ∧ rnm (bOf BR') = ns.take (i + 1) ∧ (∀ r ∈ bOf BR', r.2.1 ∈ namesOf AR) ∧ ∀ r ∈ bOf BR', r.2.2 = "sea" ∨ r.2.2 ∈ course (rowsOf AR) r.2.1 := fun y hy t nt => by
        have tF : F0 ≠ t := ne_of_none hb6.lst nt
        obtain ⟨b6, hb6', hv6⟩ := B6
        have tp : p ≠ t := ne_of_none hb6' nt
        have tZ : Z ≠ t := ne_of_none hZ6 nt
        refine ⟨by rw [upd_ne tF]; exact hb6.lst, by rw [List.length_map]; exact small1000 (by omega), _, _, _, BR ++ [(t, (n, AR[j].2.1, y))], rfl, fun b o hb hne => ?_, ⟨b6, by rw [upd_ne pF, upd_ne tp]; exact hb6', hv6⟩, by rw [upd_ne zF, upd_ne tZ]; exact hZ6, ⟨by rw [upd_same, List.map_append]; rfl, fun q hq => ?_⟩, ?_, fun r hr => ?_, fun r hr => ?_⟩
        · rw [upd_ne (ne_of_none hb hF), upd_ne (ne_of_none (u6 _ _ hb hne) nt)]
          exact u6 _ _ hb hne
        · rcases List.mem_append.mp hq with e | e
          · have h4 := hb6.tup q e
            rw [upd_ne (ne_of h4 hb6.lst (fun z => by cases z)), upd_ne (ne_of_none h4 nt)]
            exact h4
          · rw [List.mem_singleton.mp e, upd_ne tF.symm, upd_same]
        · rw [bOf_snoc]
          show (bOf BR ++ [(n, AR[j].2.1, y)]).map (·.1) = _
          rw [List.map_append]
          show rnm (bOf BR) ++ [n] = _
          rw [hn3, List.take_add_one, hn]
          rfl
        · rw [bOf_snoc] at hr
          rcases List.mem_append.mp hr with e | e
          · exact hi3 r e
          · rw [List.mem_singleton.mp e]
            exact hym
        · rw [bOf_snoc] at hr
          rcases List.mem_append.mp hr with e | e
          · exact hl3 r e
          · rw [List.mem_singleton.mp e]
            exact hy
      refine ⟨_, rfl, .inl ⟨rfl, _, .inl (.inl hb6.lst)⟩, _, rfl, _, rfl, c, _, _, .str AR[j].2.1, rfl, rfl, .inl (.inl hc6), at_of (j := 0) (by decide) (by rw [List.getElem?_map, h0]; rfl), ?_⟩
      refine ⟨_, rfl, _, rfl, c, _, rfl, .inl (.inl (.inl hc6)), _, _, rfl, rfl, _, rfl, ?_⟩
      refine ite2 (fun hcc => ?_) (fun hcc => ?_)
      · have hrl : rn < (course (rowsOf AR) AR[j].2.1).length := by
          have := of_decide_eq_true hcc
          rw [List.length_map] at this
          omega
        refine ⟨_, rfl, _, rfl, c, _, _, .str (course (rowsOf AR) AR[j].2.1)[rn], rfl, rfl, .inl (.inl hc6), at_of (j := rn) (by omega) (by rw [List.getElem?_map, List.getElem?_eq_getElem hrl]; rfl), by show 3 ≤ sizeLine; decide, fun t nt => ?_⟩
        obtain ⟨f1, f2, f3⟩ := fin _ (.inr (List.getElem_mem hrl)) t nt
        exact ⟨F0, _, _, rfl, rfl, f1, f2, f3⟩
      · refine ⟨by show 3 ≤ sizeLine; decide, fun t nt => ?_⟩
        obtain ⟨f1, f2, f3⟩ := fin "sea" (.inl rfl) t nt
        exact ⟨F0, _, _, rfl, rfl, f1, f2, f3⟩
    · rintro σ H3 ⟨v4, v5, v6, BR, rfl, u3, B3, hZ3, hb3, hn3, hi3, hl3⟩
      rw [List.length_map, List.take_length] at hn3
      have hBl : BR.length = m := by
        have h1 := congrArg List.length hn3
        rw [List.length_map, List.length_map] at h1
        omega
      exact ⟨_, rfl, k H3 F0 BR u3 B3 hF pF.symm hb3 ⟨by show (rnm (bOf BR)).Nodup; rw [hn3]; exact hok.nd, fun r hr => hok.ok _ (by rw [← hn3]; exact List.mem_map.mpr ⟨r, hr, rfl⟩), hi3, hl3, by rw [List.length_map]; omega⟩ hBl⟩
theorem ok_lway {f fC : Addr} {fd fdC : FuncData} (F : FnP K "_law_way" sLWay f fd) (F_law_course : FnP K "_law_course" sLCourse fC fdC) (g_law_course : mg "_law_course" = some (.ref fC)) (B : Bl mg) : FnOk P w K mg base CX0 2 f fd ["_law_rows", "_law_right"] spLWay := by
  have G_law_course : FnOk P w K mg base CX0 1 fC fdC ["_law_rows", "_law_weir"] spLCourse := ok_lcourse F_law_course B
  have b_law_course : Binds K fdC ["_law_rows", "_law_weir"] [] := F_law_course.bindsN fun _ _ _ _ _ _ us hl => match us, hl with | [_, _], _ => rfl
  refine F.ok scLWay (fun vs H Q E h => ?_) (fun cdv A outer s H vs Q E hr h => ?_)
  · obtain ⟨l, t, AR, r, rfl, _⟩ := h
    rfl
  · obtain ⟨l, t, AR, r, rfl, hR, hG, ht, hi, hl, k⟩ := h
    have hr_law_course : Room 1 _ := hr
    refine ⟨_, PSs.nox (pss_cons
      (ps_set (i := 2) scLWay.nd rfl (Or.inl rfl) (pe_call G_law_course hr_law_course (by rfl) g_law_course F_law_course.kp b_law_course .nil pass0 (pa_cons (pv 0) (pa_cons (pe_ix (ixTK (K := K)) (pv 1) pe_int (fun _ _ => rfl)) pa_nil))))
      (pss_one
      (ps_ret (pe_ifExp (pt_cmpR op_eq (pe_ix (ixTK (K := K)) (pv 1) pe_int (fun _ _ => rfl)) pe_str (nomark _)) (pv 2) (pe_slice sl_list (pv 2) po_none (po_some (pe_op op_add (pe_bm PySem.F.plainAttrs_list PySem.F.slot_list_index PySem.F.type_list_index mt_index (pv 2) (pa_cons (pe_ix (ixTK (K := K)) (pv 1) pe_int (fun _ _ => rfl)) pa_nil)) pe_int))))))), ?_⟩
    refine ⟨_, rfl, _, rfl, t, _, _, _, rfl, rfl, .inl (.inl ht), atI_nat (j := 1) rfl, l, AR, r.2.1, rfl, hR, hG, hi, fun H1 c s1 hc0 hc => ?_⟩
    have ht1 := s1 _ _ ht
    refine ⟨_, rfl, t, _, _, _, rfl, rfl, .inl (.inl ht1), atI_nat (j := 2) rfl, rfl, _, rfl, ?_⟩
    refine ite2 (fun e => ?_) (fun e => ?_)
    · have e : r.2.2 = "sea" := V.str.inj (of_decide_eq_true e)
      refine ⟨_, rfl, k H1 c s1 hc0 ?_⟩
      unfold wayB
      rw [if_pos e]
      exact hc
    · have e : ¬ r.2.2 = "sea" := fun z => e (decide_eq_true (congrArg V.str z))
      have hin := hl.resolve_left e
      have hlt := List.idxOf_lt_length_iff.mpr hin
      have hat : ((course (rowsOf AR) r.2.1).map V.str)[(course (rowsOf AR) r.2.1).idxOf r.2.2]? = some (.str r.2.2) := by
        rw [List.getElem?_map, List.getElem?_eq_getElem hlt, List.getElem_idxOf]
        rfl
      have hfst : ∀ (m : Nat) (z : V), m < (course (rowsOf AR) r.2.1).idxOf r.2.2 → ((course (rowsOf AR) r.2.1).map V.str)[m]? = some z → eqV z (.str r.2.2) = false := fun m z hm e2 => by
        rw [List.getElem?_map] at e2
        obtain ⟨y, hy, rfl⟩ := Option.map_eq_some_iff.mp e2
        rw [eqV_str]
        refine decide_eq_false fun e3 => ?_
        have q := List.not_of_lt_findIdx (p := fun z => z == r.2.2) (xs := course (rowsOf AR) r.2.1) hm
        obtain ⟨hml, e4⟩ := List.getElem?_eq_some_iff.mp hy
        rw [e4, e3, beq_self_eq_true] at q
        cases q
      refine ⟨_, rfl, _, rfl, .inl ⟨rfl, _, .inl (.inl hc)⟩, _, rfl, t, _, _, .str r.2.2, rfl, rfl, .inl (.inl ht1), atI_nat (j := 2) rfl, ?_⟩
      refine ⟨c, _, .str r.2.2, _, .str r.2.2, rfl, rfl, .inl (.inl hc), rfl, flat_strs _, hat, by rw [eqV_str]; exact decide_eq_true rfl, hfst, ?_⟩
      refine ⟨_, _, rfl, rfl, _, rfl, c, _, rfl, .inl (.inl hc), fun z nz => ?_⟩
      refine k _ z (s1.trans (same_upd nz)) ?_ ?_
      · cases e : H z with
        | none => rfl
        | some o =>
          rw [s1 _ _ e] at nz
          cases nz
      · rw [upd_same]
        unfold wayB
        rw [if_neg (by assumption)]
        have e9 : (((course (rowsOf AR) r.2.1).idxOf r.2.2 : Nat) : Int) + 1 = (((course (rowsOf AR) r.2.1).idxOf r.2.2 + 1 : Nat) : Int) := by omega
        rw [e9, cut_take, List.map_take]
end
end K0
end
section
set_option Elab.async false
set_option linter.all false
set_option maxRecDepth 100000
set_option maxHeartbeats 4000000
namespace L2
open PySem PySem.Spec PyProof.Rows
section
variable {X : Cx} {K : PySem.W.Frag} {tg l : Expr} {tl : TE}
theorem anyK (hc : X.calm = true) (e : X.K = K := by rfl) : CallR X (.builtin "any") (rAny K) := e ▸ cr_any hc
theorem allK (hc : X.calm = true) (e : X.K = K := by rfl) : CallR X (.builtin "all") (rAll K) := e ▸ cr_all hc
theorem pi_listK (hl : PE X l tl) (e : X.K = K := by rfl) : PI X tg l (iList K tl) := e ▸ pi_list hl
theorem pi_tupK (hl : PE X l tl) (e : X.K = K := by rfl) : PI X tg l (iTup K tl) := e ▸ pi_tup hl
end
end L2
namespace K0
open PySem PySem.Spec PyProof.Rows L2
theorem tyes_i {σ : L2.St} {H : Hp} {Q : Bool → Hp → Prop} (h : Q true H) : tYes σ H Q := h
theorem cut_drop (xs : List V) (m : Nat) : cutV xs (some (m : Int)) none = xs.drop m := by
  unfold cutV
  rw [HT.sIx_nat, HT.sIx_none]
  rcases Nat.le_total m xs.length with h | h
  · rw [Nat.min_eq_left h, List.take_of_length_le]
    rw [List.length_drop]
    exact Nat.le_refl _
  · rw [Nat.min_eq_right h, List.drop_of_length_le (Nat.le_refl _), List.drop_of_length_le h]
    simp
/-! ### need_different: of names that are there -/
theorem scNeedDiff : FnScope ["rights", "names", "seen", "name"] ["rights", "names"] (defScope sNeedDiff) := ⟨rfl, rfl, rfl, by decide +kernel, rfl, by decide +kernel, by decide +kernel⟩
def spNeedDiff (Cg Cr : Addr) : Sp := fun vs H Q _ => ∃ (p q l : Addr) (xs : List Str) (AR : List (Addr × Row)) (BR : List (Addr × RRow)), vs = [.ref p, .ref l] ∧ RigOk Cg Cr H p q AR BR ∧ TxR H l xs ∧ (∀ x ∈ xs, x ∈ rnm (bOf BR)) ∧ xs.Nodup ∧ xs.length ≤ 40 ∧ ∀ H', Same H H' → Q .non H'
section
variable {P : Program} {w : World} {K : PySem.W.Frag} {mg : Str → Option Value} {base : Heap} {tS tM tL : Tok}
theorem ok_needdiff {f Cg Cr : Addr} {fd : FuncData} (F : FnP K "need_different" sNeedDiff f fd) (M : Gm K Cg) (TG : Rg K mg Cg) (B : Bl mg) : FnOk P w K mg base CX0 2 f fd ["rights", "names"] (spNeedDiff Cg Cr) := by
  obtain ⟨fC, fdC, FC, hs, hf⟩ := M.has
  have GC : FnOk P w K mg base CX0 1 fC fdC ["self", "x"] (spHas (GHasG Cg Cr)) := ok_gcontains FC TG B
  have bC : Binds K fdC ["self", "x"] [] := FC.bindsN fun _ _ _ _ _ _ us hl => match us, hl with | [_, _], _ => rfl
  refine F.ok scNeedDiff (fun vs H Q E h => ?_) (fun cdv A outer s H vs Q E hr h => ?_)
  · obtain ⟨p, q, l, xs, AR, BR, rfl, _⟩ := h
    rfl
  · obtain ⟨p, q, l, xs, AR, BR, rfl, R, hl, hx, hnd, hxl, k⟩ := h
    have hu := hu_of hr
    refine ⟨_, PSs.nox (pss_cons
      (ps_set (i := 2) scNeedDiff.nd rfl (Or.inl rfl) pe_dnewK)
      (pss_one
      (ps_for PassesOwn.never rfl (pi_tup (pv 1)) (pg_name (i := 3) scNeedDiff.nd rfl (Or.inl rfl)) (pss_cons
      (ps_if (PW.pt (pw_or (pt_cmpR (k0_notIn_own (K := K) GC hr hs hf bC) (pv 3) (pv 0) (by rfl)) (pw_or1 (pt_cmp (pc_din hu (pv 3) (pv 2)))))) (pss_one
      ps_never) pss_nil)
      (pss_one
      (ps_dput hu (pv 2) (pv 3) pe_bl rfl)))))), ?_⟩
    intro D hD
    have s0 : Same H (upd H D (.dK [])) := same_upd hD
    refine ⟨_, rfl, l, rfl, ⟨_, .inl (hl.same s0)⟩, ?_⟩
    refine for_tup (K := K) (a := l) (xs := xs.map V.str) (fun i σ H2 => ∃ v3, σ = [some (.ref p), some (.ref l), some (.ref D), v3] ∧ Same H H2 ∧ H2 D = some (.dK (kmap (fun _ => .bl true) (xs.take i))))
      ⟨none, rfl, s0, by rw [upd_same, List.take_zero]; rfl⟩ (fun i σ H2 hi h => by
        obtain ⟨_, _, s, _⟩ := h
        exact .inl (hl.same s)) ?_ ?_
    · rintro i x σ H2 hxi ⟨v3, rfl, s2, hD2⟩
      rw [List.getElem?_map] at hxi
      obtain ⟨n, hn, rfl⟩ := Option.map_eq_some_iff.mp hxi
      have hnm := hx n (List.mem_of_getElem? hn)
      have hnot : n ∉ xs.take i := nodup_take hnd hn
      obtain ⟨dx, tn, tr, dw, dl, dp, h1, _⟩ := id (R.same s2).at_.ex
      refine ⟨_, rfl, _, rfl, p, dx, _, true, rfl, h1, ⟨q, AR, BR, n, (R.same s2).at_, rfl, (decide_eq_true hnm).symm⟩, _, rfl, ?_⟩
      refine iteF ?_
      refine ⟨_, rfl, _, rfl, D, _, rfl, DGet.k (k := Sum.inr n) hD2, _, rfl, ?_⟩
      rw [kmap_not hnot]
      refine iteF ?_
      refine ⟨_, rfl, _, rfl, D, _, rfl, DPut.k (k := Sum.inr n) hD2 ?_, ?_⟩
      · rw [kmap_len, List.length_take]
        exact small1000 (by omega)
      · refine ⟨_, rfl, fun b o hb => ?_, ?_⟩
        · rw [upd_ne (ne_of_none hb hD)]
          exact s2 b o hb
        · have := kmap_put (f := fun _ => .bl true) hnot
          rw [upd_same, this, List.take_add_one, hn]
          rfl
    · rintro σ H2 ⟨v3, rfl, s2, hD2⟩
      exact k H2 s2
end
end K0
end
section
set_option Elab.async false
set_option linter.all false
set_option maxRecDepth 100000
set_option maxHeartbeats 4000000
namespace L2
open PySem PySem.Spec PyProof.Rows
/-! ### dicts whose keys are tuples of texts and whole numbers: by a comprehension, by dict(..) -/
theorem dt_put {X : Cx} {pins : List (Addr × Obj)} {σ : St} {H : Hp} {s : Shared} {E : Value → Shared → Prop} {L b : Addr} {kvs : List (List Key × V)} {k : List Key} {v : V} {r : Value} {Q : Unit → Shared → Prop} (hu : X.A.units < cLine) (I : Inv X pins σ H s) (hL : H L = some (.dT kvs)) (hz : kvs.length < sizeLine)
    (hb : H b = some (.tup (k.map kV))) (rv : RelV v r) (h : ∀ s', Inv X pins σ (upd H L (.dT (putK kvs k v))) s' → Q () s') : wpAny (model X.prog X.w) X.A (dictSet L (.ref b) r) Q E s := by
  obtain ⟨z, hne, xs, rel, dd⟩ := dt_of I.hok hL
  have zx : xs.length ≤ sizeLine := by rw [← Paired.length rel]; exact z
  have zk : (putK kvs k v).length ≤ sizeLine := by have := length_putK kvs k v; omega
  refine wpAny_dictSet_heap (hsz := zx) (knd := tupleKind (mixKind X.prog X.w)) hu (key_of I.hok hb) dd fun h' d2 same => h _ ?_
  obtain ⟨q, es, ep, hq, a2, a3, a4, _, a5⟩ := d2
  refine d_write I (by rw [hL]; exact True.intro) same ⟨q, hq⟩ ⟨zk, hne, _, (rel.put k hb rv).keeps fun c ys ec => ?_, q, es, ep, hq, a2, a3, a4, a5⟩
  rw [upd_ne (ne_of ec hL (fun z => nomatch z))]
  exact ec
section
variable {X : Cx}
/-- {k: v for target in iter}, keys tuples -/
def tDcT (wi : TI) (g : TG) (tk tv : TE) (vs : List Nat) : TE := fun σ H Q => wi σ H fun J H1 => ∀ L, H1 L = none → ∃ W : Nat → Nat → Hp → Prop, (∃ m, W 0 m (upd H1 L (.dT []))) ∧ ∀ i m H, W i m H →
  (J.stop i H ∧ Q (.ref L) H) ∨ (J.go i H ∧ ∃ Nx : Hp → Prop, (∀ H', Nx H' → ∃ m', m' < m ∧ W (i + 1) m' H') ∧ ∀ x H', J.yld i H x H' → g x (wipe σ vs) H' fun σ2 H2 => wipe σ2 vs = wipe σ vs ∧
    tk σ2 H2 fun y H4 => tv σ2 H4 fun z H5 => ∃ kvs k b, y = .ref b ∧ H5 b = some (.tup (k.map kV)) ∧ H5 L = some (.dT kvs) ∧ kvs.length < sizeLine ∧ Nx (upd H5 L (.dT (putK kvs k z))))
theorem dcT_core {pins : List (Addr × Obj)} {s : Shared} {σ : St} {H : Hp} {Q : VK} {kx vx target iter : Expr} {scope : Scope} {own : List (Str × Nat)} {pos pos' : Pos} {wi : TI} {g : TG} {tk tv : TE} {use : Option (Value → Sem Unit)} {Qf : Value → Shared → Prop}
    (hu : X.A.units < cLine) (calm : X.calm = true) (nd : X.N.Nodup) (I : Inv X pins σ H s) (hi : PI X target iter wi) (ok : BlkOk X.N X.env.scope scope own)
    (hg : ∀ (s : Shared) (H : Hp) (C : Addr) (cl : List (Str × Addr)) (fp : List Addr), PG (X.blk s H scope (compEnvC scope cl C X.env) fp) target g)
    (hk : ∀ (s : Shared) (H : Hp) (C : Addr) (cl : List (Str × Addr)) (fp : List Addr), PE (X.blk s H scope (compEnvC scope cl C X.env) fp) kx tk)
    (hv : ∀ (s : Shared) (H : Hp) (C : Addr) (cl : List (Str × Addr)) (fp : List Addr), PE (X.blk s H scope (compEnvC scope cl C X.env) fp) vx tv) (fold : ∀ x, foldedSetIterable iter X.env x = pure x)
    (h : tDcT wi g tk tv (own.map (·.2)) σ H Q)
    (back : ∀ L C s' m H', Inv X pins σ H' s' → Q (.ref L) H' → s'.heap.Ns C m → FpOk X pins H' C → compPost (model X.prog X.w) X.A X.xe use Qf (.ref L) C (.ok .next) s') :
    wpAny (model X.prog X.w) X.A (comprehension (.DictComp kx vx [⟨target, iter, [], 0⟩] scope pos) scope X.env pos' newDict false (eval iter X.env) use) Qf X.xe s := by
  have cap : ∀ y ∈ scope.names, y.2 = .free → ∃ c, X.env.cells.lookup y.1 = some c := fun y hy e => (ok.free y hy e).elim (fun z => I.ok.has _ (.inl z)) fun z => I.ok.has _ (.inr z)
  refine wpAny_comprehension_free (use := use) rfl fold (closure_ok cap) ok.kind (fun y hy e => by rw [ok.uniq y hy, e]) (thn (hi.run pins s σ H _ I h) fun xv s1 hx => thn hx fun itv s2 h2 => ?_)
  obtain ⟨it, fp, tn, J, Ha, e, I2, T, st2, f2, q⟩ := h2
  subst e
  refine wpAny_newObj_type (newEnv_comp ?_)
  generalize eL : s2.heap.objs.size = L
  have nL : Ha L = none := I2.hok.fresh (Nat.le_of_eq eL)
  obtain ⟨W, ⟨m0, w0⟩, turn⟩ := q L nL
  generalize e3 : ({ s2 with heap := s2.heap.push { cls := .type "dict", data := .dict #[] } } : Shared) = s3
  have h3 : s3.heap = s2.heap.push { cls := .type "dict", data := .dict #[] } := by rw [← e3]
  have I3 : Inv X pins σ (upd Ha L (.dT [])) s3 := by
    rw [← e3]
    refine I2.laid (t' := s2.toks) (fun b o z => Heap.get?_push_of_some _ z) (Nat.le_of_eq eL) ?_
    rw [← eL]
    exact dt_empty s2.heap I2.big
  have low : ∀ b ∈ fp, b < s2.heap.objs.size := fun b hb => (T.obj _ _ st2 b hb).elim fun o z => Heap.lt_size z.1
  have f3 : ∀ b ∈ fp, FpOk X pins (upd Ha L (.dT [])) b ∧ b < s3.heap.objs.size := fun b hb => by
    refine ⟨⟨?_, (f2 b hb).2⟩, by rw [h3, Heap.size_push]; exact Nat.lt_succ_of_lt (low b hb)⟩
    rw [upd_ne (by rw [← eL]; exact Nat.ne_of_lt (low b hb))]
    exact (f2 b hb).1
  have st3 : tn 0 s3.heap := T.keep _ _ _ st2 fun b _ o z => by rw [h3]; exact Heap.get?_push_of_some _ z
  have I4 := block_start I3 ok nd f3
  have pg := hg s3 (upd Ha L (.dT [])) s3.heap.objs.size (cellsFrom (s3.heap.objs.size + 1) scope.names (cloFrom X.env.cells scope.names [])) fp
  have pk := hk s3 (upd Ha L (.dT [])) s3.heap.objs.size (cellsFrom (s3.heap.objs.size + 1) scope.names (cloFrom X.env.cells scope.names [])) fp
  have pv := hv s3 (upd Ha L (.dT [])) s3.heap.objs.size (cellsFrom (s3.heap.objs.size + 1) scope.names (cloFrom X.env.cells scope.names [])) fp
  show codeAny _ _ (.compStart (.DictComp kx vx [⟨target, iter, [], 0⟩] scope pos) 0 (.ref it) (.ref L) (compEnvC scope (cellsFrom (s3.heap.objs.size + 1) scope.names (cloFrom X.env.cells scope.names [])) s3.heap.objs.size X.env)) (compPost (model X.prog X.w) X.A X.xe use Qf (.ref L) s3.heap.objs.size) { s3 with heap := pushCells (s3.heap.push { cls := .type "dict", data := .dict #[] }) scope.names }
  have n0 : ∀ b ∈ fp, (upd Ha L (.dT [])) b = none := fun b hb => (f3 b hb).1.1
  generalize ece : compEnvC scope (cellsFrom (s3.heap.objs.size + 1) scope.names (cloFrom X.env.cells scope.names [])) s3.heap.objs.size X.env = ce at I4 pg pk pv ⊢
  have lce : ce.locals = s3.heap.objs.size := by subst ece; rfl
  generalize eH : upd Ha L (.dT []) = Hb at I3 I4 pg pk pv w0 n0 f3
  generalize e4 : ({ s3 with heap := pushCells (s3.heap.push { cls := .type "dict", data := .dict #[] }) scope.names } : Shared) = s4 at I4 ⊢
  have st4 : tn 0 s4.heap := T.keep _ _ _ st3 fun b _ o z => by rw [← e4]; exact pushCells_keeps _ _ _ _ (Heap.get?_push_of_some _ z)
  have stays : ∀ {σ' : St} {H' : Hp} {s' : Shared}, Inv (X.blk s3 Hb scope ce fp) [] σ' H' s' → (∀ b ∈ fp, H' b = none) → ∀ b ∈ fp, FpOk (X.blk s3 Hb scope ce fp) [] H' b := fun {σ' H' s'} J n b hb =>
    ⟨n b hb, (J.ok.exf b hb).1, J.ok.exfs b hb, .inl hb, fun x c z => (J.ok.exf b hb).2 x c z, fun p hp => by cases (show p ∈ ([] : List (Addr × Obj)) from hp)⟩
  have loop : codeAny (model X.prog X.w) X.A (.compLoop (.DictComp kx vx [⟨target, iter, [], 0⟩] scope pos) 0 (.ref it) (.ref L) ce) (compPost (model X.prog X.w) X.A X.xe use Qf (.ref L) s3.heap.objs.size) s4 := by
    refine compLoop_anyD (fun n s' => ∃ i H', Inv (X.blk s3 Hb scope ce fp) [] (wipe σ (own.map (·.2))) H' s' ∧ tn i s'.heap ∧ (∀ b ∈ fp, H' b = none) ∧ W i n H') ?_ m0 ⟨0, Hb, I4, st4, n0, w0⟩
    rintro n s5 ⟨i, H5, I5, st5, n5, w5⟩
    rcases turn i n H5 w5 with ⟨stop, end_⟩ | ⟨go, Nx, more, step⟩
    · refine thnF (T.done (X.blk s3 Hb scope ce fp) rfl rfl rfl calm i [] s5 _ H5 (fun _ _ => False) I5 (stays I5 n5) st5 stop) fun r s6 ⟨er, I6⟩ => ?_
      subst er
      have I7 : Inv X pins σ H5 s6 := I3.call' (ch := fp) I6.os I6.base I6.hok I6.bare fun b hb => ⟨(f3 b hb).1.2.2.2.1, (f3 b hb).1.2.1, (f3 b hb).1.2.2.2.2.1, (f3 b hb).1.2.2.2.2.2⟩
      have nC : H5 s3.heap.objs.size = none := by
        have z : H5 ce.locals = none := I6.free
        rwa [lce] at z
      obtain ⟨m, ns, _⟩ := I6.loc
      have ns : s6.heap.Ns ce.locals m := ns
      rw [lce] at ns
      exact back L s3.heap.objs.size s6 m H5 I7 end_ ns (I3.fpOk (Nat.le_refl _) nC)
    · refine thnF (T.item (X.blk s3 Hb scope ce fp) rfl rfl rfl calm i [] s5 _ H5 (fun _ _ => False) I5 (stays I5 n5) st5 go) fun r s6 ⟨u, er, h6⟩ => ?_
      subst er
      refine thnF h6 fun _ s7 ⟨x, H7, I7, r7, y7, st7, n7⟩ => ?_
      refine thnF (pg.run _ s7 _ H7 x u _ (I7.pinned (stays I7 n7) (T.obj _ _ st7)) r7 (step x H7 y7)) fun _ s8 ⟨σ8, H8, I8, w8, q8⟩ => ?_
      refine wpAny_tests_nil ?_
      rw [if_pos rfl]
      refine thnF (pk.run _ s8 σ8 H8 _ I8 q8) fun ku s9 ⟨yk, H9, I9, r9, q9⟩ => ?_
      refine thnF (pv.run _ s9 σ8 H9 _ I9 q9) fun vu s10 ⟨yv, Hc, Ic, rc, kvs, k, b, ek, hb, hL, hz, nx⟩ => ?_
      subst ek
      obtain rfl : ku = Value.ref b := r9
      refine dt_put (X := X.blk s3 Hb scope ce fp) hu Ic hL hz hb rc fun s11 J => ?_
      obtain ⟨m', lt, w'⟩ := more _ nx
      have still : ∀ b ∈ fp, ∀ o, s7.heap.get? b = some o → s11.heap.get? b = some o ∧ (upd Hc L (.dT (putK kvs k yv))) b = none := fun b hb o z =>
        let p := J.pin (b, o) (List.mem_append_right _ (List.mem_append_right _ (mem_pinsAt hb z)))
        ⟨p.1, p.2.1⟩
      refine ⟨m', lt, i + 1, _, (J.unpinned (pins := [])).weak (by rw [← w8, wipe_length]) (fun j v z => ?_), T.keep _ _ _ st7 fun b hb o z => (still b hb o z).1, fun b hb => ?_, w'⟩
      · rw [← w8] at z
        exact (wipe_some z).1
      · obtain ⟨o, z, _⟩ := T.obj _ _ st7 b hb
        exact (still b hb o z).2
  exact codeAny_compStart_dict loop (T.self X.A 0 _ _ _ st4 loop)
/-- name = {..} on one line -/
theorem k0_setDcT {i : Nat} {y : Str} {py : Pos} {kx vx target iter : Expr} {scope : Scope} {own : List (Str × Nat)} {pos spos : Pos} {wi : TI} {g : TG} {tk tv : TE} (hu : X.A.units < cLine) (calm : X.calm = true) (nd : X.N.Nodup) (hy : X.N[i]? = some y) (hyl : X.env.scope.names.lookup y = some .local)
    (hsw : swapsWith (.DictComp kx vx [⟨target, iter, [], 0⟩] scope pos) (some (.Name y py)) spos.line X.env = pure true) (hi : PI X target iter wi) (ok : BlkOk X.N X.env.scope scope own)
    (hg : ∀ (s : Shared) (H : Hp) (C : Addr) (cl : List (Str × Addr)) (fp : List Addr), PG (X.blk s H scope (compEnvC scope cl C X.env) fp) target g)
    (hk : ∀ (s : Shared) (H : Hp) (C : Addr) (cl : List (Str × Addr)) (fp : List Addr), PE (X.blk s H scope (compEnvC scope cl C X.env) fp) kx tk)
    (hv : ∀ (s : Shared) (H : Hp) (C : Addr) (cl : List (Str × Addr)) (fp : List Addr), PE (X.blk s H scope (compEnvC scope cl C X.env) fp) vx tv) (fold : ∀ x, foldedSetIterable iter X.env x = pure x := by intro _; rfl) :
    PS X (.Assign [.Name y py] (.DictComp kx vx [⟨target, iter, [], 0⟩] scope pos) spos) (tAsg (tDcT wi g tk tv (own.map (·.2))) (gName i)) := by
  refine ⟨fun pins s σ H D I h => ?_⟩
  rw [exec_Assign_Name_used _ _ _ _ hsw]
  refine wpAny_bind (wpAny_standAt (wpAny_bind ?_))
  show wpAny _ X.A (do let _ ← comprehension (.DictComp kx vx [⟨target, iter, [], 0⟩] scope pos) scope X.env (firstIterPos [⟨target, iter, [], 0⟩] pos) newDict false (eval iter X.env) (some (assign (.Name y py) X.env))) _ _ s
  have h : tDcT wi g tk tv (own.map (·.2)) σ H (fun x H1 => gName i x σ H1 D.nx) := h
  refine wpAny_bind (thn (dcT_core (Qf := fun _ s' => SP X pins D .next s') hu calm nd I hi ok hg hk hv fold h fun L C s' m H' I' q hn f => ?_) fun _ s' hq => wpAny_pure (wpAny_pure hq))
  show wpAny _ _ (assign (.Name y py) X.env (.ref L)) _ _ _
  refine wpAny_assign_Name (store_ok2 (v := V.ref L) I' nd hy (.inl hyl) rfl (fun s2 I2 ⟨a, sb, ha⟩ => ?_) (.inr hyl))
  obtain ⟨f0, f1, f2, f3, f4, f5⟩ := f
  have haC : C ≠ a := ha.elim (fun z => by rw [z]; exact f1) fun z e => f4 y a z e.symm
  exact ⟨m, hn.sameBut sb haC, fun h3 sb3 => ⟨_, H', I2.turned (t' := s2.toks) (fun b o hb e => (sb3.2 b hb).trans e) f0 f1 f3 f4 f5, q⟩⟩
end
/-! ### dict(list of (tuple, True)) -/
def trueT (l : List (List Key)) (acc : List (List Key × V)) : List (List Key × V) := l.foldl (fun acc k => putK acc k (.bl true)) acc
theorem kt_all {H : Hp} : ∀ {qs : List (Addr × Addr × List Key)} {kvs : List (List Key × V)} {xs : List (List Key × Addr × Value)}, KT H kvs xs → (∀ q ∈ qs, H q.2.1 = some (.tup (q.2.2.map kV))) →
    KT H (trueT (qs.map fun q => q.2.2) kvs) (storedAllH xs (qs.map fun q => (q.2.2, q.2.1, Value.bool true)))
  | [], _, _, r, _ => r
  | q :: qs, kvs, xs, r, h => by
    have r1 := KT.put r q.2.2 (b := q.2.1) (y := .bl true) (u := .bool true) (h q List.mem_cons_self) rfl
    exact kt_all (qs := qs) (kvs := putK kvs q.2.2 (.bl true)) (xs := storedH xs q.2.2 q.2.1 (.bool true)) r1 fun z hz => h z (List.mem_cons_of_mem _ hz)
theorem trueT_len : ∀ (l : List (List Key)) (acc : List (List Key × V)), (trueT l acc).length ≤ acc.length + l.length
  | [], acc => Nat.le_refl _
  | k :: l, acc => by
    have h1 := trueT_len l (putK acc k (.bl true))
    have h2 := length_putK acc k (.bl true)
    show (trueT l (putK acc k (.bl true))).length ≤ acc.length + (l.length + 1)
    omega
theorem call_dictT {X : Cx} (hu : X.A.units + 2 < cLine) (calm : X.calm = true) : CallR X (.type "dict") (fun xs H Q => ∃ (a : Addr) (qs : List (Addr × Addr × List Key)), xs = [.ref a] ∧ SqL X.K H a (qs.map fun q => V.ref q.1) ∧ (∀ q ∈ qs, H q.1 = some (.tup [.ref q.2.1, .bl true]) ∧ H q.2.1 = some (.tup (q.2.2.map kV))) ∧
    ∀ p, H p = none → Q (.ref p) (upd H p (.dT (trueT (qs.map fun q => q.2.2) [])))) := by
  intro pins s σ H xs us Q I r h
  obtain ⟨a, qs, rfl, hq, hp, q⟩ := h
  obtain ⟨u, rfl, rx⟩ := vals1 r
  cases rx
  obtain ⟨its, rv, pl, hz⟩ := I.list hq
  rw [List.length_map] at hz
  have eits : its = qs.map fun q => Value.ref q.1 := by
    have rv2 : Vals ((qs.map fun q => q.1).map V.ref) its := by rw [List.map_map]; exact rv
    have := refs_at rv2
    rw [List.map_map] at this
    exact this
  obtain ⟨o, n, ho, hc, hd, hdat⟩ := pl
  have hpl : PlainSeq "list" s.heap a its.toArray := ⟨o, n, ho, hc, hd, hdat⟩
  have hpi : PairItems s.heap its.toArray (fun j => (qs[j]?.map (·.1)).getD 0) (qs.map fun q => (Value.ref q.2.1, Value.bool true)) := by
    refine ⟨by rw [eits]; simp, fun j k v hj => ?_⟩
    rw [List.getElem?_map] at hj
    obtain ⟨z, hz, e⟩ := Option.map_eq_some_iff.mp hj
    cases e
    have ez : (qs[j]?.map (·.1)).getD 0 = z.1 := by rw [hz]; rfl
    refine ⟨?_, .inl ?_⟩
    · show its.toArray[j]? = some (Value.ref ((qs[j]?.map (·.1)).getD 0))
      rw [ez, eits, List.getElem?_toArray, List.getElem?_map, hz]
      rfl
    show s.heap.IsTuple ((qs[j]?.map (·.1)).getD 0) _
    rw [ez]
    obtain ⟨ts, rt, pt, _⟩ := I.tuple (.inl (.inl (hp z (List.mem_of_getElem? hz)).1))
    cases rt with
    | cons r1 rr =>
      cases rr with
      | cons r2 rr =>
        cases rr
        cases r1
        cases r2
        exact pt
  have hkey : ∀ z ∈ qs, (tupleKind (mixKind X.prog X.w)).is s.heap z.2.2 z.2.1 := fun z hz => key_of I.hok (hp z hz).2
  refine PySem.call_dict_pairsH (knd := tupleKind (mixKind X.prog X.w)) (ps := qs.map fun q => (q.2.2, q.2.1, Value.bool true)) (PySem.PairArg.list a its.toArray _ (qs.map fun q => (Value.ref q.2.1, Value.bool true))) (I.ok.hd calm) ?_ ⟨hpl, hpi⟩ ⟨by simp, fun i key v hr => ?_⟩ (fun h' hk x hx => ?_) (by rw [List.length_map]; exact hz) fun h' tk hd' hk => ?_
  · show X.A.in1.in1.units < cLine
    exact tupleKind_room_in1 (knd := mixKind X.prog X.w) (A := X.A.in1) (by have := Around.in1_units (A := X.A); omega)
  · have hr : (qs.map fun q => (Value.ref q.2.1, Value.bool true))[i]? = some (key, v) := hr
    rw [List.getElem?_map] at hr
    obtain ⟨z, hz, e⟩ := Option.map_eq_some_iff.mp hr
    cases e
    exact ⟨z.2.2, z.2.1, by rw [List.getElem?_map, hz]; rfl, rfl⟩
  · obtain ⟨z, hz, rfl⟩ := List.mem_map.mp hx
    obtain ⟨o, its, n, h1, r⟩ := hkey z hz
    exact ⟨o, its, n, hk _ _ (Nat.ne_of_lt (Heap.lt_size h1)) (fun z => by cases z) h1, r⟩
  · have hm : (s.heap.objs.size == sysModules) = false := beq_eq_false_iff_ne.mpr (Nat.ne_of_gt I.big)
    have hn : H s.heap.objs.size = none := I.hok.fresh (Nat.le_refl _)
    have hkt : KT H (trueT (qs.map fun q => q.2.2) []) (storedAllH [] (qs.map fun q => (q.2.2, q.2.1, Value.bool true))) := kt_all .nil fun z hz => (hp z hz).2
    obtain ⟨q1, es, ep, hq1, a2, a3, a4, _, a5⟩ := hd'
    have hl : (trueT (qs.map fun q => q.2.2) []).length ≤ sizeLine := by
      have := trueT_len (qs.map fun q => q.2.2) []
      rw [List.length_map, List.length_nil] at this
      omega
    refine ⟨.ref s.heap.objs.size, upd H s.heap.objs.size (.dT (trueT (qs.map fun q => q.2.2) [])), I.laid (t' := tk) (fun b o e => hk b o (fun z => by cases z) e) (Nat.le_refl _) ?_, rfl, q _ hn⟩
    refine ⟨hl, hm, _, hkt.keeps fun c ys ec => ?_, q1, es, ep, hq1, a2, a3, a4, a5⟩
    rw [upd_ne (ne_of_none ec hn)]
    exact ec
end L2
end
section
set_option Elab.async false
set_option linter.all false
set_option maxRecDepth 100000
set_option maxHeartbeats 4000000
namespace L2
open PySem PySem.Spec PyProof.Rows
/-! ### xs.remove(text), there -/
def strE (k : Str) (v : Value) : Bool := match v with
  | .str x _ => x.cps.toList == k.cps.toList
  | _ => false
theorem str_cps {x y : Str} : x.cps.toList = y.cps.toList ↔ x = y := ⟨fun h => by
  cases x with | mk a => cases y with | mk b =>
  have e : a = b := Array.ext' h
  rw [e], fun h => by rw [h]⟩
def rRemS : V → List V → Hp → VK → Prop := fun x xs H Q => ∃ (l : Addr) (ns : List Str) (k : Str), x = .ref l ∧ xs = [.str k] ∧ H l = some (.lst (ns.map V.str)) ∧ k ∈ ns ∧ Q .non (upd H l (.lst ((ns.erase k).map V.str)))
theorem erase_at [DecidableEq α] : ∀ {ns : List α} {k : α}, k ∈ ns → ∃ j, ns[j]? = some k ∧ (∀ m : Nat, m < j → ns[m]? ≠ some k) ∧ ns.eraseIdx j = ns.erase k
  | [], k, h => absurd h (by simp)
  | a :: r, k, h => by
    by_cases e : a = k
    · exact ⟨0, by rw [e]; rfl, fun m hm => absurd hm (Nat.not_lt_zero _), by rw [e, List.erase_cons_head]; rfl⟩
    · obtain ⟨j, h1, h2, h3⟩ := erase_at ((List.mem_cons.mp h).resolve_left fun z => e z.symm)
      refine ⟨j + 1, h1, fun m hm => ?_, by rw [List.erase_cons_tail (by simpa using e), ← h3]; rfl⟩
      cases m with
      | zero => exact fun z => e (Option.some.inj z)
      | succ m => exact h2 m (Nat.lt_of_succ_lt_succ hm)
theorem erase_map {α β : Type} (f : α → β) : ∀ (l : List α) (j : Nat), (l.map f).eraseIdx j = (l.eraseIdx j).map f
  | [], j => by simp
  | a :: r, 0 => by simp
  | a :: r, j + 1 => by
    have ih := erase_map f r j
    simp [ih]
theorem mt_removeS {X : Cx} : MtM X "list.remove" rRemS := by
  intro pins s σ H x xs v us Q I rx rxs h
  obtain ⟨l, ns, k, rfl, rfl, hH, hk, q⟩ := h
  cases rx
  obtain ⟨u, rfl, ru⟩ := rxs.one
  obtain ⟨t, rfl⟩ := ru
  obtain ⟨z, its, n, r, hl, e⟩ := I.lstM hH
  rw [List.length_map] at hl z
  obtain ⟨j, hj, hno, he⟩ := erase_at hk
  have hjn : j < ns.length := (List.getElem?_eq_some_iff.mp hj).1
  have hjl : j < its.toArray.size := by rw [List.size_toArray]; omega
  have at_ : ∀ m (hm : m < its.length), ∃ y t', ns[m]? = some y ∧ its[m] = .str y t' := fun m hm => by
    have hmn : m < ns.length := by omega
    obtain ⟨w, h1, h2⟩ := r.get (i := m) (x := .str ns[m]) (by rw [List.getElem?_map, List.getElem?_eq_getElem hmn]; rfl)
    obtain ⟨t', rfl⟩ := h2
    obtain ⟨_, h3⟩ := List.getElem?_eq_some_iff.mp h1
    exact ⟨ns[m], t', List.getElem?_eq_getElem hmn, h3⟩
  refine call_meets PySem.F.slot_list_remove ⟨_, e, rfl⟩ PySem.F.entry_list_remove (PySem.F.args_list_remove_2 _ _)
    (MeetsSeq.list_remove l its.toArray n (.str k t) (strE k) (fun y hy => ?_) j hjl ?_ ?_ (by rw [List.size_toArray]; omega)) ⟨e, ?_⟩
  · have hy : y ∈ its := by simpa using hy
    obtain ⟨m, hm, rfl⟩ := List.mem_iff_getElem.mp hy
    obtain ⟨y, t', _, e2⟩ := at_ m hm
    rw [e2]
    exact PySem.SeqRoads2.EqGives.str y k t' t
  · obtain ⟨y, t', e1, e2⟩ := at_ j (by omega)
    rw [hj] at e1
    cases e1
    have e3 : its.toArray[j] = .str k t' := by simpa using e2
    rw [e3]
    exact beq_self_eq_true k.cps.toList
  · intro m hm hmj
    obtain ⟨y, t', e1, e2⟩ := at_ m (by rw [List.size_toArray] at hm; exact hm)
    have e3 : its.toArray[m] = .str y t' := by simpa using e2
    rw [e3]
    show (y.cps.toList == k.cps.toList) = false
    refine beq_eq_false_iff_ne.mpr fun e4 => hno m hmj ?_
    rw [e1, str_cps.mp e4]
  · have rr := r.eraseIdx j
    rw [erase_map, he] at rr
    refine ⟨.non, _, I.lset (its' := its.eraseIdx j) (t' := s.toks) hH e ?_ rr ?_, rfl, q⟩
    · show its.toArray.eraseIdxIfInBounds j = (its.eraseIdx j).toArray
      rw [List.eraseIdxIfInBounds_toArray]
    · rw [List.length_map]
      have := List.length_erase_le (a := k) (l := ns)
      omega
end L2
namespace K0
open PySem PySem.Spec PyProof.Rows L2
/-! ### who goes ahead of whom, told by a dict of pairs -/
def pkR (r : Row) : List Key := [Sum.inr r.1, Sum.inr r.2]
def toldD (A : List Row) : List (List Key × V) := trueT (A.map pkR) []
theorem told_has {l : List (List Key)} : ∀ {acc : List (List Key × V)} (k : List Key), (valV (trueT l acc) k).isSome = true ↔ (valV acc k).isSome = true ∨ k ∈ l := by
  induction l with
  | nil => exact fun k => ⟨.inl, fun h => h.resolve_right fun z => by cases z⟩
  | cons a r ih =>
    intro acc k
    show (valV (trueT r (putK acc a (.bl true))) k).isSome = true ↔ _
    rw [ih, valV_put]
    by_cases e : k = a
    · rw [if_pos e]
      exact ⟨fun _ => .inr (by rw [e]; exact List.mem_cons_self), fun _ => .inl rfl⟩
    · rw [if_neg e]
      exact ⟨fun h => h.imp id (List.mem_cons_of_mem _), fun h => h.imp id fun z => (List.mem_cons.mp z).resolve_left e⟩
theorem told_in {A : List Row} (a b : Str) : (valV (toldD A) (pkR (a, b))).isSome = decide ((a, b) ∈ A) := by
  have h : pkR (a, b) ∈ A.map pkR ↔ (a, b) ∈ A := ⟨fun h => by
    obtain ⟨r, hr, e⟩ := List.mem_map.mp h
    unfold pkR at e
    injection e with e1 e2
    injection e2 with e2 _
    cases e1
    cases e2
    exact hr, fun h => List.mem_map.mpr ⟨_, h, rfl⟩⟩
  rw [Bool.eq_iff_iff, decide_eq_true_eq, ← h]
  unfold toldD
  rw [told_has]
  exact ⟨fun z => z.resolve_left (fun y => by cases y), Or.inr⟩
theorem pk_kv (a b : Str) : ([.str a, .str b] : List V) = (pkR (a, b)).map kV := rfl
def behind (A : List Row) (L : List Str) (n : Str) : Bool := L.any fun o => decide ((o, n) ∈ A)
def firstFree (A : List Row) (L : List Str) : Option Str := L.find? fun n => !behind A L n
def optS : Option Str → V
  | none => .non
  | some n => .str n
abbrev scFirstFree_N : List Str := ["left", "told", "name", "other"]
abbrev scFirstFree_S : Stmt := sFirstFree
theorem scFirstFree : FnScope scFirstFree_N ["left", "told"] (defScope sFirstFree) := ⟨rfl, rfl, rfl, by decide +kernel, rfl, by decide +kernel, by decide +kernel⟩
def spFirstFree : Sp := fun vs H Q _ => ∃ (l D : Addr) (L : List Str) (A : List Row), vs = [.ref l, .ref D] ∧ H l = some (.lst (L.map V.str)) ∧ H D = some (.dT (toldD A)) ∧ L.length ≤ 40 ∧ ∀ H', Same H H' → Q (optS (firstFree A L)) H'
section
variable {P : Program} {w : World} {K : PySem.W.Frag} {mg : Str → Option Value} {base : Heap} {tS tM tL : Tok}
theorem ok_firstfree {f : Addr} {fd : FuncData} (F : FnP K "_first_free" sFirstFree f fd) (B : Bl mg) : FnOk P w K mg base CX0 1 f fd ["left", "told"] spFirstFree := by
  refine F.ok scFirstFree (fun vs H Q E h => ?_) (fun cdv A outer s H vs Q E hr h => ?_)
  · obtain ⟨l, D, L, A, rfl, _⟩ := h
    rfl
  · obtain ⟨l, D, L, AA, rfl, hl, hD, hLl, k⟩ := h
    have hu := hu_of hr
    refine ⟨_, PSs.nox (pss_cons
      (ps_for PassesOwn.never rfl (pi_list (pv 0)) (pg_name (i := 2) scFirstFree.nd rfl (Or.inr rfl)) (pss_one
      (ps_if (pt_not (pt_val (pe_callB (anyK (K := K) rfl) (by rfl) B.any (by decide +kernel) (pa_cons (pe_lc (own := [("other", 3)]) (g := gName 3) (tt := tYes) (by rfl) scFirstFree.nd (pi_list (pv 0)) (blkOk_by (own := [("other", 3)]) (N := scFirstFree_N) (sc := defScope scFirstFree_S) (by decide +kernel)) (fun _ _ _ _ _ => (pg_name (i := 3) scFirstFree.nd rfl (Or.inl rfl))) (fun _ _ _ _ _ => pts_nil) (fun _ _ _ _ _ => (pe_cmp (pc_din hu (pe_tup (pa_cons (pv 3) (pa_cons (pv 2) pa_nil))) (pv 1)) rfl))) pa_nil)))) (pss_one
      (ps_ret (pv 2))) pss_nil)))
      (pss_one
      (ps_ret pe_non))), ?_⟩
    refine ⟨_, rfl, l, rfl, ⟨_, .inl (.inl hl)⟩, ?_⟩
    refine for_list (K := K) (a := l) (xs := L.map V.str) (fun i σ H2 => ∃ v2, σ = [some (.ref l), some (.ref D), v2, none] ∧ Same H H2 ∧ firstFree AA L = (L.drop i).find? fun n => !behind AA L n) ⟨_, rfl, .refl _, rfl⟩ (fun i σ H2 hi h => by
      obtain ⟨_, _, s, _⟩ := h
      exact .inl (.inl (s _ _ hl))) ?_ ?_
    · rintro i x σ H2 hx ⟨v2, rfl, s2, hff⟩
      rw [List.getElem?_map] at hx
      obtain ⟨n, hn, rfl⟩ := Option.map_eq_some_iff.mp hx
      have hdr : L.drop i = n :: L.drop (i + 1) := by
        obtain ⟨hlt, e⟩ := List.getElem?_eq_some_iff.mp hn
        rw [List.drop_eq_getElem_cons hlt, e]
      have hl2 := s2 _ _ hl
      refine ⟨_, rfl, l, rfl, ⟨_, .inl (.inl hl2)⟩, fun Z nZ => ?_⟩
      refine lc_listO (K := K) (a := l) (xs := L.map V.str) nZ (fun j => ((L.take j).map fun o => decide ((o, n) ∈ AA)).map V.bl) (by rw [List.take_zero]; rfl) (fun j _ => by rw [List.length_map, List.length_map, List.length_take]; exact small1000 (by omega)) (.inl (.inl hl2)) ?_ ?_
      · intro j x H3 Nx hx s3 put skip
        rw [List.getElem?_map] at hx
        obtain ⟨o, ho, rfl⟩ := Option.map_eq_some_iff.mp hx
        refine ⟨rfl, ?_⟩
        unfold tYes
        refine iteT ?_
        refine ⟨_, rfl, _, rfl, by show 2 ≤ sizeLine; decide, fun t nt => ?_⟩
        have s4 : Same H3 (upd H3 t (.tup [.str o, .str n])) := same_upd nt
        have hD4 := s4 _ _ (s3 _ _ (s2 _ _ hD))
        refine ⟨_, rfl, D, _, rfl, DGet.t (k := pkR (o, n)) hD4 (by rw [upd_same]; rfl), ?_⟩
        rw [told_in]
        refine put _ _ s4 ?_
        rw [take_map1 ho, List.map_append]
        rfl
      intro H3 s3 hl3
      rw [List.length_map, List.take_length] at hl3
      refine ⟨Z, _, rfl, .inl (.inl hl3), _, rfl, ?_⟩
      have e : ((L.map fun o => decide ((o, n) ∈ AA)).any id) = behind AA L n := by
        rw [List.any_map]
        rfl
      rw [e]
      rw [hdr, List.find?_cons] at hff
      refine ite2 (fun h => ?_) (fun h => ?_)
      · rw [h] at hff
        refine ⟨_, rfl, ?_⟩
        have := k H3 (s2.trans s3)
        rw [hff] at this
        exact this
      · have h : (!behind AA L n) = false := Bool.not_eq_true _ ▸ h
        rw [h] at hff
        exact ⟨_, rfl, s2.trans s3, hff⟩
    · rintro σ H2 ⟨v2, rfl, s2, hff⟩
      rw [List.length_map, List.drop_length] at hff
      have := k H2 s2
      rw [hff] at this
      exact this
end
end K0
end
section
set_option Elab.async false
set_option linter.all false
set_option maxRecDepth 100000
set_option maxHeartbeats 4000000
namespace K0
open PySem PySem.Spec PyProof.Rows L2
/-! ### the line -/
def goLine (A : List Row) : Nat → List Str → List Str
  | 0, _ => []
  | k + 1, L => match firstFree A L with
    | none => []
    | some n => n :: goLine A k (L.erase n)
def lineOf (A : List Row) (L : List Str) : List Str := goLine A L.length L
theorem ff_mem {A : List Row} {L : List Str} {n : Str} (h : firstFree A L = some n) : n ∈ L := List.mem_of_find?_eq_some h
theorem lineOf_none {A : List Row} {L : List Str} (h : firstFree A L = none) : lineOf A L = [] := by
  unfold lineOf
  cases L with
  | nil => rfl
  | cons a r =>
    show (match firstFree A (a :: r) with
      | none => []
      | some n => n :: goLine A r.length ((a :: r).erase n)) = []
    rw [h]
theorem lineOf_some {A : List Row} {L : List Str} {n : Str} (h : firstFree A L = some n) : lineOf A L = n :: lineOf A (L.erase n) := by
  have hm := ff_mem h
  have hl : (L.erase n).length + 1 = L.length := by
    have := List.length_erase_of_mem hm
    have hp := List.length_pos_of_mem hm
    omega
  unfold lineOf
  rw [← hl]
  simp only [goLine, h]
theorem lineOf_len {A : List Row} : ∀ (k : Nat) (L : List Str), (goLine A k L).length ≤ k
  | 0, L => Nat.le_refl _
  | k + 1, L => by
    show (match firstFree A L with
      | none => []
      | some n => n :: goLine A k (L.erase n)).length ≤ k + 1
    cases firstFree A L with
    | none => exact Nat.zero_le _
    | some n => exact Nat.succ_le_succ (lineOf_len k _)
abbrev scLine_N : List Str := ["rights", "told", "left", "line", "name"]
abbrev scLine_S : Stmt := sLine
theorem scLine : FnScope scLine_N ["rights", "told"] (defScope sLine) := ⟨rfl, rfl, rfl, by decide +kernel, rfl, by decide +kernel, by decide +kernel⟩
def spLine (Cg Cr : Addr) : Sp := fun vs H Q _ => ∃ (p q D : Addr) (A : List Row) (AR : List (Addr × Row)) (BR : List (Addr × RRow)), vs = [.ref p, .ref D] ∧ RigOk Cg Cr H p q AR BR ∧ H D = some (.dT (toldD A)) ∧
  ∀ H' z, Same H H' → H z = none → H' z = some (.lst ((lineOf A (rnm (bOf BR))).map V.str)) → Q (.ref z) H'
section
variable {P : Program} {w : World} {K : PySem.W.Frag} {mg : Str → Option Value} {base : Heap} {tS tM tL : Tok}
theorem ok_line {f fF Cg Cr : Addr} {fd fdF : FuncData} (F : FnP K "_line" sLine f fd) (F_first_free : FnP K "_first_free" sFirstFree fF fdF) (g_first_free : mg "_first_free" = some (.ref fF)) (TG : Rg K mg Cg) (B : Bl mg) : FnOk P w K mg base CX0 2 f fd ["rights", "told"] (spLine Cg Cr) := by
  have G_first_free : FnOk P w K mg base CX0 1 fF fdF ["left", "told"] spFirstFree := ok_firstfree F_first_free B
  have b_first_free : Binds K fdF ["left", "told"] [] := F_first_free.bindsN fun _ _ _ _ _ _ us hl => match us, hl with | [_, _], _ => rfl
  refine F.ok scLine (fun vs H Q E h => ?_) (fun cdv A outer s H vs Q E hr h => ?_)
  · obtain ⟨p, q, D, AA, AR, BR, rfl, _⟩ := h
    rfl
  · obtain ⟨p, q, D, AA, AR, BR, rfl, R, hD, k⟩ := h
    have hr_first_free : Room 1 _ := hr
    refine ⟨_, PSs.nox (pss_cons
      (ps_set (i := 2) scLine.nd rfl (Or.inl rfl) (pe_callTy (listK (K := K)) (by rfl) B.list (by decide +kernel) (pa_cons (fldK (K := K) (pv 0) rfl) pa_nil)))
      (pss_cons
      (ps_set (i := 3) scLine.nd rfl (Or.inl rfl) (pe_lst pa_nil))
      (pss_cons
      (ps_set (i := 4) scLine.nd rfl (Or.inl rfl) (pe_call G_first_free hr_first_free (by rfl) g_first_free F_first_free.kp b_first_free .nil pass0 (pa_cons (pv 2) (pa_cons (pv 1) pa_nil))))
      (pss_cons
      (ps_while PassesOwn.never (pt_cmpR op_notN (pv 4) pe_non (nomark _)) (pss_cons
      (ps_expr (pe_bm PySem.F.plainAttrs_list PySem.F.slot_list_remove PySem.F.type_list_remove mt_removeS (pv 2) (pa_cons (pv 4) pa_nil)))
      (pss_cons
      (ps_expr (pe_bm PySem.F.plainAttrs_list PySem.F.slot_list_append PySem.F.type_list_append mt_append (pv 3) (pa_cons (pv 4) pa_nil)))
      (pss_one
      (ps_set (i := 4) scLine.nd rfl (Or.inl rfl) (pe_call G_first_free hr_first_free (by rfl) g_first_free F_first_free.kp b_first_free .nil pass0 (pa_cons (pv 2) (pa_cons (pv 1) pa_nil))))))))
      (pss_one
      (ps_ret (pv 3))))))), ?_⟩
    have hm := R.b.most
    have hln : (rnm (bOf BR)).length = (bOf BR).length := List.length_map _
    obtain ⟨dx, tn, tr, dw, dl, dp, h1, h2, h3, h4, h5, h6, h7⟩ := id R.at_.ex
    refine ⟨_, rfl, p, Cg, dx, _, _, rfl, h1, TG.cl, TG.names, rr6n _ _ _ _ _ _, tn, _, rfl, .inr (.inl h3.rd), fun lf nlf => ?_⟩
    have s1 : Same H (upd H lf (.lst ((rnm (bOf BR)).map V.str))) := same_upd nlf
    have hlf : (upd H lf (.lst ((rnm (bOf BR)).map V.str))) lf = some (.lst ((rnm (bOf BR)).map V.str)) := upd_same
    generalize upd H lf (.lst ((rnm (bOf BR)).map V.str)) = H1 at s1 hlf
    refine ⟨Nat.zero_le _, fun z nz => ?_⟩
    have s2 : Same H1 (upd H1 z (.lst [])) := same_upd nz
    have hz : (upd H1 z (.lst [])) z = some (.lst (([] : List Str).map V.str)) := upd_same
    have lz : lf ≠ z := ne_of_none hlf nz
    have nzH : H z = none := by
      cases e : H z with
      | none => rfl
      | some o => rw [s1 _ _ e] at nz; cases nz
    generalize upd H1 z (.lst []) = H2 at s2 hz
    have hl2 := s2 _ _ hlf
    have hD2 := s2 _ _ (s1 _ _ hD)
    refine ⟨_, rfl, _, rfl, lf, D, rnm (bOf BR), AA, rfl, hl2, hD2, by omega, fun H3 s3 => ?_⟩
    refine ⟨fun m σ H4 => ∃ (Lf dn : List Str), m = Lf.length ∧ σ = [some (.ref p), some (.ref D), some (.ref lf), some (.ref z), some (optS (firstFree AA Lf))] ∧ H4 lf = some (.lst (Lf.map V.str)) ∧ H4 z = some (.lst (dn.map V.str)) ∧ lineOf AA (rnm (bOf BR)) = dn ++ lineOf AA Lf ∧ Same H H4 ∧ dn.length + Lf.length ≤ 40,
      ⟨_, rnm (bOf BR), [], rfl, rfl, s3 _ _ hl2, s3 _ _ hz, rfl, (s1.trans s2).trans s3, by show 0 + _ ≤ 40; omega⟩, ?_⟩
    rintro m σ H4 ⟨Lf, dn, rfl, rfl, hl4, hz4, hln4, s4, hsz⟩
    refine ⟨_, rfl, rfl, _, rfl, ?_⟩
    cases hff : firstFree AA Lf with
    | none =>
      refine iteF ?_
      rw [lineOf_none hff, List.append_nil] at hln4
      refine ⟨_, rfl, k H4 z s4 nzH ?_⟩
      rw [hln4]
      exact hz4
    | some n =>
      have hnm := ff_mem hff
      have hpos := List.length_pos_of_mem hnm
      have hel := List.length_erase_of_mem hnm
      refine iteT ⟨fun σ' H' => ∃ (dn' : List Str), σ' = [some (.ref p), some (.ref D), some (.ref lf), some (.ref z), some (optS (firstFree AA (Lf.erase n)))] ∧ H' lf = some (.lst ((Lf.erase n).map V.str)) ∧ H' z = some (.lst (dn'.map V.str)) ∧ lineOf AA (rnm (bOf BR)) = dn' ++ lineOf AA (Lf.erase n) ∧ Same H H' ∧ dn'.length + (Lf.erase n).length ≤ 40, fun σ' H' ⟨dn', a1, a2, a3, a4, a5, a6⟩ => ⟨(Lf.erase n).length, by omega, Lf.erase n, dn', rfl, a1, a2, a3, a4, a5, a6⟩, ?_⟩
      refine ⟨_, rfl, .inl ⟨rfl, _, .inl (.inl hl4)⟩, _, rfl, lf, Lf, n, rfl, rfl, hl4, hnm, ?_⟩
      have z5 : (upd H4 lf (.lst ((Lf.erase n).map V.str))) z = some (.lst (dn.map V.str)) := by rw [upd_ne lz.symm]; exact hz4
      refine ⟨_, rfl, .inl ⟨rfl, _, .inl (.inl z5)⟩, _, rfl, z, _, _, rfl, rfl, z5, by rw [List.length_map]; exact small1000 (by omega), ?_⟩
      have hlfH : H lf = none := nlf
      have s6 : Same H (upd (upd H4 lf (.lst ((Lf.erase n).map V.str))) z (.lst (dn.map V.str ++ [optS (some n)]))) := fun b o e => by
        rw [upd_ne (ne_of_none e nzH), upd_ne (ne_of_none e hlfH)]
        exact s4 _ _ e
      have l6 : (upd (upd H4 lf (.lst ((Lf.erase n).map V.str))) z (.lst (dn.map V.str ++ [optS (some n)]))) lf = some (.lst ((Lf.erase n).map V.str)) := by rw [upd_ne lz, upd_same]
      have z6 : (upd (upd H4 lf (.lst ((Lf.erase n).map V.str))) z (.lst (dn.map V.str ++ [optS (some n)]))) z = some (.lst ((dn ++ [n]).map V.str)) := by rw [upd_same, List.map_append]; rfl
      generalize upd (upd H4 lf (.lst ((Lf.erase n).map V.str))) z (.lst (dn.map V.str ++ [optS (some n)])) = H6 at s6 l6 z6
      refine ⟨_, rfl, _, rfl, lf, D, Lf.erase n, AA, rfl, l6, s6 _ _ hD, by omega, fun H7 s7 => ?_⟩
      refine ⟨dn ++ [n], rfl, s7 _ _ l6, s7 _ _ z6, ?_, s6.trans s7, ?_⟩
      · rw [hln4, lineOf_some hff, List.append_assoc]
        rfl
      · rw [List.length_append]
        show dn.length + 1 + _ ≤ 40
        omega
end
end K0
end
section
set_option Elab.async false
set_option linter.all false
set_option maxRecDepth 100000
set_option maxHeartbeats 4000000
namespace K0
open PySem PySem.Spec PyProof.Rows L2
/-! ### three that go round -/
abbrev Tri : Type := Str × Str × Str
def turnT (A : List Row) (a b c : Str) : Option Tri :=
  if (a, b) ∈ A ∧ (b, c) ∈ A ∧ (c, a) ∈ A then some (a, b, c) else if (a, c) ∈ A ∧ (c, b) ∈ A ∧ (b, a) ∈ A then some (a, c, b) else none
def OptT (H : Hp) (v : V) : Option Tri → Prop
  | none => v = .non
  | some t => ∃ a, v = .ref a ∧ H a = some (.tup [.str t.1, .str t.2.1, .str t.2.2])
theorem OptT.same {H H' : Hp} {v : V} {o : Option Tri} (h : OptT H v o) (s : Same H H') : OptT H' v o := by
  cases o with
  | none => exact h
  | some t =>
    obtain ⟨a, e, h⟩ := h
    exact ⟨a, e, s _ _ h⟩
theorem OptT.non {H : Hp} {v : V} {o : Option Tri} (h : OptT H v o) : decide (v = .non) = o.isNone := by
  cases o with
  | none => rw [show v = .non from h]; rfl
  | some t =>
    obtain ⟨a, e, _⟩ := h
    rw [e]
    rfl
abbrev scTurned_N : List Str := ["one", "two", "three", "told"]
abbrev scTurned_S : Stmt := sTurned
theorem scTurned : FnScope scTurned_N ["one", "two", "three", "told"] (defScope sTurned) := ⟨rfl, rfl, rfl, by decide +kernel, rfl, by decide +kernel, by decide +kernel⟩
def spTurned : Sp := fun vs H Q _ => ∃ (a b c : Str) (D : Addr) (A : List Row), vs = [.str a, .str b, .str c, .ref D] ∧ H D = some (.dT (toldD A)) ∧ ∀ H' v, Same H H' → OptT H' v (turnT A a b c) → Q v H'
/-- (x, y) in told -/
def tTold (i j m : Nat) : TT := tTest (tDIn (tTup (tCons (tVar i) (tCons (tVar j) tNil))) (tVar m))
theorem ask_told {σ : L2.St} {H : Hp} {i j m : Nat} {x y : Str} {D : Addr} {A : List Row} {Q : Bool → Hp → Prop} (hi : σ[i]? = some (some (.str x))) (hj : σ[j]? = some (some (.str y))) (hm : σ[m]? = some (some (.ref D))) (hD : H D = some (.dT (toldD A))) (k : ∀ H2, Same H H2 → Q (decide ((x, y) ∈ A)) H2) : tTold i j m σ H Q := by
  refine ⟨_, hi, _, hj, by show 2 ≤ sizeLine; decide, fun t nt => ⟨_, hm, D, _, rfl, DGet.t (k := pkR (x, y)) (same_upd nt _ _ hD) (by rw [upd_same]; rfl), _, rfl, ?_⟩⟩
  rw [told_in]
  exact k _ (same_upd nt)
section
variable {P : Program} {w : World} {K : PySem.W.Frag} {mg : Str → Option Value} {base : Heap} {tS tM tL : Tok}
theorem ok_turned {f : Addr} {fd : FuncData} (F : FnP K "turned" sTurned f fd) (B : Bl mg) : FnOk P w K mg base CX0 1 f fd ["one", "two", "three", "told"] spTurned := by
  refine F.ok scTurned (fun vs H Q E h => ?_) (fun cdv A outer s H vs Q E hr h => ?_)
  · obtain ⟨a, b, c, D, A, rfl, _⟩ := h
    rfl
  · obtain ⟨a, b, c, D, AA, rfl, hD, k⟩ := h
    have hu := hu_of hr
    refine ⟨_, PSs.nox (pss_cons
      (ps_if (PW.pt (pw_and (pt_cmp (pc_din hu (pe_tup (pa_cons (pv 0) (pa_cons (pv 1) pa_nil))) (pv 3))) (pw_and (pt_cmp (pc_din hu (pe_tup (pa_cons (pv 1) (pa_cons (pv 2) pa_nil))) (pv 3))) (pw_and1 (pt_cmp (pc_din hu (pe_tup (pa_cons (pv 2) (pa_cons (pv 0) pa_nil))) (pv 3))))))) (pss_one
      (ps_ret (pe_tup (pa_cons (pv 0) (pa_cons (pv 1) (pa_cons (pv 2) pa_nil)))))) pss_nil)
      (pss_cons
      (ps_if (PW.pt (pw_and (pt_cmp (pc_din hu (pe_tup (pa_cons (pv 0) (pa_cons (pv 2) pa_nil))) (pv 3))) (pw_and (pt_cmp (pc_din hu (pe_tup (pa_cons (pv 2) (pa_cons (pv 1) pa_nil))) (pv 3))) (pw_and1 (pt_cmp (pc_din hu (pe_tup (pa_cons (pv 1) (pa_cons (pv 0) pa_nil))) (pv 3))))))) (pss_one
      (ps_ret (pe_tup (pa_cons (pv 0) (pa_cons (pv 2) (pa_cons (pv 1) pa_nil)))))) pss_nil)
      (pss_one
      (ps_ret pe_non)))), ?_⟩
    refine ask_told rfl rfl rfl hD fun H1 s1 => ?_
    have second : ∀ {H1 : Hp}, Same H H1 → ¬ ((a, b) ∈ AA ∧ (b, c) ∈ AA ∧ (c, a) ∈ AA) → tIfS (tAnd (tTold 0 2 3) (tAnd (tTold 2 1 3) (tTold 1 0 3))) (tSeq (tRet (tTup (tCons (tVar 0) (tCons (tVar 2) (tCons (tVar 1) tNil))))) tNext) tNext { nx := fun σ H' => (tSeq (tRet (tC V.non)) tNext) { nx := fun _ H' => Q .non H', rt := Q } σ H', rt := Q } (start scTurned_N [.str a, .str b, .str c, .ref D]) H1 := fun {H1} s1 n1 => by
      have hn : turnT AA a b c = if (a, c) ∈ AA ∧ (c, b) ∈ AA ∧ (b, a) ∈ AA then some (a, c, b) else none := if_neg n1
      have no : ∀ {H2}, Same H H2 → ¬ ((a, c) ∈ AA ∧ (c, b) ∈ AA ∧ (b, a) ∈ AA) → Q .non H2 := fun {H2} s2 n2 => k H2 .non s2 (by rw [hn, if_neg n2]; rfl)
      refine ask_told rfl rfl rfl (s1 _ _ hD) fun H2 s2 => ?_
      refine ite2 (fun h1 => ?_) (fun h1 => ?_)
      · refine ask_told rfl rfl rfl ((s1.trans s2) _ _ hD) fun H3 s3 => ?_
        refine ite2 (fun h2 => ?_) (fun h2 => ?_)
        · refine ask_told rfl rfl rfl (((s1.trans s2).trans s3) _ _ hD) fun H4 s4 => ?_
          have s14 := ((s1.trans s2).trans s3).trans s4
          refine ite2 (fun h3 => ?_) (fun h3 => ?_)
          · refine ⟨_, rfl, _, rfl, _, rfl, by show 3 ≤ sizeLine; decide, fun t nt => ?_⟩
            refine k _ _ (s14.trans (same_upd nt)) ?_
            rw [hn, if_pos ⟨of_decide_eq_true h1, of_decide_eq_true h2, of_decide_eq_true h3⟩]
            exact ⟨t, rfl, upd_same⟩
          · exact no s14 fun z => h3 (decide_eq_true z.2.2)
        · exact no ((s1.trans s2).trans s3) fun z => h2 (decide_eq_true z.2.1)
      · exact no (s1.trans s2) fun z => h1 (decide_eq_true z.1)
    refine ite2 (fun h1 => ?_) (fun h1 => ?_)
    · refine ask_told rfl rfl rfl (s1 _ _ hD) fun H2 s2 => ?_
      refine ite2 (fun h2 => ?_) (fun h2 => ?_)
      · refine ask_told rfl rfl rfl ((s1.trans s2) _ _ hD) fun H3 s3 => ?_
        have s13 := (s1.trans s2).trans s3
        refine ite2 (fun h3 => ?_) (fun h3 => ?_)
        · refine ⟨_, rfl, _, rfl, _, rfl, by show 3 ≤ sizeLine; decide, fun t nt => ?_⟩
          refine k _ _ (s13.trans (same_upd nt)) ?_
          have : turnT AA a b c = some (a, b, c) := if_pos ⟨of_decide_eq_true h1, of_decide_eq_true h2, of_decide_eq_true h3⟩
          rw [this]
          exact ⟨t, rfl, upd_same⟩
        · exact second s13 fun z => h3 (decide_eq_true z.2.2)
      · exact second (s1.trans s2) fun z => h2 (decide_eq_true z.2.1)
    · exact second s1 fun z => h1 (decide_eq_true z.1)
end
end K0
end
section
set_option Elab.async false
set_option linter.all false
set_option maxRecDepth 100000
set_option maxHeartbeats 8000000
namespace L2
open PySem PySem.Spec PyProof.Rows
theorem sl_tupAK {X : Cx} {K : PySem.W.Frag} (e : X.K = K := by rfl) : SlR X (rSlA K) := e ▸ sl_tupA
end L2
namespace K0
open PySem PySem.Spec PyProof.Rows L2
/-! ### the first three of some names that go round -/
def ring2 (A : List Row) (a : Str) : List Str → Option Tri
  | [] => none
  | b :: cs => (cs.findSome? (turnT A a b)).or (ring2 A a cs)
def ring1 (A : List Row) : List Str → Option Tri
  | [] => none
  | a :: bs => (ring2 A a bs).or (ring1 A bs)
abbrev scRingAt_N : List Str := ["names", "told", "place", "one", "at", "three", "ring"]
abbrev scRingAt_S : Stmt := sRingAt
theorem scRingAt : FnScope scRingAt_N ["names", "told"] (defScope sRingAt) := ⟨rfl, rfl, rfl, by decide +kernel, rfl, by decide +kernel, by decide +kernel⟩
def spRingAt : Sp := fun vs H Q _ => ∃ (t D : Addr) (ns : List Str) (A : List Row), vs = [.ref t, .ref D] ∧ TxR H t ns ∧ H D = some (.dT (toldD A)) ∧ ns.length ≤ 40 ∧ ∀ H' v, Same H H' → OptT H' v (ring1 A ns) → Q v H'
section
variable {P : Program} {w : World} {K : PySem.W.Frag} {mg : Str → Option Value} {base : Heap} {tS tM tL : Tok}
theorem ok_ringat {f fT : Addr} {fd fdT : FuncData} (F : FnP K "_ring_at" sRingAt f fd) (Fturned : FnP K "turned" sTurned fT fdT) (gturned : mg "turned" = some (.ref fT)) (B : Bl mg) : FnOk P w K mg base CX0 2 f fd ["names", "told"] spRingAt := by
  have Gturned : FnOk P w K mg base CX0 1 fT fdT ["one", "two", "three", "told"] spTurned := ok_turned Fturned B
  have bturned : Binds K fdT ["one", "two", "three", "told"] [] := Fturned.bindsN fun _ _ _ _ _ _ us hl => match us, hl with | [_, _, _, _], _ => rfl
  refine F.ok scRingAt (fun vs H Q E h => ?_) (fun cdv A outer s H vs Q E hr h => ?_)
  · obtain ⟨t, D, ns, A, rfl, _⟩ := h
    rfl
  · obtain ⟨t, D, ns, AA, rfl, ht, hD, hl, k⟩ := h
    have hrturned : Room 1 _ := hr
    refine ⟨_, PSs.nox (pss_cons
      (ps_for PassesOwn.never rfl (pi_enumT (by rfl) B.enumerate (pa_cons (pv 0) pa_nil)) (tgK (K := K) (n := 2) (by rfl) (pgs_cons (pg_name (i := 2) scRingAt.nd rfl (Or.inl rfl)) (pgs_cons (pg_name (i := 3) scRingAt.nd rfl (Or.inl rfl)) pgs_nil))) (pss_one
      (ps_for PassesOwn.never rfl (pi_range2 (by rfl) B.range (pa_cons (pe_op op_add (pv 2) pe_int) (pa_cons (pe_callB (lenK (K := K)) (by rfl) B.len PySem.boot_len (pa_cons (pv 0) pa_nil)) pa_nil))) (pg_name (i := 4) scRingAt.nd rfl (Or.inl rfl)) (pss_one
      (ps_for PassesOwn.never rfl (pi_tup (pe_slice (sl_tupAK (K := K)) (pv 0) (po_some (pe_op op_add (pv 4) pe_int)) po_none)) (pg_name (i := 5) scRingAt.nd rfl (Or.inl rfl)) (pss_cons
      (ps_set (i := 6) scRingAt.nd rfl (Or.inl rfl) (pe_call Gturned hrturned (by rfl) gturned Fturned.kp bturned .nil pass0 (pa_cons (pv 3) (pa_cons (pe_ix (ixTK (K := K)) (pv 0) (pv 4) (fun _ _ => rfl)) (pa_cons (pv 5) (pa_cons (pv 1) pa_nil))))))
      (pss_one
      (ps_if (pt_cmpR op_notN (pv 6) pe_non (nomark _)) (pss_one
      (ps_ret (pv 6))) pss_nil))))))))
      (pss_one
      (ps_ret pe_non))), ?_⟩
    have hnl : (ns.map V.str).length = ns.length := List.length_map _
    refine ⟨_, rfl, t, _, rfl, .inl ht, ?_⟩
    refine for_it (walk_enumT (K := K) (a := t) (xs := ns.map V.str)) (fun i σ H2 => ∃ (v2 v3 v4 v5 v6 : Option V), σ = [some (.ref t), some (.ref D), v2, v3, v4, v5, v6] ∧ Same H H2 ∧ ring1 AA ns = ring1 AA (ns.drop i))
      ⟨_, _, _, _, _, rfl, .refl _, rfl⟩ (fun _ _ _ _ h => by obtain ⟨_, _, _, _, _, _, s, _⟩ := h; exact .inl (ht.same s)) ?_ ?_
    · rintro i x σ H2 H3 hi ⟨v2, v3, v4, v5, v6, rfl, s2, hr1⟩ ⟨T, x1, x2, rfl, hT, rfl, e1, e2⟩
      rw [hnl] at hi
      cases e1
      have e2 : (ns.map V.str)[i]? = some x2 := e2
      rw [List.getElem?_map, List.getElem?_eq_getElem hi] at e2
      obtain rfl : V.str ns[i] = x2 := Option.some.inj e2
      have hdr : ns.drop i = ns[i] :: ns.drop (i + 1) := List.drop_eq_getElem_cons hi
      have s3 : Same H (upd H2 T (.tup [.int (i : Nat), .str ns[i]])) := s2.trans (same_upd hT)
      refine ⟨T, _, rfl, .inl (.inl upd_same), rfl, _, _, rfl, _, _, rfl, rfl, ?_⟩
      generalize upd H2 T (.tup [.int (i : Nat), .str ns[i]]) = H3 at s3
      rw [hdr] at hr1
      have hq1 : ring1 AA ns = (ring2 AA ns[i] (ns.drop (i + 1))).or (ring1 AA (ns.drop (i + 1))) := hr1
      clear hr1
      generalize ns[i] = a at hq1
      -- the middle one
      refine ⟨_, rfl, _, _, rfl, rfl, _, rfl, t, _, rfl, .inr (.inl (ht.same s3)), ?_⟩
      rw [hnl]
      refine ⟨_, _, rfl, ⟨by omega, by omega, by omega, by omega⟩, ?_⟩
      refine for_range (n := ((ns.length : Int) - ((i : Int) + 1)).toNat) (lo := (i : Int) + 1) (fun j σ H4 => ∃ (v4 v5 v6 : Option V), σ = [some (.ref t), some (.ref D), some (.int (i : Nat)), some (.str a), v4, v5, v6] ∧ Same H H4 ∧ ring2 AA a (ns.drop (i + 1)) = ring2 AA a (ns.drop (i + 1 + j)))
        ⟨_, _, _, rfl, s3, rfl⟩ ?_ ?_
      · rintro j σ H4 hj ⟨w4, w5, w6, rfl, s4, hr2⟩
        have hm : i + 1 + j < ns.length := by omega
        have eat : ((i : Int) + 1) + (j : Int) = ((i + 1 + j : Nat) : Int) := by omega
        rw [eat]
        have hdr2 : ns.drop (i + 1 + j) = ns[i + 1 + j] :: ns.drop (i + 1 + j + 1) := List.drop_eq_getElem_cons hm
        rw [hdr2] at hr2
        have hq2 : ring2 AA a (ns.drop (i + 1)) = ((ns.drop (i + 1 + j + 1)).findSome? (turnT AA a ns[i + 1 + j])).or (ring2 AA a (ns.drop (i + 1 + j + 1))) := hr2
        clear hr2
        have hbm : ns[i + 1 + j]? = some ns[i + 1 + j] := List.getElem?_eq_getElem hm
        generalize ns[i + 1 + j] = b at hq2 hbm
        generalize hme : i + 1 + j = m at hm hq2 hbm ⊢
        -- the third
        have hcut : cutV (ns.map V.str) (some ((m : Int) + 1)) none = (ns.drop (m + 1)).map V.str := by
          have e := cut_drop (ns.map V.str) (m + 1)
          rw [List.map_drop]
          exact e
        refine ⟨_, rfl, _, rfl, _, _, rfl, rfl, _, rfl, t, _, rfl, .inl (ht.same s4), fun hw => ?_, fun hw u nu => ?_⟩
        · have e := HT.sIx_nat (ns.map V.str).length 0 (m + 1)
          have h1 := hw.1
          rw [show ((m : Int) + 1) = ((m + 1 : Nat) : Int) by omega, e, List.length_map] at h1
          omega
        rw [hcut]
        have s5 : Same H (upd H4 u (.tup ((ns.drop (m + 1)).map V.str))) := s4.trans (same_upd nu)
        have hu5 : (upd H4 u (.tup ((ns.drop (m + 1)).map V.str))) u = some (.tup ((ns.drop (m + 1)).map V.str)) := upd_same
        generalize upd H4 u (.tup ((ns.drop (m + 1)).map V.str)) = H5 at s5 hu5
        refine ⟨u, rfl, ⟨_, .inl (.inl hu5)⟩, ?_⟩
        refine for_tup (K := K) (a := u) (xs := (ns.drop (m + 1)).map V.str) (fun l σ H6 => ∃ (v5 v6 : Option V), σ = [some (.ref t), some (.ref D), some (.int (i : Nat)), some (.str a), some (.int (m : Nat)), v5, v6] ∧ Same H H6 ∧ H6 u = some (.tup ((ns.drop (m + 1)).map V.str)) ∧ (ns.drop (m + 1)).findSome? (turnT AA a b) = ((ns.drop (m + 1)).drop l).findSome? (turnT AA a b))
          ⟨_, _, rfl, s5, hu5, rfl⟩ (fun l σ H6 _ h => by obtain ⟨_, _, _, _, h, _⟩ := h; exact .inl (.inl h)) ?_ ?_
        · rintro l x σ H6 hx ⟨z5, z6, rfl, s6, hu6, hr3⟩
          rw [List.getElem?_map] at hx
          obtain ⟨c, hc, rfl⟩ := Option.map_eq_some_iff.mp hx
          have hdr3 : (ns.drop (m + 1)).drop l = c :: (ns.drop (m + 1)).drop (l + 1) := by
            obtain ⟨hlt, e⟩ := List.getElem?_eq_some_iff.mp hc
            rw [List.drop_eq_getElem_cons hlt, e]
          rw [hdr3, List.findSome?_cons] at hr3
          refine ⟨_, rfl, _, rfl, _, rfl, t, _, _, .str b, rfl, rfl, .inl (ht.same s6), atI_nat (j := m) (by rw [List.getElem?_map, hbm]; rfl), _, rfl, _, rfl, a, b, c, D, AA, rfl, s6 _ _ hD, fun H7 v s7 ho => ?_⟩
          refine ⟨_, rfl, rfl, _, rfl, ?_⟩
          rw [ho.non]
          cases htr : turnT AA a b c with
          | none =>
            rw [htr] at hr3
            exact iteF ⟨_, _, rfl, s6.trans s7, s7 _ _ hu6, hr3⟩
          | some tr =>
            rw [htr] at hr3 ho
            refine iteT ⟨_, rfl, k H7 v (s6.trans s7) ?_⟩
            have e2 : ring2 AA a (ns.drop (i + 1)) = some tr := by rw [hq2, hr3]; rfl
            have e1 : ring1 AA ns = some tr := by rw [hq1, e2]; rfl
            rw [e1]
            exact ho
        · rintro σ H6 ⟨z5, z6, rfl, s6, hu6, hr3⟩
          rw [List.length_map, List.drop_length] at hr3
          have hr3 : (ns.drop (m + 1)).findSome? (turnT AA a b) = none := hr3
          refine ⟨_, _, _, rfl, s6, ?_⟩
          rw [hq2, hr3, ← Nat.add_assoc, hme]
          rfl
      · rintro σ H4 ⟨w4, w5, w6, rfl, s4, hr2⟩
        have e : i + 1 + ((ns.length : Int) - ((i : Int) + 1)).toNat = ns.length := by omega
        rw [e, List.drop_length] at hr2
        refine ⟨_, _, _, _, _, rfl, s4, ?_⟩
        rw [hq1, hr2]
        rfl
    · rintro σ H2 ⟨v2, v3, v4, v5, v6, rfl, s2, hr1⟩
      rw [hnl, List.drop_length] at hr1
      exact k H2 .non s2 (by rw [hr1]; rfl)
end
end K0
end
section
set_option Elab.async false
set_option linter.all false
set_option maxRecDepth 100000
set_option maxHeartbeats 4000000
namespace K0
open PySem PySem.Spec PyProof.Rows L2
/-! ### the first weir with such three -/
def firstRing (A : List Row) (R : List Row) (B : List RRow) (ws : List Str) : Option (Str × Tri) := ws.findSome? fun w => (ring1 A (passR R B w)).map fun r => (w, r)
def OptR (H : Hp) (v : V) : Option (Str × Tri) → Prop
  | none => v = .non
  | some r => ∃ t u, v = .ref t ∧ H t = some (.tup [.str "ring", .str r.1, .ref u]) ∧ H u = some (.tup [.str r.2.1, .str r.2.2.1, .str r.2.2.2])
theorem OptR.same {H H' : Hp} {v : V} {o : Option (Str × Tri)} (h : OptR H v o) (s : Same H H') : OptR H' v o := by
  cases o with
  | none => exact h
  | some t =>
    obtain ⟨a, u, e, h1, h2⟩ := h
    exact ⟨a, u, e, s _ _ h1, s _ _ h2⟩
abbrev scFirstRing_N : List Str := ["rights", "told", "weir", "ring"]
abbrev scFirstRing_S : Stmt := sFirstRing
theorem scFirstRing : FnScope scFirstRing_N ["rights", "told"] (defScope sFirstRing) := ⟨rfl, rfl, rfl, by decide +kernel, rfl, by decide +kernel, by decide +kernel⟩
def spFirstRing (Cg Cr : Addr) : Sp := fun vs H Q _ => ∃ (p q D : Addr) (A : List Row) (AR : List (Addr × Row)) (BR : List (Addr × RRow)), vs = [.ref p, .ref D] ∧ RigOk Cg Cr H p q AR BR ∧ H D = some (.dT (toldD A)) ∧ ∀ H' v, Same H H' → OptR H' v (firstRing A (rowsOf AR) (bOf BR) (namesOf AR)) → Q v H'
section
variable {P : Program} {w : World} {K : PySem.W.Frag} {mg : Str → Option Value} {base : Heap} {tS tM tL : Tok}
theorem ok_firstring {f fA fT fP Cg Cr : Addr} {fd fdA fdT fdP : FuncData} (F : FnP K "_first_ring" sFirstRing f fd) (F_ring_at : FnP K "_ring_at" sRingAt fA fdA) (g_ring_at : mg "_ring_at" = some (.ref fA)) (Fturned : FnP K "turned" sTurned fT fdT) (gturned : mg "turned" = some (.ref fT)) (Fpassing : FnM K "passing" "Rights.passing" sGPassing fP fdP) (Mpassing : Meth K Cg "passing" fP) (DW : NdS P w K mg base Cr) (TG : Rg K mg Cg) (T : Rv K mg Cr) (B : Bl mg) : FnOk P w K mg base CX0 4 f fd ["rights", "told"] (spFirstRing Cg Cr) := by
  have G_ring_at : FnOk P w K mg base CX0 2 fA fdA ["names", "told"] spRingAt := ok_ringat F_ring_at Fturned gturned B
  have b_ring_at : Binds K fdA ["names", "told"] [] := F_ring_at.bindsN fun _ _ _ _ _ _ us hl => match us, hl with | [_, _], _ => rfl
  have Gpassing : FnOk P w K mg base CX0 3 fP fdP ["self", "weir"] (spPassG Cg Cr) := ok_passG Fpassing DW TG
  have bpassing : Binds K fdP ["self", "weir"] [] := Fpassing.bindsN fun _ _ _ _ _ _ us hl => match us, hl with | [_, _], _ => rfl
  refine F.ok scFirstRing (fun vs H Q E h => ?_) (fun cdv A outer s H vs Q E hr h => ?_)
  · obtain ⟨p, q, D, AA, AR, BR, rfl, _⟩ := h
    rfl
  · obtain ⟨p, q, D, AA, AR, BR, rfl, R, hD, k⟩ := h
    have hr_ring_at : Room 2 _ := hr.mono (by decide)
    have hrpassing : Room 3 _ := hr
    refine ⟨_, PSs.nox (pss_cons
      (ps_for PassesOwn.never rfl (pi_tup (fldK (K := K) (fldK (K := K) (pv 0) rfl) rfl)) (pg_name (i := 2) scFirstRing.nd rfl (Or.inl rfl)) (pss_cons
      (ps_set (i := 3) scFirstRing.nd rfl (Or.inl rfl) (pe_call G_ring_at hr_ring_at (by rfl) g_ring_at F_ring_at.kp b_ring_at .nil pass0 (pa_cons (pe_meth (pv 0) TG.cl Mpassing Gpassing hrpassing bpassing .nil pass0 (pa_cons (pv 2) pa_nil)) (pa_cons (pv 1) pa_nil))))
      (pss_one
      (ps_if (pt_cmpR op_notN (pv 3) pe_non (nomark _)) (pss_one
      (ps_ret (pe_tup (pa_cons pe_str (pa_cons (pv 2) (pa_cons (pv 3) pa_nil)))))) pss_nil))))
      (pss_one
      (ps_ret pe_non))), ?_⟩
    have hb := R.b
    have hm := hb.most
    obtain ⟨dx, tn, tr, dw, dl, dp, h1, h2, h3, h4, h5, h6, h7⟩ := id R.at_.ex
    obtain ⟨ex, tw, tr2, db, dc, da, du, o3, e1, e2, _⟩ := id h2.ex
    refine ⟨_, rfl, p, Cg, dx, _, _, rfl, h1, TG.cl, TG.river, rr6r _ _ _ _ _ _, q, Cr, ex, _, _, rfl, e1, T.cl, T.weirs, g7w _ _ _ _ _ _ _, tw, rfl, ⟨_, .inl (.inl e2)⟩, ?_⟩
    refine for_tup (K := K) (a := tw) (xs := (namesOf AR).map V.str) (fun i σ H2 => ∃ v2 v3, σ = [some (.ref p), some (.ref D), v2, v3] ∧ Same H H2 ∧ firstRing AA (rowsOf AR) (bOf BR) (namesOf AR) = firstRing AA (rowsOf AR) (bOf BR) ((namesOf AR).drop i))
      ⟨_, _, rfl, .refl _, rfl⟩ (fun i σ H2 _ h => by obtain ⟨_, _, _, s, _⟩ := h; exact .inl (.inl (s _ _ e2))) ?_ ?_
    · rintro i x σ H2 hx ⟨v2, v3, rfl, s2, hf⟩
      rw [List.getElem?_map] at hx
      obtain ⟨y, hy, rfl⟩ := Option.map_eq_some_iff.mp hx
      have hym : y ∈ namesOf AR := List.mem_of_getElem? hy
      have hdr : (namesOf AR).drop i = y :: (namesOf AR).drop (i + 1) := by
        obtain ⟨hlt, e⟩ := List.getElem?_eq_some_iff.mp hy
        rw [List.drop_eq_getElem_cons hlt, e]
      rw [hdr] at hf
      unfold firstRing at hf
      rw [List.findSome?_cons] at hf
      refine ⟨_, rfl, p, dx, _, rfl, s2 _ _ h1, rr6no _ _ _ _ _ _ (by decide +kernel), _, rfl, p, q, y, AR, BR, rfl, R.same s2, hym, fun t ht => ?_⟩
      refine ⟨_, rfl, t, D, _, AA, rfl, ht, s2 _ _ hD, Nat.le_trans (List.length_filter_le _ _) (by rw [show (rnm (bOf BR)).length = (bOf BR).length from List.length_map _]; omega), fun H3 v s3 ho => ?_⟩
      refine ⟨_, rfl, rfl, _, rfl, ?_⟩
      rw [ho.non]
      cases htr : ring1 AA (passR (rowsOf AR) (bOf BR) y) with
      | none =>
        rw [htr] at hf
        exact iteF ⟨_, _, rfl, s2.trans s3, hf⟩
      | some tr =>
        rw [htr] at hf ho
        obtain ⟨u, rfl, hu⟩ := ho
        refine iteT ⟨_, rfl, _, rfl, by show 3 ≤ sizeLine; decide, fun z nz => ?_⟩
        have s4 : Same H3 (upd H3 z (.tup [.str "ring", .str y, .ref u])) := same_upd nz
        refine k _ _ ((s2.trans s3).trans s4) ?_
        have e : firstRing AA (rowsOf AR) (bOf BR) (namesOf AR) = some (y, tr) := hf
        rw [e]
        exact ⟨z, u, rfl, upd_same, s4 _ _ hu⟩
    · rintro σ H2 ⟨v2, v3, rfl, s2, hf⟩
      rw [List.length_map, List.drop_length] at hf
      refine k H2 .non s2 ?_
      rw [hf]
      rfl
end
end K0
end
section
set_option Elab.async false
set_option linter.all false
set_option maxRecDepth 100000
set_option maxHeartbeats 4000000
namespace L2
open PySem PySem.Spec PyProof.Rows
theorem dcT_list {K : PySem.W.Frag} {a : Addr} {xs : List V} {g : TG} {tk tv : TE} {vs : List Nat} {σ : St} {H1 : Hp} {L : Addr} {Qd : Hp → Prop} (Pv : Nat → Hp → Prop) (h0 : Pv 0 (upd H1 L (.dT []))) (hl : ∀ i H, i ≤ xs.length → Pv i H → SqL K H a xs)
    (hs : ∀ i x H, xs[i]? = some x → Pv i H → g x (wipe σ vs) H fun σ2 H2 => wipe σ2 vs = wipe σ vs ∧ tk σ2 H2 fun y H4 => tv σ2 H4 fun z H5 => ∃ kvs k b, y = .ref b ∧ H5 b = some (.tup (k.map kV)) ∧ H5 L = some (.dT kvs) ∧ kvs.length < sizeLine ∧ Pv (i + 1) (upd H5 L (.dT (putK kvs k z)))) (hd : ∀ H, Pv xs.length H → Qd H) :
    ∃ W : Nat → Nat → Hp → Prop, (∃ m, W 0 m (upd H1 L (.dT []))) ∧ ∀ i m H, W i m H → ((Itl K a).stop i H ∧ Qd H) ∨ ((Itl K a).go i H ∧ ∃ Nx : Hp → Prop, (∀ H', Nx H' → ∃ m', m' < m ∧ W (i + 1) m' H') ∧ ∀ x H', (Itl K a).yld i H x H' → g x (wipe σ vs) H' fun σ2 H2 => wipe σ2 vs = wipe σ vs ∧
      tk σ2 H2 fun y H4 => tv σ2 H4 fun z H5 => ∃ kvs k b, y = .ref b ∧ H5 b = some (.tup (k.map kV)) ∧ H5 L = some (.dT kvs) ∧ kvs.length < sizeLine ∧ Nx (upd H5 L (.dT (putK kvs k z)))) := by
  refine ⟨fun i m H => m = xs.length - i ∧ i ≤ xs.length ∧ Pv i H, ⟨_, rfl, Nat.zero_le _, h0⟩, fun i m H ⟨em, hi, p⟩ => ?_⟩
  have q := hl i H hi p
  rcases Nat.lt_or_ge i xs.length with lt | ge
  · refine .inr ⟨⟨xs, xs[i], q, List.getElem?_eq_getElem lt⟩, Pv (i + 1), fun H' p' => ⟨xs.length - (i + 1), by omega, rfl, lt, p'⟩, fun x H' ⟨e, y⟩ => ?_⟩
    rw [e]
    exact hs i x H (y xs q) p
  · obtain rfl : i = xs.length := by omega
    exact .inl ⟨⟨xs, q, Nat.le_refl _⟩, hd H p⟩
end L2
namespace K0
open PySem PySem.Spec PyProof.Rows L2
theorem toldD_take {A : List Row} {i : Nat} {r : Row} (h : A[i]? = some r) : toldD (A.take (i + 1)) = putK (toldD (A.take i)) (pkR r) (.bl true) := by
  unfold toldD
  rw [List.take_add_one, h, List.map_append]
  exact List.foldl_append
theorem toldD_len (A : List Row) : (toldD A).length ≤ A.length := by
  have := trueT_len (A.map pkR) []
  rw [List.length_map, List.length_nil, Nat.zero_add] at this
  exact this
/-! ### len(rights) -/
abbrev sGLen : Stmt := inClass sRights 2
theorem scGLen : FnScope ["self"] ["self"] (defScope sGLen) := ⟨rfl, rfl, rfl, by decide +kernel, rfl, by decide +kernel, by decide +kernel⟩
abbrev GLenG (Cg Cr : Addr) : Hp → Addr → Nat → Prop := fun H p n => ∃ q AR BR, RigOk Cg Cr H p q AR BR ∧ n = (rnm (bOf BR)).length
structure Ln (K : PySem.W.Frag) (Cg : Addr) : Prop where
  ex : ∃ f fd, FnM K "__len__" "Rights.__len__" sGLen f fd ∧ PySem.W.findIn K (.ref Cg) "__len__" = some (some (.ref f)) ∧ PySem.W.isFn K (.ref f) = true
/-! ### line_up -/
def LineUp (H : Hp) (v : V) (A R : List Row) (B : List RRow) (ws : List Str) : Prop :=
  if (lineOf A (rnm B)).length < (rnm B).length then OptR H v (firstRing A R B ws) else ∃ t u, v = .ref t ∧ H t = some (.tup [.str "line", .ref u]) ∧ FT H u (lineOf A (rnm B))
abbrev scLineUp_N : List Str := ["rights", "ahead", "told", "line", "pair"]
abbrev scLineUp_S : Stmt := sLineUp
theorem scLineUp : FnScope scLineUp_N ["rights", "ahead"] (defScope sLineUp) := ⟨rfl, rfl, rfl, by decide +kernel, rfl, by decide +kernel, by decide +kernel⟩
def spLineUp (Cg Cr : Addr) : Sp := fun vs H Q _ => ∃ (p q l : Addr) (AP AR : List (Addr × Row)) (BR : List (Addr × RRow)), vs = [.ref p, .ref l] ∧ RigOk Cg Cr H p q AR BR ∧ RowsAt H l AP ∧ AP.length ≤ 1640 ∧ ∀ H' v, Same H H' → LineUp H' v (rowsOf AP) (rowsOf AR) (bOf BR) (namesOf AR) → Q v H'
section
variable {P : Program} {w : World} {K : PySem.W.Frag} {mg : Str → Option Value} {base : Heap} {tS tM tL : Tok}
theorem ok_glen {f Cg Cr : Addr} {fd : FuncData} (F : FnM K "__len__" "Rights.__len__" sGLen f fd) (TG : Rg K mg Cg) (B : Bl mg) : FnOk P w K mg base CX0 1 f fd ["self"] (spLenG (GLenG Cg Cr)) := by
  refine F.ok scGLen (fun vs H Q E h => ?_) (fun cdv A outer s H vs Q E hr h => ?_)
  · obtain ⟨p, n, rfl, _⟩ := h
    rfl
  · obtain ⟨p, n, rfl, ⟨q, AR, BR, R, rfl⟩, hn, k⟩ := h
    refine ⟨_, PSs.nox (pss_one (ps_ret (pe_callB (lenK (K := K)) (by rfl) B.len PySem.boot_len (pa_cons (fldK (K := K) (pv 0) rfl) pa_nil)))), ?_⟩
    obtain ⟨dx, tn, tr, dw, dl, dp, h1, h2, h3, h4, h5, h6, h7⟩ := id R.at_.ex
    refine ⟨_, rfl, p, Cg, dx, _, _, rfl, h1, TG.cl, TG.names, rr6n _ _ _ _ _ _, tn, _, rfl, .inr (.inl h3.rd), ?_⟩
    rw [List.length_map]
    exact k
theorem ok_lineup {f fL fF fR fA fT fP Cg Cr : Addr} {fd fdL fdF fdR fdA fdT fdP : FuncData} (F : FnP K "line_up" sLineUp f fd) (F_line : FnP K "_line" sLine fL fdL) (g_line : mg "_line" = some (.ref fL)) (F_first_free : FnP K "_first_free" sFirstFree fF fdF) (g_first_free : mg "_first_free" = some (.ref fF)) (F_first_ring : FnP K "_first_ring" sFirstRing fR fdR) (g_first_ring : mg "_first_ring" = some (.ref fR))
    (F_ring_at : FnP K "_ring_at" sRingAt fA fdA) (g_ring_at : mg "_ring_at" = some (.ref fA)) (Fturned : FnP K "turned" sTurned fT fdT) (gturned : mg "turned" = some (.ref fT)) (Fpassing : FnM K "passing" "Rights.passing" sGPassing fP fdP) (Mpassing : Meth K Cg "passing" fP) (N : Ln K Cg) (DW : NdS P w K mg base Cr) (TG : Rg K mg Cg) (T : Rv K mg Cr) (B : Bl mg) : FnOk P w K mg base CX0 5 f fd ["rights", "ahead"] (spLineUp Cg Cr) := by
  obtain ⟨fN, fdN, FN, hs, hf⟩ := N.ex
  have GN : FnOk P w K mg base CX0 1 fN fdN ["self"] (spLenG (GLenG Cg Cr)) := ok_glen FN TG B
  have bN : Binds K fdN ["self"] [] := FN.bindsN fun _ _ _ _ _ _ us hl => match us, hl with | [_], _ => rfl
  have G_line : FnOk P w K mg base CX0 2 fL fdL ["rights", "told"] (spLine Cg Cr) := ok_line F_line F_first_free g_first_free TG B
  have b_line : Binds K fdL ["rights", "told"] [] := F_line.bindsN fun _ _ _ _ _ _ us hl => match us, hl with | [_, _], _ => rfl
  have G_first_ring : FnOk P w K mg base CX0 4 fR fdR ["rights", "told"] (spFirstRing Cg Cr) := ok_firstring F_first_ring F_ring_at g_ring_at Fturned gturned Fpassing Mpassing DW TG T B
  have b_first_ring : Binds K fdR ["rights", "told"] [] := F_first_ring.bindsN fun _ _ _ _ _ _ us hl => match us, hl with | [_, _], _ => rfl
  refine F.ok scLineUp (fun vs H Q E h => ?_) (fun cdv A outer s H vs Q E hr h => ?_)
  · obtain ⟨p, q, l, AP, AR, BR, rfl, _⟩ := h
    rfl
  · obtain ⟨p, q, l, AP, AR, BR, rfl, R, hA, hAl, k⟩ := h
    have hu := hu_of hr
    have hr_line : Room 2 _ := hr.mono (by decide)
    have hr_first_ring : Room 4 _ := hr
    have hrN : Room 2 _ := hr.mono (by decide)
    refine ⟨_, PSs.nox (pss_cons
      (k0_setDcT (i := 2) (own := [("pair", 4)]) (g := gName 4) (Nat.lt_of_succ_lt hu) rfl scLineUp.nd rfl rfl (k0_sw rfl rfl rfl (by decide +kernel)) (pi_list (pv 1)) (blkOk_by (own := [("pair", 4)]) (N := scLineUp_N) (sc := defScope scLineUp_S) (by decide +kernel)) (fun _ _ _ _ _ => (pg_name (i := 4) scLineUp.nd rfl (Or.inl rfl))) (fun _ _ _ _ _ => (pv 4)) (fun _ _ _ _ _ => pe_bl))
      (pss_cons
      (ps_set (i := 3) scLineUp.nd rfl (Or.inl rfl) (pe_call G_line hr_line (by rfl) g_line F_line.kp b_line .nil pass0 (pa_cons (pv 0) (pa_cons (pv 2) pa_nil))))
      (pss_cons
      (ps_if (pt_cmpR op_lt (pe_callB (lenK (K := K)) (by rfl) B.len PySem.boot_len (pa_cons (pv 3) pa_nil)) (pe_callB (k0_len_own (X := _) (k := 1) (C := Cg) GN hrN hs hf bN) (by rfl) B.len PySem.boot_len (pa_cons (pv 0) pa_nil)) (nomark _)) (pss_one
      (ps_ret (pe_call G_first_ring hr_first_ring (by rfl) g_first_ring F_first_ring.kp b_first_ring .nil pass0 (pa_cons (pv 0) (pa_cons (pv 2) pa_nil))))) pss_nil)
      (pss_one
      (ps_ret (pe_tup (pa_cons pe_str (pa_cons (pe_callTy (tupleF (K := K)) (by rfl) B.tuple (by decide +kernel) (pa_cons (pv 3) pa_nil)) pa_nil)))))))), ?_⟩
    have hm := R.b.most
    have hln : (rnm (bOf BR)).length = (bOf BR).length := List.length_map _
    have hAr : (rowsOf AP).length = AP.length := List.length_map _
    have z40 : 40000 ≤ sizeLine := by rw [sizeLine_eq]; omega
    refine ⟨_, rfl, l, rfl, ⟨_, .inl (.inl hA.lst)⟩, fun D hD => ?_⟩
    refine dcT_list (K := K) (a := l) (xs := AP.map fun q => V.ref q.1) (fun i H2 => Same H H2 ∧ H2 D = some (.dT (toldD ((rowsOf AP).take i)))) ⟨same_upd hD, upd_same⟩ (fun i H2 _ h => .inl (.inl (h.1 _ _ hA.lst))) ?_ ?_
    · rintro i x H2 hx ⟨s2, hD2⟩
      have hi : i < AP.length := by
        have := (List.getElem?_eq_some_iff.mp hx).1
        rw [List.length_map] at this
        exact this
      rw [List.getElem?_map, List.getElem?_eq_getElem hi] at hx
      obtain rfl : V.ref AP[i].1 = x := Option.some.inj hx
      have hri : (rowsOf AP)[i]? = some AP[i].2 := by rw [List.getElem?_map, List.getElem?_eq_getElem hi]; rfl
      have ht := s2 _ _ (hA.tup _ (List.getElem_mem hi))
      refine ⟨rfl, _, rfl, _, pkR AP[i].2, AP[i].1, rfl, ht, hD2, ?_, fun b o e => ?_, ?_⟩
      · have := toldD_len ((rowsOf AP).take i)
        rw [List.length_take] at this
        omega
      · rw [upd_ne (ne_of_none e hD)]
        exact s2 _ _ e
      · rw [upd_same, toldD_take hri]
    rintro H2 ⟨s2, hD2⟩
    rw [List.length_map, ← hAr, List.take_length] at hD2
    -- the line
    refine ⟨_, rfl, _, rfl, p, q, D, rowsOf AP, AR, BR, rfl, R.same s2, hD2, fun H3 z s3 nz hz => ?_⟩
    have s13 := s2.trans s3
    have R3 := R.same s13
    obtain ⟨dx, tn, tr, dw, dl, dp, h1, _⟩ := id R3.at_.ex
    refine ⟨_, rfl, z, _, rfl, .inl (.inl (.inl hz)), _, rfl, p, dx, _, _, rfl, h1, ⟨q, AR, BR, R3, rfl⟩, by omega, _, _, rfl, rfl, _, rfl, ?_⟩
    rw [List.length_map]
    refine ite2 (fun h => ?_) (fun h => ?_)
    · have h : (lineOf (rowsOf AP) (rnm (bOf BR))).length < (rnm (bOf BR)).length := by
        have := of_decide_eq_true h
        omega
      refine ⟨_, rfl, _, rfl, p, q, D, rowsOf AP, AR, BR, rfl, R3, s3 _ _ hD2, fun H4 v s4 ho => k H4 v (s13.trans s4) ?_⟩
      unfold LineUp
      rw [if_pos h]
      exact ho
    · have h : ¬ (lineOf (rowsOf AP) (rnm (bOf BR))).length < (rnm (bOf BR)).length := fun z => h (decide_eq_true (by omega))
      refine ⟨_, rfl, z, _, rfl, .inl (.inl hz), fun u o nu po => ?_⟩
      have s4 : Same H3 (upd H3 u (.frz o (.tup ((lineOf (rowsOf AP) (rnm (bOf BR))).map V.str)))) := same_upd nu
      have hu4 : FT (upd H3 u (.frz o (.tup ((lineOf (rowsOf AP) (rnm (bOf BR))).map V.str)))) u (lineOf (rowsOf AP) (rnm (bOf BR))) := ⟨o, po, upd_same⟩
      generalize upd H3 u (.frz o (.tup ((lineOf (rowsOf AP) (rnm (bOf BR))).map V.str))) = H4 at s4 hu4
      refine ⟨by show 2 ≤ sizeLine; decide, fun t nt => ?_⟩
      have s5 : Same H4 (upd H4 t (.tup [.str "line", .ref u])) := same_upd nt
      refine k _ _ ((s13.trans s4).trans s5) ?_
      unfold LineUp
      rw [if_neg h]
      exact ⟨t, u, rfl, upd_same, hu4.same s5⟩
end
end K0
end
section
set_option Elab.async false
set_option linter.all false
set_option maxRecDepth 100000
namespace K0
open PySem PySem.Spec PyProof.Rows L2
/-! ### a line, or three that go round -/
/-- the line told: no two ways about it -/
theorem lineOf_sub {A : List Row} : ∀ (k : Nat) (L : List Str), ∀ y ∈ goLine A k L, y ∈ L
  | 0, L => fun y h => by cases h
  | k + 1, L => fun y h => by
    simp only [goLine] at h
    cases e : firstFree A L with
    | none => rw [e] at h; cases h
    | some n =>
      rw [e] at h
      rcases List.mem_cons.mp h with z | z
      · rw [z]; exact ff_mem e
      · exact List.mem_of_mem_erase (lineOf_sub k _ y z)
theorem lineOf_nd {A : List Row} : ∀ (k : Nat) (L : List Str), L.Nodup → (goLine A k L).Nodup
  | 0, L, _ => List.nodup_nil
  | k + 1, L, hd => by
    simp only [goLine]
    cases e : firstFree A L with
    | none => exact List.nodup_nil
    | some n =>
      refine List.nodup_cons.mpr ⟨fun h => ?_, lineOf_nd k _ (hd.erase n)⟩
      have := lineOf_sub k _ n h
      exact (hd.mem_erase_iff.mp this).1 rfl
/-- none stands ahead of a free one -/
theorem ff_free {A : List Row} {L : List Str} {n : Str} (h : firstFree A L = some n) : ∀ x ∈ L, (x, n) ∉ A := fun x hx z => by
  have := List.find?_some h
  have hb : behind A L n = true := List.any_eq_true.mpr ⟨x, hx, decide_eq_true z⟩
  rw [hb] at this
  cases this
theorem lineOf_ord {A : List Row} : ∀ (k : Nat) (L : List Str), L.Nodup → ∀ (i : Nat) (y x : Str), (goLine A k L)[i]? = some y → x ∈ L → (x, y) ∈ A → x ∈ (goLine A k L).take i
  | 0, L, _ => fun i y x h => by simp [goLine] at h
  | k + 1, L, hd => fun i y x h hx ha => by
    simp only [goLine] at h ⊢
    cases e : firstFree A L with
    | none => rw [e] at h; simp at h
    | some n =>
      rw [e] at h
      cases i with
      | zero =>
        have : n = y := by simpa using h
        rw [← this] at ha
        exact absurd ha (ff_free e x hx)
      | succ i =>
        have h : (goLine A k (L.erase n))[i]? = some y := by simpa using h
        show x ∈ n :: (goLine A k (L.erase n)).take i
        by_cases q : x = n
        · rw [q]; exact List.mem_cons_self
        · exact List.mem_cons_of_mem _ (lineOf_ord k _ (hd.erase n) i y x h (hd.mem_erase_iff.mpr ⟨q, hx⟩) ha)
/-- where the line ends early, each one left over has one left over ahead of it -/
theorem lineOf_left {A : List Row} : ∀ (k : Nat) (L : List Str), L.Nodup → L.length ≤ k → (goLine A k L).length < L.length → ∃ S : List Str, S ≠ [] ∧ (∀ n ∈ S, n ∈ L) ∧ ∀ n ∈ S, ∃ o ∈ S, (o, n) ∈ A
  | 0, L, _, hk, h => by omega
  | k + 1, L, hd, hk, h => by
    simp only [goLine] at h
    cases e : firstFree A L with
    | none =>
      rw [e] at h
      refine ⟨L, fun z => ?_, fun n hn => hn, fun n hn => ?_⟩
      · rw [z] at h; exact absurd h (Nat.lt_irrefl _)
      · have := List.find?_eq_none.mp e n hn
        have hb : behind A L n = true := by
          cases q : behind A L n with
          | true => rfl
          | false => rw [q] at this; exact absurd rfl this
        obtain ⟨o, ho, z⟩ := List.any_eq_true.mp hb
        exact ⟨o, ho, of_decide_eq_true z⟩
    | some n =>
      rw [e] at h
      have hm := ff_mem e
      have hl : (L.erase n).length = L.length - 1 := List.length_erase_of_mem hm
      have hp := List.length_pos_of_mem hm
      have h : (goLine A k (L.erase n)).length + 1 < L.length := h
      obtain ⟨S, h1, h2, h3⟩ := lineOf_left k (L.erase n) (hd.erase n) (by rw [hl]; omega) (by rw [hl]; exact Nat.lt_sub_of_add_lt h)
      exact ⟨S, h1, fun m hm => List.mem_of_mem_erase (h2 m hm), h3⟩
/-! ### no three go round: no more than three either -/
section
variable {R : List Row} {B : List RRow} {A : List Row}
/-- a list that tells of each two that meet who goes ahead -/
structure Ahead (R : List Row) (B : List RRow) (A : List Row) : Prop where
  sub : ∀ a b, (a, b) ∈ A → a ∈ rnm B ∧ b ∈ rnm B ∧ a ≠ b ∧ meetB R B a b = true
  all : ∀ a b, a ∈ rnm B → b ∈ rnm B → a ≠ b → meetB R B a b = true → (a, b) ∈ A ∨ (b, a) ∈ A
  one : ∀ a b, (a, b) ∈ A → (b, a) ∉ A
def Rnd (R : List Row) (B : List RRow) (A : List Row) (w a b c : Str) : Prop := (a, b) ∈ A ∧ (b, c) ∈ A ∧ (c, a) ∈ A ∧ w ∈ wayN R B a ∧ w ∈ wayN R B b ∧ w ∈ wayN R B c
theorem later_has (g : GoodRows R) (b : RtOk R B) {d r : List Str} {n o : Str} (e : remR R B = d ++ n :: r) (ho : o ∈ r) (hm : meetB R B n o = true) : lastW (wayN R B n) ∈ wayN R B o := by
  have hp := rem_pw (R := R) (B := B)
  rw [e] at hp
  have h2 := (List.pairwise_cons.mp (List.pairwise_append.mp hp).2.1).1 o ho
  have hn : n ∈ rnm B := (rem_mem g b).mp (by rw [e]; exact List.mem_append_right _ List.mem_cons_self)
  have ho2 : o ∈ rnm B := (rem_mem g b).mp (by rw [e]; exact List.mem_append_right _ (List.mem_cons_of_mem _ ho))
  exact meet_rem g b hn ho2 h2 hm
theorem round_three (g : GoodRows R) (b : RtOk R B) (T : Ahead R B A) {S : List Str} (hS : S ≠ []) (hm : ∀ n ∈ S, n ∈ rnm B) (hc : ∀ n ∈ S, ∃ o ∈ S, (o, n) ∈ A) : ∃ w x y z, w ∈ nmsOf R ∧ Rnd R B A w x y z := by
  have key : ∀ (r d S : List Str), remR R B = d ++ r → S ≠ [] → (∀ n ∈ S, n ∈ r) → (∀ n ∈ S, ∃ o ∈ S, (o, n) ∈ A) → ∃ w x y z, w ∈ nmsOf R ∧ Rnd R B A w x y z := by
    intro r
    induction r with
    | nil =>
      intro d S _ h1 h2
      cases S with
      | nil => exact absurd rfl h1
      | cons n s => cases h2 n List.mem_cons_self
    | cons v r ih =>
      intro d S e h1 h2 h3
      have e2 : remR R B = (d ++ [v]) ++ r := by rw [e, List.append_assoc]; rfl
      have lt : ∀ n ∈ S, n ≠ v → n ∈ r := fun n hn q => (List.mem_cons.mp (h2 n hn)).resolve_left q
      by_cases hv : v ∈ S
      · obtain ⟨u, hu, huv⟩ := h3 v hv
        obtain ⟨_, hvn, huv2, hmu⟩ := T.sub u v huv
        by_cases hall : ∀ n ∈ S, n ≠ v → ∃ o ∈ S, o ≠ v ∧ (o, n) ∈ A
        · refine ih (d ++ [v]) (S.filter fun n => decide (n ≠ v)) e2 (fun z => ?_) (fun n hn => ?_) fun n hn => ?_
          · have : u ∈ S.filter fun n => decide (n ≠ v) := List.mem_filter.mpr ⟨hu, decide_eq_true huv2⟩
            rw [z] at this
            cases this
          · obtain ⟨a1, a2⟩ := List.mem_filter.mp hn
            exact lt n a1 (of_decide_eq_true a2)
          · obtain ⟨a1, a2⟩ := List.mem_filter.mp hn
            obtain ⟨o, o1, o2, o3⟩ := hall n a1 (of_decide_eq_true a2)
            exact ⟨o, List.mem_filter.mpr ⟨o1, decide_eq_true o2⟩, o3⟩
        · obtain ⟨n, hn⟩ := Classical.not_forall.mp hall
          obtain ⟨hnS, hn⟩ := Classical.not_imp.mp hn
          obtain ⟨hnv, hno⟩ := Classical.not_imp.mp hn
          have only : ∀ o ∈ S, (o, n) ∈ A → o = v := fun o ho ha => Classical.byContradiction fun q => hno ⟨o, ho, q, ha⟩
          obtain ⟨o, ho, hon⟩ := h3 n hnS
          have hov := only o ho hon
          subst hov
          obtain ⟨_, hnn, _, hmn⟩ := T.sub o n hon
          have hmu2 : meetB R B o u = true := by rw [meet_symm]; exact hmu
          have w1 := later_has g b e (lt u hu huv2) hmu2
          have w2 := later_has g b e (lt n hnS hnv) hmn
          have hun : u ≠ n := fun z => by
            rw [z] at huv
            exact T.one n o huv hon
          have hmm : meetB R B u n = true := List.any_eq_true.mpr ⟨_, w1, decide_eq_true w2⟩
          have hnu : (n, u) ∈ A := (T.all u n (T.sub u o huv).1 hnn hun hmm).resolve_left fun z => huv2 (only u hu z)
          obtain ⟨l1, l2⟩ := last_in g b hvn
          exact ⟨_, u, o, n, l2, huv, hon, hnu, w1, l1, w2⟩
      · exact ih (d ++ [v]) S e2 h1 (fun n hn => lt n hn fun z => hv (z ▸ hn)) h3
  exact key (remR R B) [] S rfl hS (fun n hn => (rem_mem g b).mpr (hm n hn)) hc
end
/-! ### what ring1 finds -/
theorem turnT_some {A : List Row} {a b c : Str} {t : Tri} (h : turnT A a b c = some t) : (t.1, t.2.1) ∈ A ∧ (t.2.1, t.2.2) ∈ A ∧ (t.2.2, t.1) ∈ A ∧ (∀ x, x = t.1 ∨ x = t.2.1 ∨ x = t.2.2 → x = a ∨ x = b ∨ x = c) := by
  unfold turnT at h
  split at h
  · cases h
    rename_i q
    exact ⟨q.1, q.2.1, q.2.2, fun x z => z⟩
  · split at h
    · cases h
      rename_i q
      exact ⟨q.1, q.2.1, q.2.2, fun x z => z.elim .inl fun z => z.elim (fun z => .inr (.inr z)) fun z => .inr (.inl z)⟩
    · cases h
theorem ring2_some {A : List Row} {a : Str} {t : Tri} : ∀ {l : List Str}, ring2 A a l = some t → ∃ b c, b ∈ l ∧ c ∈ l ∧ turnT A a b c = some t
  | [], h => by cases h
  | b :: cs, h => by
    have h : (cs.findSome? (turnT A a b)).or (ring2 A a cs) = some t := h
    cases e : cs.findSome? (turnT A a b) with
    | some t' =>
      rw [e] at h
      cases h
      obtain ⟨c, hc, q⟩ := List.exists_of_findSome?_eq_some e
      exact ⟨b, c, List.mem_cons_self, List.mem_cons_of_mem _ hc, q⟩
    | none =>
      rw [e] at h
      obtain ⟨x, y, hx, hy, q⟩ := ring2_some (l := cs) h
      exact ⟨x, y, List.mem_cons_of_mem _ hx, List.mem_cons_of_mem _ hy, q⟩
theorem ring1_some {A : List Row} {t : Tri} : ∀ {l : List Str}, ring1 A l = some t → ∃ a b c, a ∈ l ∧ b ∈ l ∧ c ∈ l ∧ turnT A a b c = some t
  | [], h => by cases h
  | a :: bs, h => by
    have h : (ring2 A a bs).or (ring1 A bs) = some t := h
    cases e : ring2 A a bs with
    | some t' =>
      rw [e] at h
      cases h
      obtain ⟨b, c, hb, hc, q⟩ := ring2_some e
      exact ⟨a, b, c, List.mem_cons_self, List.mem_cons_of_mem _ hb, List.mem_cons_of_mem _ hc, q⟩
    | none =>
      rw [e] at h
      obtain ⟨x, y, z, hx, hy, hz, q⟩ := ring1_some (l := bs) h
      exact ⟨x, y, z, List.mem_cons_of_mem _ hx, List.mem_cons_of_mem _ hy, List.mem_cons_of_mem _ hz, q⟩
end K0
end
section
set_option Elab.async false
set_option linter.all false
set_option maxRecDepth 100000
namespace K0
open PySem PySem.Spec PyProof.Rows L2
theorem or_ne {α : Type} {a b : Option α} (h : a ≠ none ∨ b ≠ none) : a.or b ≠ none := by
  cases a with
  | some x => exact fun z => by cases z
  | none =>
    rcases h with h | h
    · exact absurd rfl h
    · exact h
theorem find_ne {α β : Type} {f : α → Option β} : ∀ {l : List α} {x : α}, x ∈ l → f x ≠ none → l.findSome? f ≠ none
  | a :: l, x, h, hf => by
    rw [List.findSome?_cons]
    cases e : f a with
    | some y => exact fun z => by cases z
    | none =>
      rcases List.mem_cons.mp h with z | z
      · rw [z] at hf; exact absurd e hf
      · exact find_ne z hf
theorem turn_ne {A : List Row} {a y z : Str} (h1 : (a, y) ∈ A) (h2 : (y, z) ∈ A) (h3 : (z, a) ∈ A) : turnT A a y z ≠ none ∧ turnT A a z y ≠ none := by
  refine ⟨?_, ?_⟩
  · unfold turnT
    rw [if_pos ⟨h1, h2, h3⟩]
    exact fun z => by cases z
  · unfold turnT
    split
    · exact fun z => by cases z
    · rw [if_pos ⟨h1, h2, h3⟩]
      exact fun z => by cases z
theorem ring2_ne {A : List Row} {a y z : Str} (h1 : (a, y) ∈ A) (h2 : (y, z) ∈ A) (h3 : (z, a) ∈ A) (hyz : y ≠ z) : ∀ {l : List Str}, y ∈ l → z ∈ l → ring2 A a l ≠ none
  | b :: cs, hy, hz => by
    obtain ⟨t1, t2⟩ := turn_ne h1 h2 h3
    show (cs.findSome? (turnT A a b)).or (ring2 A a cs) ≠ none
    rcases List.mem_cons.mp hy with e | hy
    · subst e
      exact or_ne (.inl (find_ne ((List.mem_cons.mp hz).resolve_left fun q => hyz q.symm) t1))
    ·
      rcases List.mem_cons.mp hz with e | hz2
      · rw [← e]
        exact or_ne (.inl (find_ne hy t2))
      · exact or_ne (.inr (ring2_ne h1 h2 h3 hyz hy hz2))
theorem ring1_ne {A : List Row} {x y z : Str} (h1 : (x, y) ∈ A) (h2 : (y, z) ∈ A) (h3 : (z, x) ∈ A) (hxy : x ≠ y) (hyz : y ≠ z) (hzx : z ≠ x) : ∀ {l : List Str}, x ∈ l → y ∈ l → z ∈ l → ring1 A l ≠ none
  | a :: bs, hx, hy, hz => by
    show (ring2 A a bs).or (ring1 A bs) ≠ none
    by_cases ex : x = a
    · subst ex
      exact or_ne (.inl (ring2_ne h1 h2 h3 hyz ((List.mem_cons.mp hy).resolve_left fun q => hxy q.symm) ((List.mem_cons.mp hz).resolve_left hzx)))
    · by_cases ey : y = a
      · subst ey
        exact or_ne (.inl (ring2_ne h2 h3 h1 hzx ((List.mem_cons.mp hz).resolve_left fun q => hyz q.symm) ((List.mem_cons.mp hx).resolve_left hxy)))
      · by_cases ez : z = a
        · subst ez
          exact or_ne (.inl (ring2_ne h3 h1 h2 hxy ((List.mem_cons.mp hx).resolve_left fun q => hzx q.symm) ((List.mem_cons.mp hy).resolve_left hyz)))
        · exact or_ne (.inr (ring1_ne h1 h2 h3 hxy hyz hzx ((List.mem_cons.mp hx).resolve_left ex) ((List.mem_cons.mp hy).resolve_left ey) ((List.mem_cons.mp hz).resolve_left ez)))
theorem nodup_le {α : Type} [DecidableEq α] : ∀ {l L : List α}, l.Nodup → (∀ x ∈ l, x ∈ L) → l.length ≤ L.length
  | [], _, _, _ => Nat.zero_le _
  | a :: t, L, hd, hs => by
    obtain ⟨h1, h2⟩ := List.nodup_cons.mp hd
    have ha := hs a List.mem_cons_self
    have hl : (L.erase a).length = L.length - 1 := List.length_erase_of_mem ha
    have hp := List.length_pos_of_mem ha
    have ih := nodup_le (l := t) (L := L.erase a) h2 fun x hx => (List.mem_erase_of_ne fun z => by rw [z] at hx; exact h1 hx).mpr (hs x (List.mem_cons_of_mem _ hx))
    rw [hl] at ih
    show t.length + 1 ≤ L.length
    omega
theorem all_in {α : Type} [DecidableEq α] {l L : List α} (hd : l.Nodup) (hs : ∀ x ∈ l, x ∈ L) (hl : L.length ≤ l.length) : ∀ x ∈ L, x ∈ l := fun x hx => Classical.byContradiction fun h => by
  have := nodup_le (l := x :: l) (L := L) (List.nodup_cons.mpr ⟨h, hd⟩) fun y hy => (List.mem_cons.mp hy).elim (fun z => z ▸ hx) (hs y)
  rw [List.length_cons] at this
  omega
section
variable {R : List Row} {B : List RRow} {A : List Row}
theorem mem_pass {w n : Str} (hn : n ∈ rnm B) (hw : w ∈ wayN R B n) : n ∈ passR R B w := List.mem_filter.mpr ⟨hn, decide_eq_true hw⟩
theorem line_short (g : GoodRows R) (b : RtOk R B) (T : Ahead R B A) : (lineOf A (rnm B)).length < (rnm B).length ↔ firstRing A R B (nmsOf R) ≠ none := by
  constructor
  · intro h
    obtain ⟨S, s1, s2, s3⟩ := lineOf_left _ (rnm B) b.nd (Nat.le_refl _) h
    obtain ⟨w, x, y, z, hw, r1, r2, r3, w1, w2, w3⟩ := round_three g b T s1 s2 s3
    obtain ⟨x1, y1, xy, _⟩ := T.sub _ _ r1
    obtain ⟨_, z1, yz, _⟩ := T.sub _ _ r2
    obtain ⟨_, _, zx, _⟩ := T.sub _ _ r3
    refine find_ne hw ?_
    cases e : ring1 A (passR R B w) with
    | none => exact absurd e (ring1_ne r1 r2 r3 xy yz zx (mem_pass x1 w1) (mem_pass y1 w2) (mem_pass z1 w3))
    | some t => exact fun q => by cases q
  · intro h
    cases e : firstRing A R B (nmsOf R) with
    | none => exact absurd e h
    | some wt =>
      obtain ⟨w, hw, e2⟩ := List.exists_of_findSome?_eq_some e
      cases e3 : ring1 A (passR R B w) with
      | none => rw [e3] at e2; cases e2
      | some t =>
        obtain ⟨_, _, _, _, _, _, e4⟩ := ring1_some e3
        obtain ⟨a1, a2, a3, _⟩ := turnT_some e4
        refine Nat.lt_of_not_le fun hc => ?_
        have hnd := lineOf_nd (A := A) (rnm B).length (rnm B) b.nd
        have hsub := lineOf_sub (A := A) (rnm B).length (rnm B)
        have all : ∀ x ∈ rnm B, x ∈ goLine A (rnm B).length (rnm B) := all_in hnd hsub hc
        have ord : ∀ {x y : Str}, (x, y) ∈ A → (goLine A (rnm B).length (rnm B)).idxOf x < (goLine A (rnm B).length (rnm B)).idxOf y := fun {x y} ha => by
          obtain ⟨hx, hy, _⟩ := T.sub _ _ ha
          have hyl := all y hy
          have hi : (goLine A (rnm B).length (rnm B))[(goLine A (rnm B).length (rnm B)).idxOf y]? = some y := by
            rw [List.getElem?_eq_getElem (List.idxOf_lt_length_of_mem hyl), List.getElem_idxOf]
          have := lineOf_ord _ _ b.nd _ y x hi hx ha
          obtain ⟨j, hj, e⟩ := List.mem_iff_getElem.mp this
          rw [List.getElem_take] at e
          have hj1 : j < (goLine A (rnm B).length (rnm B)).idxOf y := Nat.lt_of_lt_of_le hj (List.length_take_le _ _)
          have hjl : j < (goLine A (rnm B).length (rnm B)).length := Nat.lt_of_lt_of_le hj (List.length_take_le' _ _)
          rw [← e, hnd.idxOf_getElem j hjl]
          exact hj1
        have o1 := ord a1
        have o2 := ord a2
        have o3 := ord a3
        omega
end
end K0
end
section
set_option Elab.async false
set_option linter.all false
set_option maxRecDepth 100000
namespace K0
open PySem PySem.Spec PyProof.Rows L2
/-! ### rights as data; the dict of ways -/
theorem ref_not_str {H : Hp} {G b : Addr} {as : List Addr} {h : List Str} {m : Nat} {c : Addr} (hm : as[m]? = some c) (x1 : H G = some (.lst (as.map V.ref))) (e3 : H b = some (.lst (h.map V.str))) : b ≠ G := fun z => by
  rw [z, x1] at e3
  have e4 : as.map V.ref = h.map V.str := by
    injection e3 with q
    injection q
  have e5 := congrArg (fun l : List V => l[m]?) e4
  simp only [List.getElem?_map, hm] at e5
  cases e6 : h[m]? with
  | none =>
    rw [e6] at e5
    cases e5
  | some z =>
    rw [e6] at e5
    cases e5
section
variable {K : PySem.W.Frag}
def rrD (r : RRow) : PyData := .tuple [.str r.1, .str r.2.1, .str r.2.2]
theorem eqv_rr : ∀ a : List RRow, PyData.eqvAll (a.map rrD) (a.map rrD) = true
  | [] => by simp only [List.map_nil, PyData.eqvAll]
  | r :: a => by simp only [List.map_cons, PyData.eqvAll, rrD, PyData.eqv, beq_self_eq_true, eqv_rr a, Bool.and_self]
theorem canLay_rr : ∀ {a : List RRow}, (∀ r ∈ a, Plain r.1 ∧ Plain r.2.1 ∧ Plain r.2.2) → PyData.canLayAll0 (a.map rrD) = true
  | [], _ => by simp only [List.map_nil, PyData.canLayAll0]
  | r :: a, h => by
    have ih := canLay_rr fun z hz => h z (List.mem_cons_of_mem _ hz)
    obtain ⟨h1, h2, h3⟩ := h r List.mem_cons_self
    simp only [List.map_cons, PyData.canLayAll0, ih, rrD, PyData.canLay0, plain_ok h1, plain_ok h2, plain_ok h3]
    rfl
theorem depth_rr : ∀ a : List RRow, PyData.depthAll (a.map rrD) ≤ 1
  | [] => by simp only [List.map_nil, PyData.depthAll]; omega
  | r :: a => by
    have ih := depth_rr a
    simp only [List.map_cons, PyData.depthAll, rrD, PyData.depth]
    omega
theorem dp_rr {H : Hp} : ∀ {BR : List (Addr × RRow)}, (∀ q ∈ BR, H q.1 = some (.tup [.str q.2.1, .str q.2.2.1, .str q.2.2.2])) → DpAll K H (BR.map fun q => V.ref q.1) ((bOf BR).map rrD)
  | [], _ => .nil
  | (a, r) :: BR, h => .cons (.tup (.inl (.inl (h (a, r) List.mem_cons_self))) (.cons (.str r.1) (.cons (.str r.2.1) (.cons (.str r.2.2) .nil)))) (dp_rr fun q hq => h q (List.mem_cons_of_mem _ hq))
theorem shaped_rr {B : List RRow} (h : ∀ r ∈ B, Plain r.1 ∧ Plain r.2.1 ∧ Plain r.2.2) : SeqAt.shaped (.list (B.map rrD)) = true := by
  have h2 := depth_rr B
  have h3 : PyData.depthAll (B.map rrD) + 1 ≤ 64 := by omega
  unfold SeqAt.shaped
  simp only [PyData.canLay0, PyData.depth, canLay_rr h, h3]
  rfl
theorem rr_plain {R : List Row} {B : List RRow} (g : GoodRows R) (b : RtOk R B) : ∀ r ∈ B, Plain r.1 ∧ Plain r.2.1 ∧ Plain r.2.2 := fun r hr => by
  refine ⟨name_plain (b.ok r hr), plain_name g (b.inn r hr), ?_⟩
  rcases b.last r hr with e | e
  · rw [e]
    exact sea_plain
  · exact plain_name g (course_sub g (b.inn r hr) _ e)
theorem merge_kmap {f : Str → V} : ∀ {ms ns : List Str}, (ns ++ ms).Nodup → mergeK (kmap f ns) (kmap f ms) = kmap f (ns ++ ms)
  | [], ns, _ => by
    show kmap f ns = kmap f (ns ++ [])
    rw [List.append_nil]
  | m :: ms, ns, hd => by
    have hn : m ∉ ns := fun z => (List.nodup_append.mp hd).2.2 m z m List.mem_cons_self rfl
    have hd2 : ((ns ++ [m]) ++ ms).Nodup := by
      rw [List.append_assoc]
      exact hd
    have ih := merge_kmap (f := f) hd2
    have e1 := kmap_put (f := f) hn
    show mergeK (putK (kmap f ns) (Sum.inr m) (f m)) (kmap f ms) = _
    rw [e1, ih, List.append_assoc]
    rfl
/-- pairs of a name and a list, laid so far -/
structure PairW (H : Hp) (D : Addr) (ns : List Str) (g : Str → List Str) : Prop where
  ex : ∃ AP : List (Addr × Addr), H D = some (.lst (AP.map fun q => V.ref q.1)) ∧ AP.length = ns.length ∧ ∀ (k : Nat) (q : Addr × Addr) (n : Str), AP[k]? = some q → ns[k]? = some n → H q.1 = some (.tup [.str n, .ref q.2]) ∧ H q.2 = some (.lst ((g n).map V.str))
theorem pair_all {H : Hp} {f : Str → V} : ∀ {AP : List (Addr × Addr)} {ns : List Str}, AP.length = ns.length → (∀ (k : Nat) (q : Addr × Addr) (n : Str), AP[k]? = some q → ns[k]? = some n → H q.1 = some (.tup [.str n, f n])) → Paired (fun p (kv : Key × V) => SqT K H p [kV kv.1, kv.2]) (AP.map (·.1)) (kmap f ns)
  | [], [], _, _ => .nil
  | [], _ :: _, e, _ => by cases e
  | _ :: _, [], e, _ => by cases e
  | q :: AP, n :: ns, e, h => .cons (.inl (.inl (h 0 q n rfl rfl))) (pair_all (Nat.succ.inj e) fun k q n h1 h2 => h (k + 1) q n h1 h2)
theorem PairW.dict {H : Hp} {D : Addr} {ns : List Str} {g : Str → List Str} (h : PairW H D ns g) (hd : ns.Nodup) :
    ∃ (ps : List Addr) (ta : Str → Addr), H D = some (.lst (ps.map V.ref)) ∧ Paired (fun p (kv : Key × V) => SqT K H p [kV kv.1, kv.2]) ps (kmap (fun y => .ref (ta y)) ns) ∧ ∀ y ∈ ns, H (ta y) = some (.lst ((g y).map V.str)) := by
  obtain ⟨AP, h1, h2, h3⟩ := h.ex
  have hta : ∀ (k : Nat) (q : Addr × Addr) (n : Str), AP[k]? = some q → ns[k]? = some n → ((AP[ns.idxOf n]?).map (·.2)).getD 0 = q.2 := fun k q n e1 e2 => by
    have hk := (List.getElem?_eq_some_iff.mp e2)
    obtain ⟨hk, e3⟩ := hk
    have e4 : ns.idxOf n = k := by
      rw [← e3]
      exact hd.idxOf_getElem k hk
    rw [e4, e1]
    rfl
  refine ⟨AP.map (·.1), fun n => ((AP[ns.idxOf n]?).map (·.2)).getD 0, by rw [List.map_map]; exact h1, pair_all h2 fun k q n e1 e2 => ?_, fun y hy => ?_⟩
  · have := (h3 k q n e1 e2).1
    rw [this]
    simp only [hta k q n e1 e2]
  · obtain ⟨k, hk⟩ := List.getElem?_of_mem hy
    have hkl := (List.getElem?_eq_some_iff.mp hk).1
    have e1 : AP[k]? = some AP[k] := List.getElem?_eq_getElem (by omega)
    simp only [hta k _ y e1 hk]
    exact (h3 k _ y e1 hk).2
theorem PairW.more {H H' : Hp} {C t c : Addr} {ns : List Str} {g : Str → List Str} {n : Str} (h : PairW H C ns g) (s : Same H H') (hc0 : H c = none) (hc : H' c = some (.lst ((g n).map V.str))) (nt : H' t = none) :
    ∃ acc, (upd H' t (.tup [.str n, .ref c])) C = some (.lst acc) ∧ acc.length = ns.length ∧ PairW (upd (upd H' t (.tup [.str n, .ref c])) C (.lst (acc ++ [.ref t]))) C (ns ++ [n]) g := by
  obtain ⟨AP, h1, h2, h3⟩ := h.ex
  have hC := s _ _ h1
  have nCt : C ≠ t := ne_of_none hC nt
  have ncC : c ≠ C := fun e => by
    rw [e, h1] at hc0
    cases hc0
  have nct : c ≠ t := ne_of_none hc nt
  refine ⟨_, by rw [upd_ne nCt]; exact hC, by rw [List.length_map]; exact h2, AP ++ [(t, c)], by rw [upd_same, List.map_append]; rfl, by rw [List.length_append, List.length_append, h2]; rfl, fun k q m e1 e2 => ?_⟩
  rcases Nat.lt_or_ge k AP.length with hl | hl
  · rw [List.getElem?_append_left hl] at e1
    rw [List.getElem?_append_left (by omega)] at e2
    obtain ⟨h4, h5⟩ := h3 k q m e1 e2
    have h6 := s _ _ h4
    have h7 := s _ _ h5
    refine ⟨?_, ?_⟩
    · rw [upd_ne (ne_of h6 hC (fun z => by cases z)), upd_ne (ne_of_none h6 nt)]
      exact h6
    · have hm : (AP.map (·.1))[k]? = some q.1 := by rw [List.getElem?_map, e1]; rfl
      have hC2 : H' C = some (.lst ((AP.map (·.1)).map V.ref)) := by
        rw [List.map_map]
        exact hC
      rw [upd_ne (ref_not_str hm hC2 h7), upd_ne (ne_of_none h7 nt)]
      exact h7
  · rw [List.getElem?_append_right hl] at e1
    rw [List.getElem?_append_right (by omega)] at e2
    have e3 : k - AP.length = 0 := by
      have := (List.getElem?_eq_some_iff.mp e1).1
      rw [List.length_singleton] at this
      omega
    have e4 : k - ns.length = 0 := by omega
    rw [e3] at e1
    rw [e4] at e2
    obtain rfl : (t, c) = q := Option.some.inj e1
    obtain rfl : n = m := Option.some.inj e2
    refine ⟨?_, ?_⟩
    · show (upd (upd H' t (.tup [.str n, .ref c])) C _) t = _
      rw [upd_ne nCt.symm, upd_same]
    · show (upd (upd H' t (.tup [.str n, .ref c])) C _) c = _
      rw [upd_ne ncC, upd_ne nct]
      exact hc
end
end K0
end
section
set_option Elab.async false
set_option linter.all false
set_option maxRecDepth 100000
namespace K0
open PySem PySem.Spec PyProof.Rows L2
/-! ### rows and names as data -/
section
variable {K : PySem.W.Frag}
def rowD (r : Row) : PyData := .tuple [.str r.1, .str r.2]
theorem eqv_rows : ∀ a : List Row, PyData.eqvAll (a.map rowD) (a.map rowD) = true
  | [] => by simp only [List.map_nil, PyData.eqvAll]
  | r :: a => by simp only [List.map_cons, PyData.eqvAll, rowD, PyData.eqv, beq_self_eq_true, eqv_rows a, Bool.and_self]
theorem canLay_rows : ∀ {a : List Row}, (∀ r ∈ a, Plain r.1 ∧ Plain r.2) → PyData.canLayAll0 (a.map rowD) = true
  | [], _ => by simp only [List.map_nil, PyData.canLayAll0]
  | r :: a, h => by
    have ih := canLay_rows fun z hz => h z (List.mem_cons_of_mem _ hz)
    obtain ⟨h1, h2⟩ := h r List.mem_cons_self
    simp only [List.map_cons, PyData.canLayAll0, ih, rowD, PyData.canLay0, plain_ok h1, plain_ok h2]
    rfl
theorem depth_rows : ∀ a : List Row, PyData.depthAll (a.map rowD) ≤ 1
  | [] => by simp only [List.map_nil, PyData.depthAll]; omega
  | r :: a => by
    have ih := depth_rows a
    simp only [List.map_cons, PyData.depthAll, rowD, PyData.depth]
    omega
theorem good_plain {R : List Row} (h : GoodRows R) : ∀ r ∈ R, Plain r.1 ∧ Plain r.2 := fun r hr => by
  have hk := h.row hr
  exact ⟨name_plain hk.a, name_plain hk.b⟩
theorem dp_rows {H : Hp} : ∀ {AR : List (Addr × Row)}, (∀ q ∈ AR, H q.1 = some (.tup [.str q.2.1, .str q.2.2])) → DpAll K H (AR.map fun q => V.ref q.1) ((rowsOf AR).map rowD)
  | [], _ => .nil
  | (a, r) :: AR, h => .cons (.tup (.inl (.inl (h (a, r) List.mem_cons_self))) (.cons (.str r.1) (.cons (.str r.2) .nil))) (dp_rows fun q hq => h q (List.mem_cons_of_mem _ hq))
theorem shaped_rows {R : List Row} (h : ∀ r ∈ R, Plain r.1 ∧ Plain r.2) : SeqAt.shaped (.list (R.map rowD)) = true := by
  have h2 := depth_rows R
  have h3 : PyData.depthAll (R.map rowD) + 1 ≤ 64 := by omega
  unfold SeqAt.shaped
  simp only [PyData.canLay0, PyData.depth, canLay_rows h, h3]
  rfl
end
theorem rising_pw : ∀ (p : Str) (l : List Str), risingS p l = true → (p :: l).Pairwise fun a b => a.cps.toList ≤ b.cps.toList
  | p, [], _ => List.pairwise_singleton _ _
  | p, x :: r, h => by
    have h0 : (!ltCps x.cps.toList p.cps.toList && risingS x r) = true := h
    obtain ⟨h1, h2⟩ := Bool.and_eq_true_iff.mp h0
    have ih := rising_pw x r h2
    have hpx : p.cps.toList ≤ x.cps.toList := by
      rw [ltCps_eq] at h1
      have : ¬ (x.cps.toList < p.cps.toList) := by simpa using h1
      exact this
    refine List.pairwise_cons.mpr ⟨fun y hy => ?_, ih⟩
    rcases List.mem_cons.mp hy with e | e
    · rw [e]
      exact hpx
    · exact List.le_trans hpx ((List.pairwise_cons.mp ih).1 y e)
theorem sorted_pw {l : List Str} (h : sortedS l = true) : l.Pairwise fun a b => a.cps.toList ≤ b.cps.toList := by
  cases l with
  | nil => exact List.Pairwise.nil
  | cons x r => exact rising_pw x r h
theorem sorted_eq {a b : List Str} (ha : sortedS a = true) (hb : sortedS b = true) (hp : a.Perm b) : a = b :=
  List.Perm.eq_of_pairwise (le := fun a b => a.cps.toList ≤ b.cps.toList) (fun x y _ _ h1 h2 => str_ext (List.le_antisymm h1 h2)) (sorted_pw ha) (sorted_pw hb) hp
theorem eqv_strsD : ∀ a b : List Str, PyData.eqvAll (a.map PyData.str) (b.map PyData.str) = decide (a = b)
  | [], [] => by simp only [List.map_nil, PyData.eqvAll]; rfl
  | [], _ :: _ => by simp only [List.map_nil, List.map_cons, PyData.eqvAll]; rfl
  | _ :: _, [] => by simp only [List.map_nil, List.map_cons, PyData.eqvAll]; rfl
  | x :: a, y :: b => by
    have ih := eqv_strsD a b
    simp only [List.map_cons, PyData.eqvAll, PyData.eqv]
    rw [Bool.eq_iff_iff]
    have ih2 : PyData.eqvAll (a.map PyData.str) (b.map PyData.str) = true ↔ a = b := by rw [ih]; simp
    simp only [Bool.and_eq_true, beq_iff_eq, decide_eq_true_eq, List.cons.injEq, ih2]
end K0
end
section
set_option Elab.async false
set_option linter.all false
set_option maxRecDepth 100000
namespace K0
open PySem PySem.Spec PyProof.Rows L2
structure WaysL (H : Hp) (d : Addr) (ns : List Str) (g : Str → List Str) : Prop where
  ex : ∃ ta : Str → Addr, H d = some (.dK (kmap (fun y => .ref (ta y)) ns)) ∧ ∀ y ∈ ns, H (ta y) = some (.lst ((g y).map V.str))
theorem WaysL.same {H H' : Hp} {d : Addr} {ns : List Str} {g : Str → List Str} (t : WaysL H d ns g) (s : Same H H') : WaysL H' d ns g := by
  obtain ⟨ta, q1, q2⟩ := t.ex
  exact ⟨ta, s _ _ q1, fun x hx => s _ _ (q2 x hx)⟩
end K0
end
section
set_option Elab.async false
set_option linter.all false
set_option maxRecDepth 100000
namespace ST
open PySem PySem.Spec PyProof.Rows
/-! ### len(set(t)) of a tuple of texts, any of them -/
/-- how many unlike ones, as far as it is asked -/
structure Cnt (l : List Str) (c : Nat) : Prop where
  le : c ≤ l.length
  eq : c = l.length ↔ l.Nodup
theorem Cnt.nil : Cnt [] 0 := ⟨Nat.le_refl _, ⟨fun _ => List.nodup_nil, fun _ => rfl⟩⟩
theorem Cnt.snoc {l : List Str} {c : Nat} (k : Cnt l c) (z : Str) : Cnt (l ++ [z]) (if decide (z ∈ l) = true then c else c + 1) := by
  have hl := k.le
  have he := k.eq
  have e : (l ++ [z]).length = l.length + 1 := by rw [List.length_append]; rfl
  have hn : (l ++ [z]).Nodup ↔ l.Nodup ∧ z ∉ l := by
    rw [List.nodup_append]
    constructor
    · exact fun ⟨a, _, b⟩ => ⟨a, fun q => b z q z (List.mem_singleton.mpr rfl) rfl⟩
    · exact fun ⟨a, b⟩ => ⟨a, by simp, fun x hx y hy q => b (by rw [← List.mem_singleton.mp hy, ← q]; exact hx)⟩
  by_cases q : z ∈ l
  · rw [if_pos (decide_eq_true q)]
    refine ⟨by omega, ⟨fun h => by omega, fun h => absurd q (hn.mp h).2⟩⟩
  · rw [if_neg (by rw [decide_eq_false q]; exact Bool.false_ne_true)]
    refine ⟨by omega, ⟨fun h => hn.mpr ⟨he.mp (by omega), q⟩, fun h => ?_⟩⟩
    have := he.mpr (hn.mp h).1
    omega
section
variable {P : Program} {w : World} {A : Around} {E : Value → Shared → Prop}
/-- the set at a holds the texts of l -/
abbrev Has (P : Program) (w : World) (g : Heap) (a : Addr) (l : List Str) (c : Nat) : Prop := g.SetOf (PySem.strKind P w) a (fun y => decide (y ∈ l)) c
theorem Has.at {g g' : Heap} {a : Addr} {l : List Str} {c : Nat} (h : Has P w g a l c) (k : ∀ o, g.get? a = some o → g'.get? a = some o) : Has P w g' a l c := by
  obtain ⟨o, es, ep, t, e, r⟩ := h
  exact ⟨o, es, ep, t, k o e, r⟩
theorem fill {it a : Addr} {fp wr : List Addr} {G : Array GenState → Array GenState → Prop} {Pv : Nat → Value → Prop} {St : Nat → Shared → Prop} {R : Result → Shared → Prop} (ys : List Str) (W : WalksS P w A.in1 it fp wr G ys.length Pv St) (hf : a ∉ fp)
    (hz : ys.length + 1 < scanBound) (hv : ∀ i v, Pv i v → ∃ y t, ys[i]? = some y ∧ v = .str y t) :
    ∀ (k i : Nat) (s0 s : Shared), i + k = ys.length → St i s → Moved (a :: wr) G s0 s → (∃ c, Has P w s.heap a (ys.take i) c ∧ Cnt (ys.take i) c) →
      (∀ s' c, Has P w s'.heap a ys c → Cnt ys c → Moved (a :: wr) G s0 s' → R (.ok (.ret .none)) s') → codeAny (model P w) A (.builtin "set.update.loop" ⟨[.ref a, .ref it], []⟩) R s := by
  have hw : a ∉ wr := fun z => hf (W.sub _ z)
  have up : ∀ b ∈ wr, b ∈ a :: wr := fun b z => List.mem_cons_of_mem _ z
  intro k
  induction k with
  | zero =>
    intro i s0 s hk st mv ⟨c, hc, kc⟩ R1
    obtain rfl : i = ys.length := by omega
    rw [List.take_length] at hc kc
    refine codeAny_builtin F.entry_set_update_loop ?_
    rw [Around.under_plainId F.plain_set_update_loop _]
    show wpAny _ A.in1 (pyNext (.ref it) >>= _) _ _ s
    exact wpAny_bind (W.done s _ _ st fun s2 m2 => wpAny_pure (R1 s2 c (hc.at fun o e => m2.heap a o hw e) kc (mv.trans W.gtrans (m2.mono up))))
  | succ k ih =>
    intro i s0 s hk st mv ⟨c, hc, kc⟩ R1
    have hi : i < ys.length := by omega
    refine codeAny_builtin F.entry_set_update_loop ?_
    rw [Around.under_plainId F.plain_set_update_loop _]
    show wpAny _ A.in1 (pyNext (.ref it) >>= _) _ _ s
    refine wpAny_bind (W.item i s _ _ hi st fun v s2 pv st2 m2 => ?_)
    obtain ⟨y, t, hy, rfl⟩ := hv i v pv
    have hc2 := hc.at (g' := s2.heap) fun o e => m2.heap a o hw e
    show wpAny _ A.in1 (holding [Value.str y t] (setAdd a (.str y t)) >>= _) _ _ s2
    have hcl := kc.le
    rw [List.length_take] at hcl
    unfold setAdd
    refine wpAny_bind (wpAny_holding (wpAny_holding (wpAny_bind ((PySem.strKind P w).pyHash (k := y) (strKind_is _ _ _ _) ?_))))
    refine wpAny_setAddHashed_of (knd := PySem.strKind P w) (s := { s2 with toks := s2.toks + 1 }) (strKind_is _ _ _ _) rfl hc2 (by omega) fun g sb h3 => ?_
    have et : ys.take (i + 1) = ys.take i ++ [y] := by rw [List.take_add_one, hy]; rfl
    have h4 : Has P w g a (ys.take (i + 1)) (if decide (y ∈ ys.take i) = true then c else c + 1) := SetOf_congr h3 (fun x => by rw [et]; simp [List.mem_append]) rfl
    have k4 := kc.snoc y
    rw [← et] at k4
    refine wpAny_pure ⟨plainId_quiet F.plain_set_update_loop _, ih (i + 1) s0 _ (by omega) (W.frame _ s2 _ _ st2 (Nat.le_succ _) fun b hb o e => ?_) ?_ ⟨_, h4, k4⟩ R1⟩
    · rw [sb.2 b fun z => hf (z ▸ hb)]
      exact e
    · refine (mv.trans W.gtrans (m2.mono up)).then_heap (Nat.le_succ _) fun b o hb e => ?_
      rw [sb.2 b fun z => hb (z ▸ List.mem_cons_self)]
      exact e
set_option maxHeartbeats 3200000 in
/-- set(t) -/
theorem made {s : Shared} {tp : Addr} {vs : Array Value} {ys : List Str} {Q : Value → Shared → Prop} (hA : A.handled = none) (ht : s.heap.IsTuple tp vs) (hs : StrsAre vs.toList ys) (hz : ys.length + 1 < scanBound)
    (h : ∀ g tk c, Has P w g s.heap.objs.size ys c → Cnt ys c → (∀ b o, s.heap.get? b = some o → g.get? b = some o) → Q (.ref s.heap.objs.size) { s with heap := g, toks := tk }) : wpAny (model P w) A (call (.type "set") [.ref tp]) Q E s := by
  have en : vs.size = ys.length := by
    have := StrsAre.len_eq hs
    rw [Array.length_toList] at this
    exact this
  obtain ⟨c0, tl0, mro0⟩ := PySem.F.called_set.mro
  have f1 := PySem.F.called_set.made
  have f2 := PySem.F.called_set.sub
  refine wpAny_call (codeAny_of_tree (show wpAny _ _ (callAny (.type "set") _) _ _ _ from wpAny_pure ⟨Code.quiet_builtin _ (by decide +kernel), codeAny_builtin PySem.F.entry_type_call ?_⟩))
  rw [Around.under_plain (weight_type_call_type "set" [.ref tp] []) rfl]
  have f3 := PySem.F.called_set.notType
  have f4 := PySem.F.called_set.canCreate
  have f5 := PySem.F.typeCall_set_1 (.ref tp)
  repeat any_goals (first | assumption | wp_step)
  refine codeAny_mono (code_set_new_1 (.ref tp) (E := E) (Q₁ := fun x s1 => ∃ b : Bool, x = .ref s.heap.objs.size ∧ s1 = { s with heap := s.heap.push { cls := .type "set", dict := none, data := .set #[] 0 (.fresh 0 0 b) } }) fun b => ⟨b, rfl, rfl⟩) fun r s1 q1 => ?_
  cases r with
  | error e => exact q1
  | ok fl =>
    cases fl with
    | next => exact q1.elim
    | brk => exact q1.elim
    | cont => exact q1.elim
    | ret x =>
      obtain ⟨b, rfl, rfl⟩ := q1
      have e1 : (s.heap.push { cls := .type "set", dict := none, data := .set #[] 0 (.fresh 0 0 b) }).get? s.heap.objs.size = some { cls := .type "set", dict := none, data := .set #[] 0 (.fresh 0 0 b) } := Heap.get?_push_size _ rfl
      have ty : Shared.TypeIs { s with heap := s.heap.push { cls := .type "set", dict := none, data := .set #[] 0 (.fresh 0 0 b) } } (.ref s.heap.objs.size) "set" := ⟨_, e1, rfl⟩
      have f6 := PySem.F.called_set.init.lookup
      have f7 := PySem.F.called_set.init.bind (.ref s.heap.objs.size)
      repeat any_goals (first | assumption | wp_step)
      refine codeAny_mono (codeAny_call_builtin (R := wants (fun x s2 => x = .none ∧ ∃ g tk c, s2 = { s with heap := g, toks := tk } ∧ Has P w g s.heap.objs.size ys c ∧ Cnt ys c ∧ ∀ z o, s.heap.get? z = some o → g.get? z = some o) E)
        PySem.F.called_set.init.plain PySem.F.entry_set_init (check_set_init_1 ty ?_)) fun r2 s2 q2 => ?_
      · obtain ⟨⟨oc, od, odt, os⟩, ho, hoc, on, hod⟩ := ht
        simp only at hoc hod
        subst hoc
        subst hod
        have f8 := PySem.F.sub_tuple_set
        have f9 := PySem.F.sub_tuple_frozenset
        have nd : (Value.type "tuple" == Value.type "dict") = false := by decide
        have ho1 : (s.heap.push { cls := .type "set", dict := none, data := .set #[] 0 (.fresh 0 0 b) }).get? tp = some { cls := .type "tuple", dict := od, data := .seq vs on, slots := os } := Heap.get?_push_of_some _ ho
        have ht1 : (s.heap.push { cls := .type "set", dict := none, data := .set #[] 0 (.fresh 0 0 b) }).IsTuple tp vs := ⟨_, ho1, rfl, on, rfl⟩
        unfold Builtin.«set.__init__» noKeywords Builtin.Frozenset.updateFrom
        generalize eIt : pyIter = it0
        wp_walk
        subst eIt
        refine wpAny_pyIter_tuple ht1 (wpAny_bind (wpAny_runValue ?_))
        have lt0 : tp < s.heap.objs.size := Heap.lt_size ho
        have hA3 : A.in1.in1.in1.handled = none := by simp [hA]
        have ez : (s.heap.push { cls := .type "set", dict := none, data := .set #[] 0 (.fresh 0 0 b) }).objs.size = s.heap.objs.size + 1 := Heap.size_push ..
        have n1 : tp ≠ (s.heap.push { cls := .type "set", dict := none, data := .set #[] 0 (.fresh 0 0 b) }).objs.size := Nat.ne_of_lt (by rw [ez]; exact Nat.lt_succ_of_lt lt0)
        have n2 : s.heap.objs.size ∉ [(s.heap.push { cls := .type "set", dict := none, data := .set #[] 0 (.fresh 0 0 b) }).objs.size, tp] := fun z => by
          rw [ez] at z
          rcases List.mem_cons.mp z with z | z
          · exact Nat.ne_of_lt (Nat.lt_succ_self _) z
          · exact Nat.ne_of_gt lt0 (List.mem_singleton.mp z)
        have hv : ∀ (i : Nat) (v : Value), vs[i]? = some v → ∃ y t, ys[i]? = some y ∧ v = .str y t := fun i v hi => by
          have hl : i < ys.length := by rw [← en]; exact (Array.getElem?_eq_some_iff.mp hi).1
          obtain ⟨t, e⟩ := SS.strs_at hs i v (by rw [Array.getElem?_toList]; exact hi)
          refine ⟨ys[i], t, List.getElem?_eq_getElem hl, ?_⟩
          rw [e, List.getD_eq_getElem?_getD, List.getElem?_eq_getElem hl]
          rfl
        have W := (Walks.tuple hA3 (s.heap.push { cls := .type "set", dict := none, data := .set #[] 0 (.fresh 0 0 b) }).objs.size tp n1 vs (prog := P) (w := w)).toS
        rw [en] at W
        refine fill ys W n2 hz hv ys.length 0 _ _ (Nat.zero_add _) ⟨⟨_, Heap.get?_push_size _ rfl, rfl, rfl⟩, ht1.push _⟩ (.refl W.grefl) ⟨0, ?_, Cnt.nil⟩ fun s3 c h3 k3 m3 => ?_
        · exact SetOf_congr ((setObjOf_fresh (knd := PySem.strKind P w) b).setOf (Heap.get?_push_of_some _ e1) (by unfold scanBound; omega)) (fun _ => rfl) rfl
        · obtain ⟨g, g2, g3, tk, g4⟩ := s3
          obtain rfl : g2 = s.gens := m3.gens
          obtain rfl : g3 = s.drawn := m3.drawn
          obtain rfl : g4 = s.os := m3.os
          show wpAny _ _ _ _ _ _
          refine wpAny_pure ?_
          show wpAny _ _ (ret Value.none) _ _ _
          refine wpAny_pure ⟨rfl, g, tk, c, rfl, h3, k3, fun z o e => ?_⟩
          have hl := Heap.lt_size e
          refine m3.heap z o (fun q => ?_) (Heap.get?_push_of_some _ (Heap.get?_push_of_some _ e))
          rcases List.mem_cons.mp q with q | q
          · exact Nat.ne_of_lt hl q
          · have q := List.mem_singleton.mp q
            rw [ez] at q
            exact Nat.ne_of_lt (Nat.lt_succ_of_lt hl) q
      · cases r2 with
        | error e => exact q2
        | ok fl2 =>
          cases fl2 with
          | next => exact q2.elim
          | brk => exact q2.elim
          | cont => exact q2.elim
          | ret x =>
            obtain ⟨rfl, g, tk, c, rfl, h3, k3, k4⟩ := q2
            repeat any_goals (first | assumption | wp_step)
            exact h g tk c h3 k3 k4
end
end ST
namespace L2
open PySem PySem.Spec PyProof.Rows
/-- len(set(t)), t a tuple of texts -/
def tLenSetT (K : PySem.W.Frag) (ta : TE) : TE := fun σ H Q => ta σ H fun x H1 => ∃ (l : Addr) (ys : List Str), x = .ref l ∧ SqT K H1 l (ys.map V.str) ∧ ys.length ≤ 1000 ∧ ∀ c, ST.Cnt ys c → Q (.int (c : Nat)) H1
theorem pe_lenSetT {X : Cx} {a : Expr} {ta : TE} {p p2 q pos : Pos} (hc : X.calm = true) (g1 : Gl X "len") (b1 : X.mg "len" = none) (g2 : Gl X "set") (b2 : X.mg "set" = none) (ha : PE X a ta)
    (na : starEach [a] X.env = (false, eval a X.env) :: starEach [] X.env := by rfl) : PE X (.Call (.Name "len" p) [.Call (.Name "set" p2) [a] [] q] [] pos) (tLenSetT X.K ta) := by
  refine ⟨fun pins s σ H Q I h => Call_ (ld_blt I g1 b1 boot_len (PyProof.Rows.callWith_builtin1 (PyProof.Rows.args_cons (Call_ (ld_blt I g2 b2 boot_set (PyProof.Rows.callWith_type1 (PyProof.Rows.args_cons
    (thn (ha.run pins s σ H _ I h) fun v s1 ⟨x, H1, I1, rx, l, ys, ex, hq, hl, k⟩ => PyProof.Rows.args_nil ?_) na) na rfl))) rfl) rfl rfl))⟩
  subst ex
  cases rx
  obtain ⟨its, rv, pl, hz⟩ := I1.tuple hq
  refine ST.made (I1.ok.hd hc) pl (by simpa using strsAre_of rv) (by unfold scanBound; omega) fun g tk c hs kc kg => PyProof.Rows.args_nil ?_
  obtain ⟨o, es, ep, t, ho, hx, hd, _, _, _, hf, hn⟩ := hs
  have hc2 := kc.le
  have I2 : Inv X pins σ H1 { s1 with heap := g, toks := tk } := I1.kept kg
  exact call_len_set ho hx hd hf (by rw [hn]; omega) ⟨.int (c : Nat), H1, I2.tok _, ⟨_, by rw [hn]⟩, k c kc⟩
end L2
end
section
set_option Elab.async false
set_option linter.all false
set_option maxRecDepth 100000
namespace MN
open PySem PySem.Spec PyProof.Rows PySem.W
/-! ### min of a list of three numbers each -/
abbrev T3 : Type := Int × Int × Int
def d3 (x : T3) : PyData := .tuple [.int x.1, .int x.2.1, .int x.2.2]
def lt3 (x y : T3) : Bool := decide (x.1 < y.1 ∨ (x.1 = y.1 ∧ (x.2.1 < y.2.1 ∨ (x.2.1 = y.2.1 ∧ x.2.2 < y.2.2))))
theorem lt_d3 (x y : T3) : dataLt (d3 x) (d3 y) = lt3 x y := by
  obtain ⟨a, b, c⟩ := x
  obtain ⟨a', b', c'⟩ := y
  show lexLt itemOrd [.inl 1, .inl a, .inl 1, .inl b, .inl 1, .inl c, .inl 0] [.inl 1, .inl a', .inl 1, .inl b', .inl 1, .inl c', .inl 0] = _
  unfold lt3
  have df : ∀ {m n : Int} {r t : List (Int ⊕ List Nat)}, m ≠ n → lexLt itemOrd (.inl m :: r) (.inl n :: t) = decide (m < n) := fun {m n r t} h => (lex_diff (O := itemOrd) (fun q => h (Sum.inl.inj q))).trans rfl
  rw [lex_self (O := itemOrd)]
  by_cases e1 : a = a'
  · subst e1
    rw [lex_self (O := itemOrd), lex_self (O := itemOrd)]
    by_cases e2 : b = b'
    · subst e2
      rw [lex_self (O := itemOrd), lex_self (O := itemOrd)]
      by_cases e3 : c = c'
      · subst e3
        rw [lex_self (O := itemOrd), lex_self (O := itemOrd)]
        show false = _
        rw [eq_comm, decide_eq_false_iff_not]
        dsimp only
        omega
      · rw [df e3, decide_eq_decide]
        dsimp only
        omega
    · rw [df e2, decide_eq_decide]
      dsimp only
      omega
  · rw [df e1, decide_eq_decide]
    dsimp only
    omega
theorem best (f : Nat → T3) (bt : Nat → Nat → Bool) : ∀ n, (∀ i j, i ≤ n → j ≤ n → bt i j = lt3 (f i) (f j)) → argBest bt n ≤ n ∧ ∀ k, k ≤ n → lt3 (f k) (f (argBest bt n)) = false
  | 0, _ => ⟨Nat.le_refl _, fun k hk => by
    obtain rfl : k = 0 := by omega
    show lt3 (f 0) (f 0) = false
    unfold lt3
    rw [decide_eq_false_iff_not]
    omega⟩
  | n + 1, hb => by
    obtain ⟨h1, h2⟩ := best f bt n fun i j hi hj => hb i j (by omega) (by omega)
    have e : argBest bt (n + 1) = if bt (n + 1) (argBest bt n) then n + 1 else argBest bt n := rfl
    rw [e, hb _ _ (Nat.le_refl _) (by omega)]
    generalize argBest bt n = m at h1 h2
    cases q : lt3 (f (n + 1)) (f m) with
    | true =>
      rw [if_pos rfl]
      refine ⟨Nat.le_refl _, fun k hk => ?_⟩
      unfold lt3 at h2 q ⊢
      have q := of_decide_eq_true q
      rw [decide_eq_false_iff_not]
      rcases Nat.lt_or_ge n k with h | h
      · obtain rfl : k = n + 1 := by omega
        omega
      · have h3 := of_decide_eq_false (h2 k h)
        omega
    | false =>
      rw [if_neg Bool.false_ne_true]
      refine ⟨by omega, fun k hk => ?_⟩
      rcases Nat.lt_or_ge n k with h | h
      · obtain rfl : k = n + 1 := by omega
        exact q
      · exact h2 k h
theorem alike3 (xs : List T3) : AlikeAll (xs.map d3) := by
  refine ⟨fun x hx y hy => ?_, fun x hx e => ?_⟩
  · obtain ⟨a, _, rfl⟩ := List.mem_map.mp hx
    obtain ⟨b, _, rfl⟩ := List.mem_map.mp hy
    rfl
  · obtain ⟨a, _, rfl⟩ := List.mem_map.mp hx
    cases e
theorem deep3 : ∀ xs : List T3, PyData.depthAll (xs.map d3) ≤ 1
  | [] => by simp only [List.map_nil, PyData.depthAll]; omega
  | r :: a => by
    have ih := deep3 a
    simp only [List.map_cons, PyData.depthAll, d3, PyData.depth]
    omega
end MN
namespace L2
open PySem PySem.Spec PyProof.Rows PySem.W MN
def rMinT (K : PySem.W.Frag) : List V → Hp → VK → Prop := fun vs H Q => ∃ (l : Addr) (ts : List Addr) (xs : List T3), vs = [.ref l] ∧ SqL K H l (ts.map V.ref) ∧ ts.length = xs.length ∧ 0 < ts.length ∧ (∀ (k : Nat) (t : Addr) (x : T3), ts[k]? = some t → xs[k]? = some x → H t = some (.tup [.int x.1, .int x.2.1, .int x.2.2])) ∧
  ∀ (k : Nat) (t : Addr) (x : T3), ts[k]? = some t → xs[k]? = some x → (∀ y ∈ xs, lt3 y x = false) → Q (.ref t) H
theorem dp3 {K : PySem.W.Frag} {H : Hp} : ∀ {ts : List Addr} {xs : List T3}, ts.length = xs.length → (∀ (k : Nat) (t : Addr) (x : T3), ts[k]? = some t → xs[k]? = some x → H t = some (.tup [.int x.1, .int x.2.1, .int x.2.2])) → DpAll K H (ts.map V.ref) (xs.map d3)
  | [], [], _, _ => .nil
  | [], _ :: _, e, _ => by cases e
  | _ :: _, [], e, _ => by cases e
  | t :: ts, x :: xs, e, h => .cons (.tup (.inl (.inl (h 0 t x rfl rfl))) (.cons (.int _) (.cons (.int _) (.cons (.int _) .nil)))) (dp3 (Nat.succ.inj e) fun k t x h1 h2 => h (k + 1) t x h1 h2)
theorem call_minT {X : Cx} (hc : X.calm = true) (hu : X.A.units + 64 < cLine) : CallR X (.builtin "min") (rMinT X.K) := by
  intro pins s σ H vs us Q I r h
  obtain ⟨l, ts, xs, rfl, hs, el, h0, ht, k⟩ := h
  obtain ⟨its, rv, hl, hz⟩ := I.list hs
  rw [Vals.ref1 r]
  obtain ⟨as, rd⟩ := Dp.readsAll I (xs.map d3) _ its (dp3 el ht) rv
  have hn : its.length = ts.length := by rw [← rv.length, List.length_map]
  have hd := deep3 xs
  refine call_min_walkH (iter_listW (A := X.A.in1) (I.ok.hd hc) hl.isList fun s2 e W st hfp hw hk => ?_)
  refine ⟨_, _, _, _, _, _, _, s.heap, _, rfl, W, st, hfp, by rw [List.size_toArray]; omega, hw, hk, cmpIn_lt (A := X.A.in1) (by simpa using rd) (alike3 xs) (by show X.A.units + 1 + _ < _; omega), fun v s' hP m => ?_⟩
  obtain ⟨g, tk, rfl, hk'⟩ := moved_old e rfl m
  rw [List.size_toArray] at hP
  have hf : ∀ i, i < xs.length → (xs.map d3).getD i .none = d3 (xs.getD i (0, 0, 0)) := fun i hi => by
    rw [List.getD_eq_getElem?_getD, List.getD_eq_getElem?_getD, List.getElem?_map, List.getElem?_eq_getElem hi]
    rfl
  obtain ⟨b1, b2⟩ := best (fun i => xs.getD i (0, 0, 0)) (fun i j => dataLt ((xs.map d3).getD i .none) ((xs.map d3).getD j .none)) (its.length - 1) fun i j hi hj => by
    rw [hf i (by omega), hf j (by omega), lt_d3]
  generalize argBest (fun i j => dataLt ((xs.map d3).getD i .none) ((xs.map d3).getD j .none)) (its.length - 1) = m0 at hP b1 b2
  have hm : m0 < ts.length := by omega
  have e1 : (ts.map V.ref)[m0]? = some (.ref ts[m0]) := by rw [List.getElem?_map, List.getElem?_eq_getElem hm]; rfl
  obtain ⟨u, hu1, hu2⟩ := rv.get e1
  have e2 : u = v := by
    rw [List.getElem?_toArray, hu1] at hP
    exact Option.some.inj hP
  subst e2
  obtain rfl : u = Value.ref ts[m0] := hu2
  have hm2 : m0 < xs.length := by omega
  refine ⟨.ref ts[m0], H, I.kept hk', rfl, k m0 ts[m0] xs[m0] (List.getElem?_eq_getElem hm) (List.getElem?_eq_getElem hm2) fun y hy => ?_⟩
  obtain ⟨j, hj, rfl⟩ := List.mem_iff_getElem.mp hy
  have := b2 j (by omega)
  simp only [List.getD_eq_getElem?_getD, List.getElem?_eq_getElem hj, List.getElem?_eq_getElem hm2] at this
  exact this
end L2
end
section
set_option Elab.async false
set_option linter.all false
set_option maxRecDepth 100000
set_option maxHeartbeats 4000000
namespace L2
open PySem PySem.Spec PyProof.Rows
section
variable {X : Cx}
theorem pe_dcT {kx vx target iter : Expr} {scope : Scope} {own : List (Str × Nat)} {pos : Pos} {wi : TI} {g : TG} {tk tv : TE} (hu : X.A.units < cLine) (calm : X.calm = true) (nd : X.N.Nodup) (hi : PI X target iter wi) (ok : BlkOk X.N X.env.scope scope own)
    (hg : ∀ (s : Shared) (H : Hp) (C : Addr) (cl : List (Str × Addr)) (fp : List Addr), PG (X.blk s H scope (compEnvC scope cl C X.env) fp) target g)
    (hk : ∀ (s : Shared) (H : Hp) (C : Addr) (cl : List (Str × Addr)) (fp : List Addr), PE (X.blk s H scope (compEnvC scope cl C X.env) fp) kx tk)
    (hv : ∀ (s : Shared) (H : Hp) (C : Addr) (cl : List (Str × Addr)) (fp : List Addr), PE (X.blk s H scope (compEnvC scope cl C X.env) fp) vx tv) (fold : ∀ x, foldedSetIterable iter X.env x = pure x := by intro _; rfl) :
    PE X (.DictComp kx vx [⟨target, iter, [], 0⟩] scope pos) (tDcT wi g tk tv (own.map (·.2))) := by
  refine ⟨fun pins s σ H Q I h => ?_⟩
  rw [arm_eval_DictComp]
  refine dcT_core hu calm nd I hi ok hg hk hv fold h fun L C s' m H' I' q hn f => ⟨m, hn, fun g2 sb => ?_⟩
  obtain ⟨f0, f1, f2, f3, f4, f5⟩ := f
  exact ⟨.ref L, H', I'.turned (t' := s'.toks) (fun b o hb e => (sb.2 b hb).trans e) f0 f1 f3 f4 f5, rfl, q⟩
theorem isiK {K : PySem.W.Frag} (e : X.K = K := by rfl) : CallR X (.builtin "isinstance") (rIsi K) := e ▸ call_isi
end
end L2
namespace K0
open PySem PySem.Spec PyProof.Rows L2
/-! ### goes_round -/
theorem tyof_same {K : PySem.W.Frag} {H H' : Hp} {v : V} {t : Value} (s : Same H H') (h : TyOf K H v t) : TyOf K H' v t := by
  cases h with
  | non => exact .non
  | bl x => exact .bl x
  | int i => exact .int i
  | str x => exact .str x
  | flt x => exact .flt x
  | lst e => exact .lst (s _ _ e)
  | frz e => exact .frz (s _ _ e)
  | tup e => exact .tup (s _ _ e)
  | dK e => exact .dK (s _ _ e)
  | dT e => exact .dT (s _ _ e)
  | ins e c h1 h2 h3 h4 => exact .ins (s _ _ e) c h1 h2 h3 h4
theorem tyx_same {K : PySem.W.Frag} {H H' : Hp} {v : V} {t : Value} (s : Same H H') (h : TyX K H v t) : TyX K H' v t := by
  cases h with
  | base h => exact .base (tyof_same s h)
  | byt y => exact .byt y
  | set e => exact .set (s _ _ e)
  | kList e c => exact .kList e c
  | kTuple e c => exact .kTuple e c
  | kDict e c => exact .kDict e c
  | fTuple e => exact .fTuple (s _ _ e)
  | fDict e => exact .fDict (s _ _ e)
/-- each is ahead of the one behind it, round about -/
def allB (A : List Row) (ns : List Str) : Bool := (List.range ns.length).all fun k => decide ((ns.getD k "", ns.getD ((k + 1) % ns.length) "") ∈ A)
def goesL (A : List Row) (ns : List Str) : Bool := decide (3 ≤ ns.length) && (decide ns.Nodup && allB A ns)
abbrev scAllFollow_N : List Str := ["names", "told", "place", "name"]
abbrev scAllFollow_S : Stmt := sAllFollow
theorem scAllFollow : FnScope scAllFollow_N ["names", "told"] (defScope sAllFollow) := ⟨rfl, rfl, rfl, by decide +kernel, rfl, by decide +kernel, by decide +kernel⟩
def spAllFollow (K : PySem.W.Frag) : Sp := fun vs H Q _ => ∃ (t D : Addr) (ns : List Str) (A : List Row), vs = [.ref t, .ref D] ∧ TxR H t ns ∧ H D = some (.dT (toldD A)) ∧ ns.length ≤ 900 ∧ ∀ H', Same H H' → Q (.bl (allB A ns)) H'
theorem next_at {ns : List Str} {i : Nat} (hi : i < ns.length) : atI (ns.map V.str) ((i : Int) - (ns.length : Nat) + 1) = some (.str (ns.getD ((i + 1) % ns.length) "")) := by
  have hl : (ns.map V.str).length = ns.length := List.length_map _
  rcases Nat.lt_or_ge (i + 1) ns.length with h | h
  · rw [Nat.mod_eq_of_lt h]
    unfold atI ixN
    rw [hl, if_neg (by omega), if_pos (by omega)]
    show (ns.map V.str)[((i : Int) - (ns.length : Nat) + 1 + (ns.length : Nat)).toNat]? = _
    rw [show ((i : Int) - (ns.length : Nat) + 1 + (ns.length : Nat)).toNat = i + 1 by omega, List.getElem?_map, List.getElem?_eq_getElem h, List.getD_eq_getElem?_getD, List.getElem?_eq_getElem h]
    rfl
  · have e : i + 1 = ns.length := by omega
    rw [e, Nat.mod_self]
    have e2 : (i : Int) - (ns.length : Nat) + 1 = ((0 : Nat) : Int) := by omega
    rw [e2]
    refine atI_nat ?_
    rw [List.getElem?_map, List.getElem?_eq_getElem (by omega), List.getD_eq_getElem?_getD, List.getElem?_eq_getElem (by omega)]
    rfl
/-- what goes_round is asked, and what it says -/
inductive GoK (K : PySem.W.Frag) (H : Hp) (A : List Row) : V → Bool → Prop where
  | no {v : V} {t : Value} (h : TyX K H v t) (k : PySem.W.kitOne K t (.type "tuple") = some false) : GoK K H A v false
  | few {a : Addr} {xs : List V} (h : H a = some (.tup xs)) (l : xs.length < 3) : GoK K H A (.ref a) false
  | odd {a : Addr} {xs : List V} (h : H a = some (.tup xs)) (l : xs.length ≤ 900) (g : Nat → Bool) (ty : ∀ (i : Nat) (x : V), xs[i]? = some x → ∃ t, TyX K H x t ∧ PySem.W.kitOne K t (.type "str") = some (g i)) (bad : ∃ i, i < xs.length ∧ g i = false) : GoK K H A (.ref a) false
  | txt {a : Addr} {ns : List Str} (h : TxR H a ns) (l : ns.length ≤ 900) : GoK K H A (.ref a) (goesL A ns)
abbrev scGoes_N : List Str := ["names", "ahead", "name", "pair"]
abbrev scGoes_S : Stmt := sGoesRound
theorem scGoes : FnScope scGoes_N ["names", "ahead"] (defScope sGoesRound) := ⟨rfl, rfl, rfl, by decide +kernel, rfl, by decide +kernel, by decide +kernel⟩
def spGoes (K : PySem.W.Frag) : Sp := fun vs H Q _ => ∃ (v : V) (l : Addr) (AP : List (Addr × Row)) (b : Bool), vs = [v, .ref l] ∧ RowsAt H l AP ∧ AP.length ≤ 1640 ∧ GoK K H (rowsOf AP) v b ∧ ∀ H', Same H H' → Q (.bl b) H'
section
variable {P : Program} {w : World} {K : PySem.W.Frag} {mg : Str → Option Value} {base : Heap} {tS tM tL : Tok}
theorem ok_allfollow {f : Addr} {fd : FuncData} (F : FnP K "_all_follow" sAllFollow f fd) (B : Bl mg) : FnOk P w K mg base CX0 1 f fd ["names", "told"] (spAllFollow K) := by
  refine F.ok scAllFollow (fun vs H Q E h => ?_) (fun cdv A outer s H vs Q E hr h => ?_)
  · obtain ⟨t, D, ns, A, rfl, _⟩ := h
    rfl
  · obtain ⟨t, D, ns, AA, rfl, ht, hD, hl, k⟩ := h
    have hu := hu_of hr
    refine ⟨_, PSs.nox (pss_one
      (ps_ret (pe_callB (allK (K := K) rfl) (by rfl) B.all (by decide +kernel) (pa_cons (pe_lc (own := [("place", 2), ("name", 3)])  (tt := tYes) (by rfl) scAllFollow.nd (pi_enumT (by rfl) B.enumerate (pa_cons (pv 0) pa_nil)) (blkOk_by (own := [("place", 2), ("name", 3)]) (N := scAllFollow_N) (sc := defScope scAllFollow_S) (by decide +kernel)) (fun _ _ _ _ _ => (tgK (K := K) (n := 2) (by rfl) (pgs_cons (pg_name (i := 2) scAllFollow.nd rfl (Or.inl rfl)) (pgs_cons (pg_name (i := 3) scAllFollow.nd rfl (Or.inl rfl)) pgs_nil)))) (fun _ _ _ _ _ => pts_nil) (fun _ _ _ _ _ => (pe_cmp (pc_din hu (pe_tup (pa_cons (pv 3) (pa_cons (pe_ix (ixTK (K := K)) (pv 0) (pe_op op_add (pe_op op_sub (pv 2) (pe_callB (lenK (K := K)) (by rfl) B.len PySem.boot_len (pa_cons (pv 0) pa_nil))) pe_int) (fun _ _ => rfl)) pa_nil))) (pv 1)) rfl))) pa_nil)))), ?_⟩
    refine ⟨_, rfl, t, ns.map V.str, rfl, .inl ht, fun L nL => ?_⟩
    refine lc_itO (walk_enumT (K := K) (a := t) (xs := ns.map V.str)) nL (fun i => ((List.range i).map fun k => decide ((ns.getD k "", ns.getD ((k + 1) % ns.length) "") ∈ AA)).map V.bl) rfl (fun i hi => by
      rw [List.length_map] at hi
      rw [List.length_map, List.length_map, List.length_range]
      exact small1000 (by omega)) (fun H2 s2 => .inl (ht.same s2)) ?_ ?_
    · intro i x H2 H3 Nx hi s2 hL2 put skip hy
      rw [List.length_map] at hi
      obtain ⟨T, x1, x2, rfl, nT, rfl, e1, e2⟩ := hy
      cases e1
      have e2 : (ns.map V.str)[i]? = some x2 := e2
      rw [List.getElem?_map] at e2
      obtain ⟨n, hn, rfl⟩ := Option.map_eq_some_iff.mp e2
      have en : ns.getD i "" = n := by rw [List.getD_eq_getElem?_getD, hn]; rfl
      have s3 : Same H2 (upd H2 T (.tup [.int (i : Nat), .str n])) := same_upd nT
      refine ⟨T, _, rfl, .inl (.inl upd_same), rfl, _, _, rfl, _, _, rfl, rfl, rfl, ?_⟩
      unfold tYes
      refine iteT ?_
      generalize upd H2 T (.tup [.int (i : Nat), .str n]) = H4 at s3
      have s24 := s2.trans s3
      have ht4 := ht.same s24
      refine ⟨_, rfl, _, rfl, _, rfl, _, rfl, t, _, rfl, .inr (.inl ht4), _, _, rfl, rfl, _, _, rfl, rfl, t, _, _, _, rfl, rfl, .inl ht4, by rw [List.length_map]; exact next_at hi, by show 2 ≤ sizeLine; decide, fun q nq => ?_⟩
      have s5 : Same H4 (upd H4 q (.tup [.str n, .str (ns.getD ((i + 1) % ns.length) "")])) := same_upd nq
      refine ⟨_, rfl, D, _, rfl, DGet.t (k := pkR (n, ns.getD ((i + 1) % ns.length) "")) (s5 _ _ (s24 _ _ hD)) (by rw [upd_same]; rfl), ?_⟩
      rw [told_in]
      refine put _ _ (s3.trans s5) ?_
      rw [List.range_succ, List.map_append, List.map_append, ← en]
      rfl
    intro H2 s2 hL2
    rw [List.length_map] at hL2
    refine ⟨L, _, rfl, .inl (.inl hL2), ?_⟩
    rw [List.all_map]
    exact k H2 s2
theorem ok_goes {f fA : Addr} {fd fdA : FuncData} (F : FnP K "goes_round" sGoesRound f fd) (F_all_follow : FnP K "_all_follow" sAllFollow fA fdA) (g_all_follow : mg "_all_follow" = some (.ref fA)) (hset : mg "set" = none) (B : Bl mg) : FnOk P w K mg base CX0 2 f fd ["names", "ahead"] (spGoes K) := by
  have G_all_follow : FnOk P w K mg base CX0 1 fA fdA ["names", "told"] (spAllFollow K) := ok_allfollow F_all_follow B
  have b_all_follow : Binds K fdA ["names", "told"] [] := F_all_follow.bindsN fun _ _ _ _ _ _ us hl => match us, hl with | [_, _], _ => rfl
  refine F.ok scGoes (fun vs H Q E h => ?_) (fun cdv A outer s H vs Q E hr h => ?_)
  · obtain ⟨v, l, AP, b, rfl, _⟩ := h
    rfl
  · obtain ⟨v, l, AP, b, rfl, hA, hAl, hk, k⟩ := h
    have hu := hu_of hr
    have hr_all_follow : Room 1 _ := hr
    refine ⟨_, PSs.nox (pss_cons
      (ps_if (PW.pt (pw_or (pt_not (pt_val (pe_callB call_isi (by rfl) B.isinstance (by decide +kernel) (pa_cons (pv 0) (pa_cons (pe_bltn (v := .ty "tuple") (by rfl) B.tuple (by decide +kernel) rfl) pa_nil))))) (pw_or1 (pt_cmpR op_lt (pe_callB (lenK (K := K)) (by rfl) B.len PySem.boot_len (pa_cons (pv 0) pa_nil)) pe_int (nomark _))))) (pss_one
      (ps_ret pe_bl)) pss_nil)
      (pss_cons
      (ps_if (PW.pt (pw_or (pt_not (pt_val (pe_callB (allK (K := K) rfl) (by rfl) B.all (by decide +kernel) (pa_cons (pe_lc (own := [("name", 2)]) (g := gName 2) (tt := tYes) (by rfl) scGoes.nd (pi_tup (pv 0)) (blkOk_by (own := [("name", 2)]) (N := scGoes_N) (sc := defScope scGoes_S) (by decide +kernel)) (fun _ _ _ _ _ => (pg_name (i := 2) scGoes.nd rfl (Or.inl rfl))) (fun _ _ _ _ _ => pts_nil) (fun _ _ _ _ _ => (pe_callB (isiK (K := K)) (by rfl) B.isinstance (by decide +kernel) (pa_cons (pv 2) (pa_cons (pe_bltn (v := .ty "str") (by rfl) B.str (by decide +kernel) rfl) pa_nil))))) pa_nil)))) (pw_or1 (pt_cmpR op_lt (pe_lenSetT rfl (by rfl) B.len (by rfl) hset (pv 0)) (pe_callB (lenK (K := K)) (by rfl) B.len PySem.boot_len (pa_cons (pv 0) pa_nil)) (nomark _))))) (pss_one
      (ps_ret pe_bl)) pss_nil)
      (pss_one
      (ps_ret (pe_call G_all_follow hr_all_follow (by rfl) g_all_follow F_all_follow.kp b_all_follow .nil pass0 (pa_cons (pv 0) (pa_cons (pe_dcT (own := [("pair", 3)]) (g := gName 3) (Nat.lt_of_succ_lt hu) rfl scGoes.nd (pi_list (pv 1)) (blkOk_by (own := [("pair", 3)]) (N := scGoes_N) (sc := defScope scGoes_S) (by decide +kernel)) (fun _ _ _ _ _ => (pg_name (i := 3) scGoes.nd rfl (Or.inl rfl))) (fun _ _ _ _ _ => (pv 3)) (fun _ _ _ _ _ => pe_bl)) pa_nil))))))), ?_⟩
    have z40 : 40000 ≤ sizeLine := by rw [sizeLine_eq]; omega
    cases hk with
    | no h kk =>
      refine ⟨_, rfl, v, .ty "tuple", _, _, false, rfl, .ty "tuple", h, kk, _, rfl, ?_⟩
      exact iteT (k H (.refl _))
    | few h hl =>
      refine ⟨_, rfl, _, .ty "tuple", _, _, true, rfl, .ty "tuple", .base (.tup h), kit_ty (by decide +kernel), _, rfl, ?_⟩
      refine iteF ?_
      refine ⟨_, rfl, _, _, rfl, .inr (.inl (.inl h)), _, _, rfl, rfl, _, rfl, ?_⟩
      exact ite2 (fun _ => k H (.refl _)) (fun q => absurd (decide_eq_true (by omega)) q)
    | @odd a xs h hl g ty bad =>
      refine ⟨_, rfl, _, .ty "tuple", _, _, true, rfl, .ty "tuple", .base (.tup h), kit_ty (by decide +kernel), _, rfl, ?_⟩
      refine iteF ?_
      refine ⟨_, rfl, _, _, rfl, .inr (.inl (.inl h)), _, _, rfl, rfl, _, rfl, ?_⟩
      refine ite2 (fun _ => k H (.refl _)) (fun _ => ?_)
      refine ⟨_, rfl, a, rfl, ⟨_, .inl (.inl h)⟩, fun D nD => ?_⟩
      refine lc_tupO (K := K) (a := a) (xs := xs) nD (fun j => ((List.range j).map g).map V.bl) rfl (fun j hj => by rw [List.length_map, List.length_map, List.length_range]; exact small1000 (by omega)) (fun H2 s2 => .inl (.inl (s2 _ _ h))) ?_ ?_
      · intro j x H2 Nx hx s2 put skip
        obtain ⟨t, tx, kt⟩ := ty j x hx
        refine ⟨rfl, ?_⟩
        unfold tYes
        refine iteT ?_
        refine ⟨_, rfl, x, .ty "str", t, _, g j, rfl, .ty "str", tyx_same s2 tx, kt, ?_⟩
        refine put _ _ (.refl _) ?_
        rw [List.range_succ, List.map_append, List.map_append]
        rfl
      intro H2 s2 hD2
      refine ⟨D, _, rfl, .inl (.inl hD2), _, rfl, ?_⟩
      have e : ((List.range xs.length).map g).all id = false := by
        obtain ⟨i, hi, hg⟩ := bad
        rw [List.all_eq_false]
        exact ⟨g i, List.mem_map.mpr ⟨i, List.mem_range.mpr hi, rfl⟩, by rw [hg]; decide⟩
      rw [e]
      exact iteT (k H2 s2)
    | @txt a ns h hl =>
      have tyT : TyX K H (.ref a) (.type "tuple") := by
        rcases h with h | ⟨o, h⟩
        · exact .base (.tup h)
        · exact .fTuple h
      refine ⟨_, rfl, _, .ty "tuple", _, _, true, rfl, .ty "tuple", tyT, kit_ty (by decide +kernel), _, rfl, ?_⟩
      refine iteF ?_
      refine ⟨_, rfl, _, _, rfl, .inr (.inl h), _, _, rfl, rfl, _, rfl, ?_⟩
      have fin : ∀ {b : Bool} {H'}, Same H H' → goesL (rowsOf AP) ns = b → Q (.bl b) H' := fun {b H'} s e => by rw [← e]; exact k H' s
      unfold goesL at fin
      rw [List.length_map]
      refine ite2 (fun q => ?_) (fun q => ?_)
      · refine fin (.refl _) ?_
        have : ¬ 3 ≤ ns.length := by
          have := of_decide_eq_true q
          omega
        rw [decide_eq_false this]
        rfl
      have h3 : 3 ≤ ns.length := by
        have : ¬ (ns.length : Int) < 3 := fun z => q (decide_eq_true z)
        omega
      rw [decide_eq_true h3] at fin
      refine ⟨_, rfl, a, rfl, ⟨_, .inl h⟩, fun D nD => ?_⟩
      refine lc_tupO (K := K) (a := a) (xs := ns.map V.str) nD (fun j => ((List.range j).map fun _ => true).map V.bl) rfl (fun j hj => by rw [List.length_map] at hj; rw [List.length_map, List.length_map, List.length_range]; exact small1000 (by omega)) (fun H2 s2 => .inl (h.same s2)) ?_ ?_
      · intro j x H2 Nx hx s2 put skip
        rw [List.getElem?_map] at hx
        obtain ⟨n, hn, rfl⟩ := Option.map_eq_some_iff.mp hx
        refine ⟨rfl, ?_⟩
        unfold tYes
        refine iteT ?_
        refine ⟨_, rfl, .str n, .ty "str", _, _, true, rfl, .ty "str", .base (.str n), kit_ty (by decide +kernel), ?_⟩
        refine put _ _ (.refl _) ?_
        rw [List.range_succ, List.map_append, List.map_append]
        rfl
      intro H2 s2 hD2
      refine ⟨D, _, rfl, .inl (.inl hD2), _, rfl, ?_⟩
      rw [show (((List.range (ns.map V.str).length).map fun _ => true).all id) = true from List.all_eq_true.mpr fun x hx => by obtain ⟨_, _, rfl⟩ := List.mem_map.mp hx; rfl]
      refine iteF ?_
      refine ⟨_, rfl, a, ns, rfl, .inl (h.same s2), by omega, fun c hc => ?_⟩
      refine ⟨_, rfl, a, _, rfl, .inr (.inl (h.same s2)), _, _, rfl, rfl, _, rfl, ?_⟩
      rw [List.length_map]
      have hcl := hc.le
      have hce := hc.eq
      refine ite2 (fun q => ?_) (fun q => ?_)
      · refine fin s2 ?_
        have : ¬ ns.Nodup := fun z => by
          have h5 := hce.mpr z
          have h6 := of_decide_eq_true q
          omega
        rw [decide_eq_false this]
        rfl
      have hnd : ns.Nodup := hce.mp (by
        have : ¬ (c : Int) < (ns.length : Int) := fun z => q (decide_eq_true z)
        omega)
      rw [decide_eq_true hnd] at fin
      have hA2 := hA.same s2
      refine ⟨_, rfl, _, rfl, l, rfl, ⟨_, .inl (.inl hA2.lst)⟩, fun W nW => ?_⟩
      have hAr : (rowsOf AP).length = AP.length := List.length_map _
      refine dcT_list (K := K) (a := l) (xs := AP.map fun q => V.ref q.1) (fun i H3 => Same H2 H3 ∧ H3 W = some (.dT (toldD ((rowsOf AP).take i)))) ⟨same_upd nW, upd_same⟩ (fun i H3 _ h => .inl (.inl (h.1 _ _ hA2.lst))) ?_ ?_
      · rintro i x H3 hx ⟨s3, hD3⟩
        have hi : i < AP.length := by
          have := (List.getElem?_eq_some_iff.mp hx).1
          rw [List.length_map] at this
          exact this
        have ex := row_at hx hi
        subst ex
        have hri : (rowsOf AP)[i]? = some AP[i].2 := by rw [List.getElem?_map, List.getElem?_eq_getElem hi]; rfl
        have ht := s3 _ _ (hA2.tup _ (List.getElem_mem hi))
        refine ⟨rfl, _, rfl, _, pkR AP[i].2, AP[i].1, rfl, ht, hD3, ?_, fun b o e => ?_, ?_⟩
        · have := toldD_len ((rowsOf AP).take i)
          rw [List.length_take] at this
          omega
        · rw [upd_ne (ne_of_none e nW)]
          exact s3 _ _ e
        · rw [upd_same, toldD_take hri]
      rintro H3 ⟨s3, hD3⟩
      rw [List.length_map, ← hAr, List.take_length] at hD3
      exact ⟨a, W, ns, rowsOf AP, rfl, h.same (s2.trans s3), hD3, hl, fun H4 s4 => fin ((s2.trans s3).trans s4) rfl⟩
end
end K0
end
section
set_option Elab.async false
set_option linter.all false
set_option maxRecDepth 100000
set_option maxHeartbeats 4000000
namespace K0
open PySem PySem.Spec PyProof.Rows L2 MN
/-! ### shrunk -/
theorem name_pl {R : List Row} {B : List RRow} (b : RtOk R B) {n : Str} (hn : n ∈ rnm B) : Plain n := by
  obtain ⟨r, hr, rfl⟩ := List.mem_map.mp hn
  exact name_plain (b.ok r hr)
/-- t.index(x) of such a tuple of texts -/
def rTIdx (K : PySem.W.Frag) : V → List V → Hp → VK → Prop := fun x xs H Q => ∃ p, ∃ ys : List Str, ∃ z j, x = .ref p ∧ xs = [.str z] ∧ SqT K H p (ys.map V.str) ∧ ys[j]? = some z ∧ (∀ m, m < j → ys[m]? ≠ some z) ∧ Q (.int (j : Nat)) H
theorem pe_tidx {X : Cx} {K : PySem.W.Frag} {o e : Expr} {to : TE} {t : TA} {apos cpos : Pos} (ho : PE X o to) (ht : PA X [e] t)
    (h1 : attributeBase o "index" X.env (eval o X.env) = eval o X.env := by rfl)
    (h2 : (((((backTo cpos (starEach [e] X.env)).all fun x => !x.fst) && (backToKw cpos (keywordEach [] X.env)).all fun x => x.fst.isSome) && decide (([e].length + ([] : List Keyword).length + if ([] : List Keyword).isEmpty = true then 0 else 1) < 30)) = true) := by rfl)
    (h3 : (apos.endLine == cpos.line) = true := by rfl) (h4 : starEach [e] X.env = (false, eval e X.env) :: starEach [] X.env := by rfl)
    (h5 : ((backTo cpos (starEach [] X.env)).any fun x => x.fst) = false := by rfl) (ek : X.K = K := by rfl) : PE X ((o.Attribute "index" apos).Call [e] [] cpos) (tBMT (rTIdx K) to t) := by
  subst ek
  exact k0_bmT PySem.F.slot_tuple_index PySem.F.type_tuple_index mt_tup_index ho ht h1 h2 h3 h4 h5
theorem hat_idx {L : List Str} {x : Str} (hx : x ∈ L) : L[L.idxOf x]? = some x := by
  have hlt := List.idxOf_lt_length_iff.mpr hx
  rw [List.getElem?_eq_getElem hlt, List.getElem_idxOf]
theorem fst_idx {L : List Str} {x : Str} (m : Nat) (hm : m < L.idxOf x) : L[m]? ≠ some x := fun e => by
  have q := List.not_of_lt_findIdx (p := fun z => z == x) (xs := L) hm
  obtain ⟨_, e4⟩ := List.getElem?_eq_some_iff.mp e
  rw [e4, beq_self_eq_true] at q
  cases q
/-- by what the deepest is chosen -/
def keyD (R : List Row) (B : List RRow) (S : List Str) (j : Nat) : T3 := (-(depthN R B (S.getD j "") : Int), ((rnm B).idxOf (S.getD j "") : Int), (j : Int))
def Deepest (R : List Row) (B : List RRow) (S : List Str) (k : Nat) : Prop := k < S.length ∧ ∀ j, j < S.length → lt3 (keyD R B S j) (keyD R B S k) = false
theorem Deepest.uniq {R : List Row} {B : List RRow} {S : List Str} {j k : Nat} (a : Deepest R B S j) (b : Deepest R B S k) : j = k := by
  have h1 := of_decide_eq_false (a.2 k b.1)
  have h2 := of_decide_eq_false (b.2 j a.1)
  unfold keyD at h1 h2
  dsimp only at h1 h2
  omega
open Classical in
/-- the place of the deepest -/
noncomputable def kOf (R : List Row) (B : List RRow) (S : List Str) : Nat := if h : ∃ k, Deepest R B S k then h.choose else 0
theorem kOf_eq {R : List Row} {B : List RRow} {S : List Str} {k : Nat} (h : Deepest R B S k) : kOf R B S = k := by
  have e : ∃ k, Deepest R B S k := ⟨k, h⟩
  unfold kOf
  rw [dif_pos e]
  exact e.choose_spec.uniq h
def prevS (S : List Str) (k : Nat) : Str := S.getD ((k + S.length - 1) % S.length) ""
def nextS (S : List Str) (k : Nat) : Str := S.getD ((k + 1) % S.length) ""
/-- the next round -/
noncomputable def stepS (A R : List Row) (B : List RRow) (S : List Str) : List Str :=
  if (prevS S (kOf R B S), nextS S (kOf R B S)) ∈ A then S.take (kOf R B S) ++ S.drop (kOf R B S + 1) else [prevS S (kOf R B S), S.getD (kOf R B S) "", nextS S (kOf R B S)]
theorem prev_at {ns : List Str} {k : Nat} (hk : k < ns.length) : atI (ns.map V.str) ((k : Int) - 1) = some (.str (prevS ns k)) := by
  have hl : (ns.map V.str).length = ns.length := List.length_map _
  unfold prevS
  rcases Nat.eq_zero_or_pos k with h | h
  · subst h
    rw [Nat.zero_add, Nat.mod_eq_of_lt (by omega)]
    unfold atI ixN
    rw [hl, if_neg (by omega), if_pos (by omega)]
    show (ns.map V.str)[(((0 : Nat) : Int) - 1 + (ns.length : Nat)).toNat]? = _
    rw [show (((0 : Nat) : Int) - 1 + (ns.length : Nat)).toNat = ns.length - 1 by omega, List.getElem?_map, List.getElem?_eq_getElem (by omega), List.getD_eq_getElem?_getD, List.getElem?_eq_getElem (by omega)]
    rfl
  · have e : (k + ns.length - 1) % ns.length = k - 1 := by
      rw [show k + ns.length - 1 = (k - 1) + ns.length by omega, Nat.add_mod_right]
      exact Nat.mod_eq_of_lt (by omega)
    rw [e, show (k : Int) - 1 = ((k - 1 : Nat) : Int) by omega]
    refine atI_nat ?_
    rw [List.getElem?_map, List.getElem?_eq_getElem (by omega), List.getD_eq_getElem?_getD, List.getElem?_eq_getElem (by omega)]
    rfl
theorem row_any {A : List Row} (a b : Str) : ((A.map rowD).any fun z => PyData.eqv z (.tuple [.str a, .str b])) = decide ((a, b) ∈ A) := by
  rw [List.any_map]
  induction A with
  | nil => rfl
  | cons r A ih =>
    obtain ⟨x, y⟩ := r
    have e : PyData.eqv (rowD (x, y)) (.tuple [.str a, .str b]) = decide ((a, b) = (x, y)) := by
      unfold rowD
      simp only [PyData.eqv, PyData.eqvAll, Bool.and_true]
      by_cases q1 : x = a
      · by_cases q2 : y = b
        · subst q1 q2
          simp
        · have : ¬ (a, b) = (x, y) := fun z => q2 (Prod.mk.inj z).2.symm
          rw [decide_eq_false this]
          simp [q2]
      · have : ¬ (a, b) = (x, y) := fun z => q1 (Prod.mk.inj z).1.symm
        rw [decide_eq_false this]
        simp [q1]
    rw [List.any_cons, ih]
    show (PyData.eqv (rowD (x, y)) (.tuple [.str a, .str b]) || _) = _
    rw [e]
    by_cases q : (a, b) ∈ A
    · rw [decide_eq_true q, Bool.or_true, decide_eq_true (List.mem_cons_of_mem _ q)]
    · rw [decide_eq_false q, Bool.or_false, decide_eq_decide]
      exact ⟨fun z => z ▸ List.mem_cons_self, fun z => (List.mem_cons.mp z).resolve_right q⟩
theorem sl_tx {K : PySem.W.Frag} {H : Hp} {t : Addr} {S L : List Str} {lo hi : Option Int} {Q : VK} (ht : TxR H t S) (hL : cutV (S.map V.str) lo hi = L.map V.str) (k : ∀ u H', Same H H' → TxR H' u L → Q (.ref u) H') : rSlA K (.ref t) lo hi H Q := by
  refine ⟨t, S.map V.str, rfl, .inl ht, fun h => k t H (.refl _) ?_, fun _ u nu => k u _ (same_upd nu) (.inl ?_)⟩
  · have e : cutV (S.map V.str) lo hi = S.map V.str := by
      unfold cutV
      rw [h.1, h.2, List.drop_zero, Nat.sub_zero, List.take_length]
    unfold TxR
    rw [← hL, e]
    exact ht
  · rw [upd_same, hL]
theorem cat_tx {K : PySem.W.Frag} {H : Hp} {t u : Addr} {S L : List Str} {Q : VK} (ht : TxR H t S) (hu : TxR H u L) (hz : S.length + L.length ≤ 1000) (k : ∀ u H', Same H H' → TxR H' u (S ++ L) → Q (.ref u) H') : rCatA K (.ref t) (.ref u) H Q := by
  have z40 : 40000 ≤ sizeLine := by rw [sizeLine_eq]; omega
  refine ⟨t, u, S.map V.str, L.map V.str, rfl, rfl, .inl ht, .inl hu, by rw [List.length_map, List.length_map]; omega, fun h => k u H (.refl _) ?_, fun _ h => k t H (.refl _) ?_, fun _ _ z nz => k z _ (same_upd nz) (.inl ?_)⟩
  · rw [List.map_eq_nil_iff.mp h, List.nil_append]
    exact hu
  · rw [List.map_eq_nil_iff.mp h, List.append_nil]
    exact ht
  · rw [upd_same, List.map_append]
abbrev scDeepN_N : List Str := ["rights", "names", "rows", "place", "name"]
abbrev scDeepN_S : Stmt := sDeepestN
theorem scDeepN : FnScope scDeepN_N ["rights", "names"] (defScope sDeepestN) := ⟨rfl, rfl, rfl, by decide +kernel, rfl, by decide +kernel, by decide +kernel⟩
def spDeepN (Cg Cr : Addr) : Sp := fun vs H Q _ => ∃ (p q t : Addr) (S : List Str) (AR : List (Addr × Row)) (BR : List (Addr × RRow)), vs = [.ref p, .ref t] ∧ RigOk Cg Cr H p q AR BR ∧ TxR H t S ∧ 1 ≤ S.length ∧ S.length ≤ 40 ∧ (∀ x ∈ S, x ∈ rnm (bOf BR)) ∧ ∀ H' k, Same H H' → Deepest (rowsOf AR) (bOf BR) S k → Q (.int (k : Nat)) H'
abbrev scOnce_N : List Str := ["rights", "names", "ahead", "place", "before", "behind"]
abbrev scOnce_S : Stmt := sShrunkOnce
theorem scOnce : FnScope scOnce_N ["rights", "names", "ahead"] (defScope sShrunkOnce) := ⟨rfl, rfl, rfl, by decide +kernel, rfl, by decide +kernel, by decide +kernel⟩
def spOnce (Cg Cr : Addr) : Sp := fun vs H Q _ => ∃ (p q t l : Addr) (S : List Str) (AP AR : List (Addr × Row)) (BR : List (Addr × RRow)), vs = [.ref p, .ref t, .ref l] ∧ RigOk Cg Cr H p q AR BR ∧ TxR H t S ∧ 1 ≤ S.length ∧ S.length ≤ 40 ∧ (∀ x ∈ S, x ∈ rnm (bOf BR)) ∧ RowsAt H l AP ∧ (∀ r ∈ rowsOf AP, Plain r.1 ∧ Plain r.2) ∧
  ∀ H' u, Same H H' → TxR H' u (stepS (rowsOf AP) (rowsOf AR) (bOf BR) S) → Q (.ref u) H'
theorem at_last (xs : List V) (v : V) : atI (xs ++ [v]) (-1) = some v := by
  unfold atI ixN
  rw [List.length_append, if_neg (by omega), if_pos (by show -(((xs.length + 1 : Nat)) : Int) ≤ -1; omega)]
  show (xs ++ [v])[((-1 : Int) + ((xs.length + 1 : Nat) : Int)).toNat]? = _
  rw [show ((-1 : Int) + ((xs.length + 1 : Nat) : Int)).toNat = xs.length by omega, List.getElem?_append_right (Nat.le_refl _), Nat.sub_self]
  rfl
/-- a list of tuples of texts -/
structure TupsL (H : Hp) (l : Addr) (Ss : List (List Str)) : Prop where
  ex : ∃ ts : List Addr, H l = some (.lst (ts.map V.ref)) ∧ ts.length = Ss.length ∧ ∀ (i : Nat) (t : Addr) (S : List Str), ts[i]? = some t → Ss[i]? = some S → TxR H t S
theorem TupsL.same {H H' : Hp} {l : Addr} {Ss : List (List Str)} (h : TupsL H l Ss) (s : Same H H') : TupsL H' l Ss := by
  obtain ⟨ts, h1, h2, h3⟩ := h.ex
  exact ⟨ts, s _ _ h1, h2, fun i t S a b => (h3 i t S a b).same s⟩
theorem TupsL.last {H : Hp} {l : Addr} {Ss : List (List Str)} {S : List Str} (h : TupsL H l (Ss ++ [S])) : ∃ (ini : List Addr) (t : Addr), H l = some (.lst (ini.map V.ref ++ [.ref t])) ∧ TxR H t S ∧ ini.length = Ss.length := by
  obtain ⟨ts, h1, h2, h3⟩ := h.ex
  rw [List.length_append] at h2
  have h2 : ts.length = Ss.length + 1 := h2
  rcases List.eq_nil_or_concat ts with e | ⟨ini, t, e⟩
  · rw [e] at h2
    cases h2
  · rw [List.concat_eq_append] at e
    subst e
    rw [List.length_append] at h2
    have h2 : ini.length = Ss.length := Nat.succ.inj h2
    refine ⟨ini, t, by rw [h1, List.map_append]; rfl, h3 Ss.length t S ?_ ?_, h2⟩
    · rw [← h2, List.getElem?_append_right (Nat.le_refl _), Nat.sub_self]
      rfl
    · rw [List.getElem?_append_right (Nat.le_refl _), Nat.sub_self]
      rfl
theorem TupsL.snoc {H : Hp} {l v : Addr} {Ss : List (List Str)} {S : List Str} (h : TupsL H l Ss) (hv : TxR H v S) : ∃ acc, H l = some (.lst acc) ∧ acc.length = Ss.length ∧ TupsL (upd H l (.lst (acc ++ [.ref v]))) l (Ss ++ [S]) := by
  obtain ⟨ts, h1, h2, h3⟩ := h.ex
  have nl : ∀ {a : Addr} {L : List Str}, TxR H a L → TxR (upd H l (.lst (ts.map V.ref ++ [.ref v]))) a L := fun {a L} h => by
    rcases h with e | ⟨o, e⟩
    · exact .inl ((upd_ne (ne_of e h1 (fun z => by cases z))).trans e)
    · exact .inr ⟨o, (upd_ne (ne_of e h1 (fun z => by cases z))).trans e⟩
  refine ⟨_, h1, by rw [List.length_map]; exact h2, ts ++ [v], by rw [upd_same, List.map_append]; rfl, by rw [List.length_append, List.length_append, h2]; rfl, fun i a L e1 e2 => ?_⟩
  rcases Nat.lt_or_ge i ts.length with q | q
  · rw [List.getElem?_append_left q] at e1
    rw [List.getElem?_append_left (by omega)] at e2
    exact nl (h3 i a L e1 e2)
  · rw [List.getElem?_append_right q] at e1
    rw [List.getElem?_append_right (by omega)] at e2
    have : i - ts.length = 0 := by
      have := (List.getElem?_eq_some_iff.mp e1).1
      rw [List.length_singleton] at this
      omega
    rw [this] at e1
    rw [show i - Ss.length = 0 by omega] at e2
    cases e1
    cases e2
    exact nl hv
/-- the rounds, at most so many more -/
noncomputable def roundsS (A R : List Row) (B : List RRow) : Nat → List Str → List (List Str)
  | 0, S => [S]
  | n + 1, S => if 3 < S.length then S :: roundsS A R B n (stepS A R B S) else [S]
abbrev scShrunk_N : List Str := ["rights", "names", "ahead", "rounds"]
abbrev scShrunk_S : Stmt := sShrunk
theorem scShrunk : FnScope scShrunk_N ["rights", "names", "ahead"] (defScope sShrunk) := ⟨rfl, rfl, rfl, by decide +kernel, rfl, by decide +kernel, by decide +kernel⟩
/-- what is so of each round -/
structure RdOk (R : List Row) (B : List RRow) (S : List Str) : Prop where
  one : 1 ≤ S.length
  most : S.length ≤ 40
  mem : ∀ x ∈ S, x ∈ rnm B
  nd : S.Nodup
def spShrunk (Cg Cr : Addr) : Sp := fun vs H Q _ => ∃ (p q t l : Addr) (S : List Str) (AP AR : List (Addr × Row)) (BR : List (Addr × RRow)), vs = [.ref p, .ref t, .ref l] ∧ RigOk Cg Cr H p q AR BR ∧ TxR H t S ∧ RdOk (rowsOf AR) (bOf BR) S ∧ RowsAt H l AP ∧ (∀ r ∈ rowsOf AP, Plain r.1 ∧ Plain r.2) ∧
  (∀ S', RdOk (rowsOf AR) (bOf BR) S' → 3 < S'.length → RdOk (rowsOf AR) (bOf BR) (stepS (rowsOf AP) (rowsOf AR) (bOf BR) S') ∧ (stepS (rowsOf AP) (rowsOf AR) (bOf BR) S').length < S'.length) ∧
  ∀ H' u, Same H H' → H u = none → TupsL H' u (roundsS (rowsOf AP) (rowsOf AR) (bOf BR) S.length S) → Q (.ref u) H'
section
variable {P : Program} {w : World} {K : PySem.W.Frag} {mg : Str → Option Value} {base : Heap} {tS tM tL : Tok}
theorem ok_deepN {f Cg Cr : Addr} {fd : FuncData} (F : FnP K "_deepest" sDeepestN f fd) (M : Gk K Cg Cr) (D : NdG P w K mg base Cg Cr) (DW : NdS P w K mg base Cr) (TG : Rg K mg Cg) (T : Rv K mg Cr) (B : Bl mg) : FnOk P w K mg base CX0 5 f fd ["rights", "names"] (spDeepN Cg Cr) := by
  obtain ⟨a1, d1, Flast, Mlast⟩ := M.last
  obtain ⟨a2, d2, Fdepth, Mdepth⟩ := M.depth
  obtain ⟨a3, d3, Fcourse, Mcourse⟩ := M.course
  have Glast : FnOk P w K mg base CX0 3 a1 d1 ["self", "name"] (spLastG Cg Cr) := ok_lastG Flast D TG
  have blast : Binds K d1 ["self", "name"] [] := Flast.bindsN fun _ _ _ _ _ _ us hl => match us, hl with | [_, _], _ => rfl
  have Gdepth : FnOk P w K mg base CX0 4 a2 d2 ["self", "weir"] (spDepthS Cr) := ok_depthS Fdepth Fcourse Mcourse DW T B
  have bdepth : Binds K d2 ["self", "weir"] [] := Fdepth.bindsN fun _ _ _ _ _ _ us hl => match us, hl with | [_, _], _ => rfl
  refine F.ok scDeepN (fun vs H Q E h => ?_) (fun cdv A outer s H vs Q E hr h => ?_)
  · obtain ⟨p, q, t, S, AR, BR, rfl, _⟩ := h
    rfl
  · obtain ⟨p, q, t, S, AR, BR, rfl, R, ht, hS1, hS2, hSm, k⟩ := h
    have hrlast : Room 3 _ := hr.mono (by decide)
    have hrdepth : Room 4 _ := hr
    have hu64 := hr.units
    refine ⟨_, PSs.nox (pss_cons
      (ps_setLc (i := 2) (own := [("place", 3), ("name", 4)])  (tt := tYes) (by rfl) scDeepN.nd rfl rfl (sw_true rfl rfl rfl (by decide +kernel)) (pi_enumT (by rfl) B.enumerate (pa_cons (pv 1) pa_nil)) (blkOk_by (own := [("place", 3), ("name", 4)]) (N := scDeepN_N) (sc := defScope scDeepN_S) (by decide +kernel)) (fun _ _ _ _ _ => (tgK (K := K) (n := 2) (by rfl) (pgs_cons (pg_name (i := 3) scDeepN.nd rfl (Or.inl rfl)) (pgs_cons (pg_name (i := 4) scDeepN.nd rfl (Or.inl rfl)) pgs_nil)))) (fun _ _ _ _ _ => pts_nil) (fun _ _ _ _ _ => (pe_tup (pa_cons (pe_un un_neg (pe_meth (fldK (K := K) (pv 0) rfl) T.cl Mdepth Gdepth hrdepth bdepth .nil pass0 (pa_cons (pe_meth (pv 0) TG.cl Mlast Glast hrlast blast .nil pass0 (pa_cons (pv 4) pa_nil)) pa_nil))) (pa_cons (pe_tidx (K := K) (fldK (K := K) (pv 0) rfl) (pa_cons (pv 4) pa_nil)) (pa_cons (pv 3) pa_nil))))))
      (pss_one
      (ps_ret (pe_ix (ixTK (K := K)) (pe_callB (call_minT rfl hu64) (by rfl) B.min (by decide +kernel) (pa_cons (pv 2) pa_nil)) pe_int (fun _ _ => rfl))))), ?_⟩
    obtain ⟨dx, tn, tr, dw, dl, dp, h1, h2, h3, _⟩ := id R.at_.ex
    refine ⟨_, rfl, t, S.map V.str, rfl, .inl ht, fun D0 hD => ?_⟩
    refine lc_itP (walk_enumT (K := K) (a := t) (xs := S.map V.str)) (fun i => [.int (keyD (rowsOf AR) (bOf BR) S i).1, .int (keyD (rowsOf AR) (bOf BR) S i).2.1, .int (keyD (rowsOf AR) (bOf BR) S i).2.2]) hD (by rw [List.length_map]; omega) (fun H2 s => .inl (ht.same s)) ?_ ?_
    · intro i x H2 H3 Nx hi s2 hDn put hy
      rw [List.length_map] at hi
      obtain ⟨t0, x1, x2, rfl, nt0, rfl, e1, e2⟩ := hy
      cases e1
      have e2 : (S.map V.str)[i]? = some x2 := e2
      rw [List.getElem?_map] at e2
      obtain ⟨n, hn, rfl⟩ := Option.map_eq_some_iff.mp e2
      have hnm : n ∈ rnm (bOf BR) := hSm n (List.mem_of_getElem? hn)
      have en : S.getD i "" = n := by rw [List.getD_eq_getElem?_getD, hn]; rfl
      have s3 : Same H2 (upd H2 t0 (.tup [.int (i : Nat), .str n])) := same_upd nt0
      refine ⟨t0, _, rfl, .inl (.inl upd_same), rfl, _, _, rfl, _, _, rfl, rfl, rfl, ?_⟩
      unfold tYes
      refine iteT ?_
      generalize upd H2 t0 (.tup [.int (i : Nat), .str n]) = H4 at s3
      have s4 := s2.trans s3
      have R2 := R.same s4
      have hrv := Same.riv s4 h2
      obtain ⟨dx2, tw, tr2, db, dc, da, du, o, i1, _⟩ := id hrv.ex
      obtain ⟨on, pn, fn⟩ := h3.same s4
      refine ⟨_, rfl, p, Cg, dx, _, _, rfl, s4 _ _ h1, TG.cl, TG.river, rr6r _ _ _ _ _ _, q, dx2, _, rfl, i1, g7no _ _ _ _ _ _ _ (by decide +kernel) (by decide +kernel) (by decide +kernel) (by decide +kernel) (by decide +kernel) (by decide +kernel) (by decide +kernel), ?_⟩
      refine ⟨_, rfl, p, dx, _, rfl, s4 _ _ h1, rr6no _ _ _ _ _ _ (by decide +kernel), _, rfl, p, q, n, AR, BR, rfl, R2, hnm, ?_⟩
      refine ⟨q, lastW (wyN AR BR n), AR, rfl, hrv, (last_in R.g R.b hnm).2, _, rfl, ?_⟩
      refine ⟨_, rfl, p, Cg, dx, _, _, rfl, s4 _ _ h1, TG.cl, TG.names, rr6n _ _ _ _ _ _, ⟨tn, on, _, rfl, fn, pn⟩, _, rfl, tn, rnm (bOf BR), n, _, rfl, rfl, .inl (h3.same s4).rd, hat_idx hnm, fst_idx, ?_⟩
      refine ⟨_, rfl, by show 3 ≤ sizeLine; decide, fun u nu => ?_⟩
      refine put u _ (s3.trans (same_upd nu)) ?_
      unfold keyD
      rw [en, upd_same]
      rfl
    intro H2 s2 hT
    rw [List.length_map] at hT
    obtain ⟨ts, z1, z2, z3⟩ := hT.ex
    have hx : ∀ {i : Nat} {x : T3}, ((List.range S.length).map (keyD (rowsOf AR) (bOf BR) S))[i]? = some x → x = keyD (rowsOf AR) (bOf BR) S i := fun {i x} h => by
      rw [List.getElem?_map] at h
      obtain ⟨j, hj, rfl⟩ := Option.map_eq_some_iff.mp h
      obtain ⟨h5, h6⟩ := List.getElem?_eq_some_iff.mp hj
      rw [List.getElem_range] at h6
      rw [h6]
    refine ⟨_, rfl, D0, ts, (List.range S.length).map (keyD (rowsOf AR) (bOf BR) S), rfl, .inl (.inl z1), by rw [List.length_map, List.length_range]; exact z2, by omega, fun i u x hu hx2 => ?_, fun i u x hu hx2 hb => ?_⟩
    · rw [hx hx2]
      exact z3 i u hu
    · have ex := hx hx2
      subst ex
      refine ⟨u, _, _, _, rfl, rfl, .inl (.inl (z3 i u hu)), atI_nat (j := 2) rfl, ?_⟩
      have hi : i < S.length := by
        rw [← z2]
        exact (List.getElem?_eq_some_iff.mp hu).1
      exact k H2 i s2 ⟨hi, fun j hj => hb _ (List.mem_map.mpr ⟨j, List.mem_range.mpr hj, rfl⟩)⟩
theorem ok_once {f fE Cg Cr : Addr} {fd fdE : FuncData} (F : FnP K "_shrunk_once" sShrunkOnce f fd) (F_deepest : FnP K "_deepest" sDeepestN fE fdE) (g_deepest : mg "_deepest" = some (.ref fE)) (M : Gk K Cg Cr) (D : NdG P w K mg base Cg Cr) (DW : NdS P w K mg base Cr) (TG : Rg K mg Cg) (T : Rv K mg Cr) (B : Bl mg) : FnOk P w K mg base CX0 6 f fd ["rights", "names", "ahead"] (spOnce Cg Cr) := by
  have G_deepest : FnOk P w K mg base CX0 5 fE fdE ["rights", "names"] (spDeepN Cg Cr) := ok_deepN F_deepest M D DW TG T B
  have b_deepest : Binds K fdE ["rights", "names"] [] := F_deepest.bindsN fun _ _ _ _ _ _ us hl => match us, hl with | [_, _], _ => rfl
  refine F.ok scOnce (fun vs H Q E h => ?_) (fun cdv A outer s H vs Q E hr h => ?_)
  · obtain ⟨p, q, t, l, S, AP, AR, BR, rfl, _⟩ := h
    rfl
  · obtain ⟨p, q, t, l, S, AP, AR, BR, rfl, R, ht, hS1, hS2, hSm, hA, hAp, k⟩ := h
    have hr_deepest : Room 5 _ := hr
    have hu65 : (A.deeper (envOfC (Str.ofString "_shrunk_once") (defScope sShrunkOnce) s.heap.objs.size f cdv)).units + 65 < cLine := by
      have := hr.un
      omega
    refine ⟨_, PSs.nox (pss_cons
      (ps_set (i := 3) scOnce.nd rfl (Or.inl rfl) (pe_call G_deepest hr_deepest (by rfl) g_deepest F_deepest.kp b_deepest .nil pass0 (pa_cons (pv 0) (pa_cons (pv 1) pa_nil))))
      (pss_cons
      (ps_set (i := 4) scOnce.nd rfl (Or.inl rfl) (pe_ix (ixTK (K := K)) (pv 1) (pe_op op_sub (pv 3) pe_int) (fun _ _ => rfl)))
      (pss_cons
      (ps_set (i := 5) scOnce.nd rfl (Or.inl rfl) (pe_ix (ixTK (K := K)) (pv 1) (pe_op op_add (pe_op op_sub (pv 3) (pe_callB (lenK (K := K)) (by rfl) B.len PySem.boot_len (pa_cons (pv 1) pa_nil))) pe_int) (fun _ _ => rfl)))
      (pss_cons
      (ps_if (pt_cmpR (op_inD hu65) (pe_tup (pa_cons (pv 4) (pa_cons (pv 5) pa_nil))) (pv 2) (by rfl)) (pss_one
      (ps_ret (pe_op op_catA (pe_slice (sl_tupAK (K := K)) (pv 1) po_none (po_some (pv 3))) (pe_slice (sl_tupAK (K := K)) (pv 1) (po_some (pe_op op_add (pv 3) pe_int)) po_none)))) pss_nil)
      (pss_one
      (ps_ret (pe_tup (pa_cons (pv 4) (pa_cons (pe_ix (ixTK (K := K)) (pv 1) (pv 3) (fun _ _ => rfl)) (pa_cons (pv 5) pa_nil)))))))))), ?_⟩
    have hSp : ∀ x ∈ S, Plain x := fun x hx => name_pl R.b (hSm x hx)
    refine ⟨_, rfl, _, rfl, p, q, t, S, AR, BR, rfl, R, ht, hS1, hS2, hSm, fun H1 kk s1 hk => ?_⟩
    have hk1 := hk.1
    have ht1 := ht.same s1
    have ek := kOf_eq hk
    refine ⟨_, rfl, _, rfl, _, _, rfl, rfl, t, _, _, _, rfl, rfl, .inl ht1, prev_at hk1, ?_⟩
    refine ⟨_, rfl, _, rfl, _, rfl, t, _, rfl, .inr (.inl ht1), _, _, rfl, rfl, _, _, rfl, rfl, t, _, _, _, rfl, rfl, .inl ht1, by rw [List.length_map]; exact next_at hk1, ?_⟩
    have eS : stepS (rowsOf AP) (rowsOf AR) (bOf BR) S = if (prevS S kk, nextS S kk) ∈ rowsOf AP then S.take kk ++ S.drop (kk + 1) else [prevS S kk, S.getD kk "", nextS S kk] := by unfold stepS; rw [ek]
    rw [eS] at k
    have getm : ∀ {j : Nat}, j < S.length → S.getD j "" ∈ S := fun {j} hj => by
      rw [List.getD_eq_getElem?_getD, List.getElem?_eq_getElem hj]
      exact List.getElem_mem hj
    have pP : Plain (prevS S kk) := hSp _ (getm (Nat.mod_lt _ (by omega)))
    have pN : Plain (nextS S kk) := hSp _ (getm (Nat.mod_lt _ (by omega)))
    have eN : S.getD ((kk + 1) % S.length) "" = nextS S kk := rfl
    rw [eN]
    generalize prevS S kk = pv0 at k pP
    generalize nextS S kk = nx0 at k pN
    refine ⟨_, rfl, _, rfl, by show 2 ≤ sizeLine; decide, fun t2 nt2 => ?_⟩
    have s2 : Same H1 (upd H1 t2 (.tup [.str pv0, .str nx0])) := same_upd nt2
    have ht2 : (upd H1 t2 (.tup [.str pv0, .str nx0])) t2 = some (.tup [.str pv0, .str nx0]) := upd_same
    generalize upd H1 t2 (.tup [.str pv0, .str nx0]) = H2 at s2 ht2
    have s02 := s1.trans s2
    have hA2 := hA.same s02
    have shp : SeqAt.shaped (.tuple [.str pv0, .str nx0]) = true := shaped_tup (l := [pv0, nx0]) fun y hy => by
      rcases List.mem_cons.mp hy with e | e
      · rw [e]; exact pP
      · rw [List.mem_singleton.mp e]; exact pN
    refine ⟨_, rfl, _, _, .tup (.inl (.inl ht2)) (.cons (.str _) (.cons (.str _) .nil)), .lst (.inl (.inl hA2.lst)) (dp_rows hA2.tup), shp, shaped_rows hAp, _, rfl, ?_⟩
    rw [row_any]
    refine ite2 (fun h => ?_) (fun h => ?_)
    · have h : (pv0, nx0) ∈ rowsOf AP := of_decide_eq_true h
      rw [if_pos h] at k
      refine ⟨_, rfl, _, rfl, _, rfl, ?_⟩
      refine sl_tx (ht.same s02) (L := S.take kk) (by rw [cut_take, List.map_take]) fun u1 H3 s3 hu1 => ?_
      refine ⟨_, rfl, _, rfl, _, _, rfl, rfl, _, rfl, ?_⟩
      show rSlA K (V.ref t) (some ((kk : Int) + 1)) none H3 (fun y H2 => rCatA K (V.ref u1) y H2 Q)
      refine sl_tx (lo := some ((kk : Int) + 1)) (hi := none) (ht.same (s02.trans s3)) (L := S.drop (kk + 1)) (by rw [show ((kk : Int) + 1) = ((kk + 1 : Nat) : Int) by omega, cut_drop, List.map_drop]) fun u2 H4 s4 hu2 => ?_
      exact cat_tx (hu1.same s4) hu2 (by rw [List.length_take, List.length_drop]; omega) fun u3 H5 s5 hu3 => k H5 u3 (((s02.trans s3).trans s4).trans s5) hu3
    · have h : ¬ (pv0, nx0) ∈ rowsOf AP := fun z => h (decide_eq_true z)
      rw [if_neg h] at k
      refine ⟨_, rfl, _, rfl, _, rfl, t, _, _, _, rfl, rfl, .inl (ht.same s02), atI_nat (j := kk) (v := V.str (S.getD kk "")) (by rw [List.getElem?_map, List.getElem?_eq_getElem hk1, List.getD_eq_getElem?_getD, List.getElem?_eq_getElem hk1]; rfl), _, rfl, by show 3 ≤ sizeLine; decide, fun u nu => ?_⟩
      exact k _ u (s02.trans (same_upd nu)) (.inl upd_same)
theorem ok_shrunk {f fO fE fN Cg Cr : Addr} {fd fdO fdE fdN : FuncData} (F : FnP K "shrunk" sShrunk f fd) (F_shrunk_once : FnP K "_shrunk_once" sShrunkOnce fO fdO) (g_shrunk_once : mg "_shrunk_once" = some (.ref fO)) (F_deepest : FnP K "_deepest" sDeepestN fE fdE) (g_deepest : mg "_deepest" = some (.ref fE)) (Fneed_different : FnP K "need_different" sNeedDiff fN fdN) (gneed_different : mg "need_different" = some (.ref fN))
    (GM : Gm K Cg) (M : Gk K Cg Cr) (D : NdG P w K mg base Cg Cr) (DW : NdS P w K mg base Cr) (TG : Rg K mg Cg) (T : Rv K mg Cr) (B : Bl mg) : FnOk P w K mg base CX0 7 f fd ["rights", "names", "ahead"] (spShrunk Cg Cr) := by
  have G_shrunk_once : FnOk P w K mg base CX0 6 fO fdO ["rights", "names", "ahead"] (spOnce Cg Cr) := ok_once F_shrunk_once F_deepest g_deepest M D DW TG T B
  have b_shrunk_once : Binds K fdO ["rights", "names", "ahead"] [] := F_shrunk_once.bindsN fun _ _ _ _ _ _ us hl => match us, hl with | [_, _, _], _ => rfl
  have Gneed_different : FnOk P w K mg base CX0 2 fN fdN ["rights", "names"] (spNeedDiff Cg Cr) := ok_needdiff Fneed_different GM TG B
  have bneed_different : Binds K fdN ["rights", "names"] [] := Fneed_different.bindsN fun _ _ _ _ _ _ us hl => match us, hl with | [_, _], _ => rfl
  refine F.ok scShrunk (fun vs H Q E h => ?_) (fun cdv A outer s H vs Q E hr h => ?_)
  · obtain ⟨p, q, t, l, S, AP, AR, BR, rfl, _⟩ := h
    rfl
  · obtain ⟨p, q, t, l, S, AP, AR, BR, rfl, R, ht, hS, hA, hAp, hst, k⟩ := h
    have hr_shrunk_once : Room 6 _ := hr
    have hrneed_different : Room 2 _ := hr.mono (by decide)
    refine ⟨_, PSs.nox (pss_cons
      (ps_expr (pe_call Gneed_different hrneed_different (by rfl) gneed_different Fneed_different.kp bneed_different .nil pass0 (pa_cons (pv 0) (pa_cons (pv 1) pa_nil))))
      (pss_cons
      (ps_set (i := 3) scShrunk.nd rfl (Or.inl rfl) (pe_lst (pa_cons (pv 1) pa_nil)))
      (pss_cons
      (ps_while PassesOwn.never (pt_cmpR op_gt (pe_callB (lenK (K := K)) (by rfl) B.len PySem.boot_len (pa_cons (pe_ix (ixLK (K := K)) (pv 3) (pe_un un_neg pe_int) (fun _ _ => rfl)) pa_nil)) pe_int (nomark _)) (pss_one
      (ps_expr (pe_bm PySem.F.plainAttrs_list PySem.F.slot_list_append PySem.F.type_list_append mt_append (pv 3) (pa_cons (pe_call G_shrunk_once hr_shrunk_once (by rfl) g_shrunk_once F_shrunk_once.kp b_shrunk_once .nil pass0 (pa_cons (pv 0) (pa_cons (pe_ix (ixLK (K := K)) (pv 3) (pe_un un_neg pe_int) (fun _ _ => rfl)) (pa_cons (pv 2) pa_nil)))) pa_nil)))))
      (pss_one
      (ps_ret (pv 3)))))), ?_⟩
    refine ⟨_, rfl, _, rfl, p, q, t, S, AR, BR, rfl, R, ht, hS.mem, hS.nd, hS.most, fun H1 s1 => ?_⟩
    refine ⟨_, rfl, by show 1 ≤ sizeLine; decide, fun u nu => ?_⟩
    have nuH : H u = none := by
      cases e : H u with
      | none => rfl
      | some o => rw [s1 _ _ e] at nu; cases nu
    have s2 : Same H1 (upd H1 u (.lst [.ref t])) := same_upd nu
    have hu2 : (upd H1 u (.lst [.ref t])) u = some (.lst [.ref t]) := upd_same
    generalize upd H1 u (.lst [.ref t]) = H2 at s2 hu2
    have s02 := s1.trans s2
    have hT2 : TupsL H2 u ([] ++ [S]) := ⟨[t], hu2, rfl, fun i a L e1 e2 => by
      cases i with
      | zero =>
        cases e1
        cases e2
        exact ht.same s02
      | succ i => simp at e1⟩
    have hSl := hS.most
    refine ⟨fun m σ H3 => ∃ (Ss : List (List Str)) (Sl : List Str), σ = [some (.ref p), some (.ref t), some (.ref l), some (.ref u)] ∧ Same H H3 ∧ TupsL H3 u (Ss ++ [Sl]) ∧ RdOk (rowsOf AR) (bOf BR) Sl ∧ roundsS (rowsOf AP) (rowsOf AR) (bOf BR) S.length S = Ss ++ roundsS (rowsOf AP) (rowsOf AR) (bOf BR) m Sl ∧ Sl.length ≤ m ∧ Ss.length + m = S.length,
      ⟨S.length, [], S, rfl, s02, hT2, hS, rfl, Nat.le_refl _, by simp⟩, ?_⟩
    rintro m σ H3 ⟨Ss, Sl, rfl, s3, hT, hR, eR, hm, hlen⟩
    obtain ⟨ini, tl, z1, z2, z3⟩ := hT.last
    refine ⟨_, rfl, _, rfl, u, _, _, _, rfl, rfl, .inl (.inl z1), at_last _ _, tl, _, rfl, .inr (.inl z2), _, _, rfl, rfl, _, rfl, ?_⟩
    rw [List.length_map]
    refine ite2 (fun h => ?_) (fun h => ?_)
    · have h : 3 < Sl.length := by
        have := of_decide_eq_true h
        omega
      obtain ⟨n, rfl⟩ : ∃ n, m = n + 1 := ⟨m - 1, by omega⟩
      refine ⟨fun σ' H' => ∃ Ss' Sl', σ' = [some (.ref p), some (.ref t), some (.ref l), some (.ref u)] ∧ Same H H' ∧ TupsL H' u (Ss' ++ [Sl']) ∧ RdOk (rowsOf AR) (bOf BR) Sl' ∧ roundsS (rowsOf AP) (rowsOf AR) (bOf BR) S.length S = Ss' ++ roundsS (rowsOf AP) (rowsOf AR) (bOf BR) n Sl' ∧ Sl'.length ≤ n ∧ Ss'.length + n = S.length,
        fun σ' H' ⟨a, b, c⟩ => ⟨n, Nat.lt_succ_self _, a, b, c⟩, ?_⟩
      obtain ⟨g1, g2⟩ := hst Sl hR h
      refine ⟨_, rfl, .inl ⟨rfl, _, .inl (.inl z1)⟩, _, rfl, _, rfl, _, rfl, u, _, _, _, rfl, rfl, .inl (.inl z1), at_last _ _, _, rfl, p, q, tl, l, Sl, AP, AR, BR, rfl, R.same s3, z2, hR.one, hR.most, hR.mem, hA.same s3, hAp, fun H4 v s4 hv => ?_⟩
      obtain ⟨acc, y1, y2, y3⟩ := (hT.same s4).snoc hv
      refine ⟨u, _, _, rfl, rfl, y1, by rw [y2, List.length_append]; exact small1000 (by show Ss.length + 1 ≤ _; omega), ?_⟩
      refine ⟨_, _, rfl, fun b o e => ?_, y3, g1, ?_, by omega, by rw [List.length_append]; show Ss.length + 1 + n = _; omega⟩
      · rw [upd_ne (ne_of_none e nuH)]
        exact s4 _ _ (s3 _ _ e)
      · rw [eR]
        show Ss ++ (if 3 < Sl.length then Sl :: _ else [Sl]) = _
        rw [if_pos h, List.append_assoc]
        rfl
    · have h : ¬ 3 < Sl.length := fun z => h (decide_eq_true (by omega))
      refine ⟨_, rfl, k H3 u s3 nuH ?_⟩
      rw [eR]
      have e : roundsS (rowsOf AP) (rowsOf AR) (bOf BR) m Sl = [Sl] := by
        cases m with
        | zero => rfl
        | succ m => exact if_neg h
      rw [e]
      exact hT
end
end K0
end
section
set_option Elab.async false
set_option linter.all false
set_option maxRecDepth 100000
namespace K0
open PySem PySem.Spec PyProof.Rows L2 MN
/-! ### rounds -/
def Cyc (m : Str → Str → Prop) (L : List Str) : Prop := ∀ k, k < L.length → m (L.getD k "") (L.getD ((k + 1) % L.length) "")
theorem getD_at {L : List Str} {k : Nat} (h : k < L.length) : L.getD k "" = L[k] := by
  rw [List.getD_eq_getElem?_getD, List.getElem?_eq_getElem h]
  rfl
theorem getD_mem {L : List Str} {k : Nat} (h : k < L.length) : L.getD k "" ∈ L := by
  rw [getD_at h]
  exact List.getElem_mem h
theorem getD_inj {L : List Str} (hd : L.Nodup) {i j : Nat} (hi : i < L.length) (hj : j < L.length) (e : L.getD i "" = L.getD j "") : i = j := by
  rw [getD_at hi, getD_at hj] at e
  rcases Nat.lt_trichotomy i j with h | h | h
  · exact absurd e (List.pairwise_iff_getElem.mp hd i j hi hj h)
  · exact h
  · exact absurd e.symm (List.pairwise_iff_getElem.mp hd j i hj hi h)
theorem goes_iff {A : List Row} {L : List Str} : goesL A L = true ↔ 3 ≤ L.length ∧ L.Nodup ∧ Cyc (fun x y => (x, y) ∈ A) L := by
  unfold goesL allB
  rw [Bool.and_eq_true, Bool.and_eq_true, decide_eq_true_eq, decide_eq_true_eq, List.all_eq_true]
  constructor
  · rintro ⟨a, b, c⟩
    exact ⟨a, b, fun k hk => of_decide_eq_true (c k (List.mem_range.mpr hk))⟩
  · rintro ⟨a, b, c⟩
    exact ⟨a, b, fun k hk => decide_eq_true (c k (List.mem_range.mp hk))⟩
theorem ins_get {L : List Str} {k : Nat} {x : Str} (hk : k ≤ L.length) (j : Nat) : (L.take k ++ x :: L.drop k).getD j "" = if j < k then L.getD j "" else if j = k then x else L.getD (j - 1) "" := by
  have ht : (L.take k).length = k := by rw [List.length_take]; omega
  simp only [List.getD_eq_getElem?_getD]
  rw [List.getElem?_append, ht]
  by_cases h1 : j < k
  · rw [if_pos h1, if_pos h1, List.getElem?_take_of_lt h1]
  · rw [if_neg h1, if_neg h1]
    by_cases h2 : j = k
    · rw [if_pos h2, h2, Nat.sub_self]
      rfl
    · rw [if_neg h2]
      obtain ⟨i, hi⟩ : ∃ i, j - k = i + 1 := ⟨j - k - 1, by omega⟩
      rw [hi, List.getElem?_cons_succ, List.getElem?_drop, show k + i = j - 1 by omega]
theorem era_get {L : List Str} {k : Nat} (hk : k < L.length) (j : Nat) : (L.take k ++ L.drop (k + 1)).getD j "" = if j < k then L.getD j "" else L.getD (j + 1) "" := by
  have ht : (L.take k).length = k := by rw [List.length_take]; omega
  simp only [List.getD_eq_getElem?_getD]
  rw [List.getElem?_append, ht]
  by_cases h1 : j < k
  · rw [if_pos h1, if_pos h1, List.getElem?_take_of_lt h1]
  · rw [if_neg h1, if_neg h1, List.getElem?_drop, show k + 1 + (j - k) = j + 1 by omega]
theorem mod_next {j n : Nat} (h : j < n) : (j + 1) % n = if j + 1 = n then 0 else j + 1 := by
  by_cases e : j + 1 = n
  · rw [if_pos e, e, Nat.mod_self]
  · rw [if_neg e, Nat.mod_eq_of_lt (by omega)]
theorem mod_prev {k n : Nat} (h : k < n) : (k + n - 1) % n = if k = 0 then n - 1 else k - 1 := by
  by_cases e : k = 0
  · rw [if_pos e, e, Nat.zero_add, Nat.mod_eq_of_lt (by omega)]
  · rw [if_neg e, show k + n - 1 = (k - 1) + n by omega, Nat.add_mod_right, Nat.mod_eq_of_lt (by omega)]
theorem cyc_insert {m : Str → Str → Prop} {L : List Str} {k : Nat} {x : Str} (h : Cyc m L) (hk : k < L.length) (h1 : m (prevS L k) x) (h2 : m x (L.getD k "")) : Cyc m (L.take k ++ x :: L.drop k) := by
  have hl : (L.take k ++ x :: L.drop k).length = L.length + 1 := by
    rw [List.length_append, List.length_take, List.length_cons, List.length_drop]
    omega
  intro j hj
  rw [hl] at hj ⊢
  rw [ins_get (by omega), ins_get (by omega), mod_next hj]
  unfold prevS at h1
  rw [mod_prev hk] at h1
  by_cases e1 : j < k
  · rw [if_pos e1, if_neg (show ¬ j + 1 = L.length + 1 by omega)]
    by_cases e2 : j + 1 < k
    · rw [if_pos e2]
      have := h j (by omega)
      rw [mod_next (by omega), if_neg (by omega)] at this
      exact this
    · rw [if_neg e2, if_pos (by omega)]
      rw [if_neg (by omega), show k - 1 = j by omega] at h1
      exact h1
  · rw [if_neg e1]
    by_cases e3 : j = k
    · subst e3
      rw [if_pos rfl, if_neg (show ¬ j + 1 = L.length + 1 by omega), if_neg (by omega), if_neg (by omega), Nat.add_sub_cancel]
      exact h2
    · rw [if_neg e3]
      by_cases e4 : j + 1 = L.length + 1
      · rw [if_pos e4]
        by_cases e5 : k = 0
        · subst e5
          rw [if_neg (by omega), if_pos rfl]
          rw [if_pos rfl, show L.length - 1 = j - 1 by omega] at h1
          exact h1
        · rw [if_pos (by omega)]
          have := h (j - 1) (by omega)
          rw [mod_next (by omega), if_pos (by omega)] at this
          exact this
      · rw [if_neg e4, if_neg (by omega), if_neg (by omega)]
        have := h (j - 1) (by omega)
        rw [mod_next (by omega), if_neg (by omega), show j - 1 + 1 = j + 1 - 1 by omega] at this
        exact this
theorem cyc_erase {m : Str → Str → Prop} {L : List Str} {k : Nat} (h : Cyc m L) (hk : k < L.length) (h2 : 2 ≤ L.length) (h1 : m (prevS L k) (nextS L k)) : Cyc m (L.take k ++ L.drop (k + 1)) := by
  have hl : (L.take k ++ L.drop (k + 1)).length = L.length - 1 := by
    rw [List.length_append, List.length_take, List.length_drop]
    omega
  intro j hj
  rw [hl] at hj ⊢
  rw [era_get hk, era_get hk, mod_next hj]
  unfold prevS nextS at h1
  rw [mod_prev hk, mod_next hk] at h1
  by_cases e1 : j < k
  · rw [if_pos e1]
    by_cases e2 : j + 1 = k
    · rw [if_neg (by omega), show k - 1 = j by omega] at h1
      by_cases e3 : j + 1 = L.length - 1
      · rw [if_pos e3, if_pos (by omega)]
        rw [if_pos (by omega)] at h1
        exact h1
      · rw [if_neg e3, if_neg (by omega)]
        rw [if_neg (by omega), show k + 1 = j + 1 + 1 by omega] at h1
        exact h1
    · have := h j (by omega)
      rw [mod_next (by omega), if_neg (by omega)] at this
      rw [if_neg (show ¬ j + 1 = L.length - 1 by omega), if_pos (by omega)]
      exact this
  · rw [if_neg e1]
    have := h (j + 1) (by omega)
    rw [mod_next (by omega)] at this
    by_cases e3 : j + 1 = L.length - 1
    · rw [if_pos e3]
      rw [if_pos (by omega)] at this
      by_cases e5 : k = 0
      · subst e5
        rw [if_neg (by omega)]
        rw [if_pos rfl, if_neg (by omega), show L.length - 1 = j + 1 by omega] at h1
        exact h1
      · rw [if_pos (by omega)]
        exact this
    · rw [if_neg e3, if_neg (by omega)]
      rw [if_neg (by omega)] at this
      exact this
/-- a round, among the rights, by the list -/
structure RdA (A R : List Row) (B : List RRow) (S : List Str) : Prop where
  three : 3 ≤ S.length
  nd : S.Nodup
  mem : ∀ x ∈ S, x ∈ rnm B
  cyc : Cyc (fun x y => (x, y) ∈ A) S
theorem deepest_ex {R : List Row} {B : List RRow} {S : List Str} (h : 1 ≤ S.length) : Deepest R B S (kOf R B S) := by
  have e : ∃ k, Deepest R B S k := by
    obtain ⟨b1, b2⟩ := best (keyD R B S) (fun i j => lt3 (keyD R B S i) (keyD R B S j)) (S.length - 1) fun i j _ _ => rfl
    exact ⟨_, by omega, fun j hj => b2 j (by omega)⟩
  unfold kOf
  rw [dif_pos e]
  exact e.choose_spec
theorem deepest_le {R : List Row} {B : List RRow} {S : List Str} {k j : Nat} (h : Deepest R B S k) (hj : j < S.length) : depthN R B (S.getD j "") ≤ depthN R B (S.getD k "") := by
  have := of_decide_eq_false (h.2 j hj)
  unfold keyD at this
  dsimp only at this
  omega
variable {A R : List Row} {B : List RRow} {S : List Str}
theorem RdA.plain (b : RtOk R B) (h : RdA A R B S) : ∀ x ∈ S, Plain x := fun x hx => name_pl b (h.mem x hx)
theorem RdA.le (b : RtOk R B) (h : RdA A R B S) : S.length ≤ 40 := by
  have h1 := nodup_le h.nd h.mem
  have h2 : (rnm B).length = B.length := List.length_map _
  have h3 := b.most
  omega
/-- what stands about the deepest -/
theorem about (h : RdA A R B S) {k : Nat} (hk : k < S.length) : (prevS S k, S.getD k "") ∈ A ∧ (S.getD k "", nextS S k) ∈ A ∧ prevS S k ∈ S ∧ nextS S k ∈ S := by
  have h3 := h.three
  refine ⟨?_, h.cyc k hk, getD_mem (Nat.mod_lt _ (by omega)), getD_mem (Nat.mod_lt _ (by omega))⟩
  have hp : (k + S.length - 1) % S.length < S.length := Nat.mod_lt _ (by omega)
  have := h.cyc _ hp
  have e : ((k + S.length - 1) % S.length + 1) % S.length = k := by
    rw [mod_prev hk, mod_next (by split <;> omega)]
    split <;> split <;> omega
  rw [e] at this
  exact this
theorem both_pass (g : GoodRows R) (b : RtOk R B) (T : Ahead R B A) (h : RdA A R B S) {k : Nat} (hk : Deepest R B S k) :
    lastW (wayN R B (S.getD k "")) ∈ wayN R B (prevS S k) ∧ lastW (wayN R B (S.getD k "")) ∈ wayN R B (nextS S k) := by
  obtain ⟨a1, a2, a3, a4⟩ := about h hk.1
  have hx := h.mem _ (getD_mem hk.1)
  have idx : ∀ {y : Str}, y ∈ S → depthN R B y ≤ depthN R B (S.getD k "") := fun {y} hy => by
    obtain ⟨j, hj, rfl⟩ := List.mem_iff_getElem.mp hy
    rw [← getD_at hj]
    exact deepest_le hk hj
  obtain ⟨_, _, _, m1⟩ := T.sub _ _ a1
  obtain ⟨_, _, _, m2⟩ := T.sub _ _ a2
  rw [meet_symm] at m1
  exact ⟨meet_rem g b hx (h.mem _ a3) (idx a3) m1, meet_rem g b hx (h.mem _ a4) (idx a4) m2⟩
theorem prev_ne (h : RdA A R B S) (h4 : 3 < S.length) {k : Nat} (hk : k < S.length) : prevS S k ≠ nextS S k := fun e => by
  have e2 := getD_inj h.nd (Nat.mod_lt _ (by omega)) (Nat.mod_lt _ (by omega)) e
  rw [mod_prev hk, mod_next hk] at e2
  split at e2 <;> split at e2 <;> omega
theorem step_rd (g : GoodRows R) (b : RtOk R B) (T : Ahead R B A) (h : RdA A R B S) (h4 : 3 < S.length) : RdA A R B (stepS A R B S) ∧ (stepS A R B S).length < S.length := by
  have hk := deepest_ex (R := R) (B := B) (S := S) (by omega)
  have hk1 := hk.1
  obtain ⟨a1, a2, a3, a4⟩ := about h hk1
  obtain ⟨p1, p2⟩ := both_pass g b T h hk
  unfold stepS
  by_cases q : (prevS S (kOf R B S), nextS S (kOf R B S)) ∈ A
  · rw [if_pos q]
    have hl : (S.take (kOf R B S) ++ S.drop (kOf R B S + 1)).length = S.length - 1 := by
      rw [List.length_append, List.length_take, List.length_drop]
      omega
    have hsub : (S.take (kOf R B S) ++ S.drop (kOf R B S + 1)).Sublist S := by
      have e : S.take (kOf R B S) ++ S.drop (kOf R B S) = S := List.take_append_drop _ _
      conv => rhs; rw [← e]
      exact List.Sublist.append (List.Sublist.refl _) (by
        rw [← List.drop_drop]
        exact List.drop_sublist _ _)
    refine ⟨⟨by omega, h.nd.sublist hsub, fun x hx => h.mem x (hsub.subset hx), cyc_erase h.cyc hk1 (by omega) q⟩, by omega⟩
  · rw [if_neg q]
    have ne := prev_ne h h4 hk1
    have hm : meetB R B (prevS S (kOf R B S)) (nextS S (kOf R B S)) = true := meet_iff.mpr ⟨_, p1, p2⟩
    have a5 : (nextS S (kOf R B S), prevS S (kOf R B S)) ∈ A := (T.all _ _ (h.mem _ a3) (h.mem _ a4) ne hm).resolve_left q
    obtain ⟨_, _, n1, _⟩ := T.sub _ _ a1
    obtain ⟨_, _, n2, _⟩ := T.sub _ _ a2
    refine ⟨⟨Nat.le_refl _, ?_, fun x hx => ?_, fun k hk => ?_⟩, h4⟩
    · simp only [List.nodup_cons, List.mem_cons, List.not_mem_nil, or_false, not_or, not_false_eq_true, List.nodup_nil, and_true]
      exact ⟨⟨n1, ne⟩, n2⟩
    · rcases List.mem_cons.mp hx with e | e
      · rw [e]; exact h.mem _ a3
      · rcases List.mem_cons.mp e with e | e
        · rw [e]; exact h.mem _ (getD_mem hk1)
        · rw [List.mem_singleton.mp e]; exact h.mem _ a4
    · match k, hk with
      | 0, _ => exact a1
      | 1, _ => exact a2
      | 2, _ =>
        show (nextS S (kOf R B S), [prevS S (kOf R B S), S.getD (kOf R B S) "", nextS S (kOf R B S)].getD ((2 + 1) % 3) "") ∈ A
        exact a5
      | k + 3, hk => exact absurd hk (by show ¬ k + 3 < 3; omega)
/-- three of a round share a weir -/
theorem share3 (g : GoodRows R) (b : RtOk R B) (T : Ahead R B A) (h : RdA A R B S) (h3 : S.length = 3) : ∃ w, w ∈ wayN R B (S.getD 0 "") ∧ w ∈ wayN R B (S.getD 1 "") ∧ w ∈ wayN R B (S.getD 2 "") := by
  have hk := deepest_ex (R := R) (B := B) (S := S) (by omega)
  have hk1 := hk.1
  obtain ⟨p1, p2⟩ := both_pass g b T h hk
  have p0 := (last_in g b (h.mem _ (getD_mem hk1))).1
  unfold prevS at p1
  unfold nextS at p2
  rw [h3] at p1 p2 hk1
  generalize kOf R B S = k at p0 p1 p2 hk1
  match k, hk1 with
  | 0, _ => exact ⟨_, p0, p2, p1⟩
  | 1, _ => exact ⟨_, p1, p0, p2⟩
  | 2, _ => exact ⟨_, p2, p1, p0⟩
  | k + 3, hk => exact absurd hk (by omega)
theorem rounds_rd (g : GoodRows R) (b : RtOk R B) (T : Ahead R B A) : ∀ (n : Nat) {S : List Str}, RdA A R B S → S.length ≤ n → (∀ x ∈ roundsS A R B n S, RdA A R B x) ∧ ∃ ini l, roundsS A R B n S = ini ++ [l] ∧ l.length = 3 ∧ RdA A R B l
  | 0, S, h, hn => absurd h.three (by omega)
  | n + 1, S, h, hn => by
    show (∀ x ∈ (if 3 < S.length then S :: roundsS A R B n (stepS A R B S) else [S]), _) ∧ ∃ ini l, (if 3 < S.length then S :: roundsS A R B n (stepS A R B S) else [S]) = _ ∧ _
    by_cases q : 3 < S.length
    · rw [if_pos q]
      obtain ⟨h2, h3⟩ := step_rd g b T h q
      obtain ⟨a1, ini, l, a2, a3, a4⟩ := rounds_rd g b T n h2 (by omega)
      refine ⟨fun x hx => ?_, S :: ini, l, by rw [a2]; rfl, a3, a4⟩
      rcases List.mem_cons.mp hx with e | e
      · rw [e]; exact h
      · exact a1 x e
    · rw [if_neg q]
      have := h.three
      exact ⟨fun x hx => by rw [List.mem_singleton.mp hx]; exact h, [], S, rfl, by omega, h⟩
/-- where there is a round, no line keeps all -/
theorem round_short (g : GoodRows R) (b : RtOk R B) (T : Ahead R B A) (h : RdA A R B S) (h3 : S.length = 3) : (lineOf A (rnm B)).length < (rnm B).length := by
  refine (line_short g b T).mpr fun e => ?_
  obtain ⟨w, w0, w1, w2⟩ := share3 g b T h h3
  have c0 := h.cyc 0 (by omega)
  have c1 := h.cyc 1 (by omega)
  have c2 := h.cyc 2 (by omega)
  rw [h3] at c0 c1 c2
  obtain ⟨m0, m1, n0, _⟩ := T.sub _ _ c0
  obtain ⟨_, m2, n1, _⟩ := T.sub _ _ c1
  obtain ⟨_, _, n2, _⟩ := T.sub _ _ c2
  have hw : w ∈ nmsOf R := (way_sub g b m0) w w0
  have := ring1_ne c0 c1 c2 n0 n1 n2 (mem_pass m0 w0) (mem_pass m1 w1) (mem_pass m2 w2)
  exact find_ne hw (by
    cases q : ring1 A (passR R B w) with
    | none => exact absurd q this
    | some t => exact fun z => by cases z) e
end K0
end
section
set_option Elab.async false
set_option linter.all false
set_option maxRecDepth 100000
set_option maxHeartbeats 4000000
namespace L2
open PySem PySem.Spec PyProof.Rows
theorem inDK {X : Cx} {K : PySem.W.Frag} (hu : X.A.units + 65 < cLine) (e : X.K = K := by rfl) : OpR X (compareOp .In) (rInD K) := e ▸ op_inD hu
end L2
namespace K0
open PySem PySem.Spec PyProof.Rows L2 MN
/-! ### the law's own: meets, is a round -/
abbrev scLMeets_N : List Str := ["_law_ways", "_law_one", "_law_other", "_law_weir"]
abbrev scLMeets_S : Stmt := sLMeets
theorem scLMeets : FnScope scLMeets_N ["_law_ways", "_law_one", "_law_other"] (defScope sLMeets) := ⟨rfl, rfl, rfl, by decide +kernel, rfl, by decide +kernel, by decide +kernel⟩
def spLMeets : Sp := fun vs H Q _ => ∃ (d : Addr) (a c : Str) (R : List Row) (B : List RRow), vs = [.ref d, .str a, .str c] ∧ WaysL H d (rnm B) (wayN R B) ∧ GoodRows R ∧ RtOk R B ∧ a ∈ rnm B ∧ c ∈ rnm B ∧ ∀ H', Same H H' → Q (.bl (meetB R B a c)) H'
/-- the same while the dict is walked -/
structure WaysF (H : Hp) (d : Addr) (ns : List Str) (g : Str → List Str) : Prop where
  ex : ∃ ta : Str → Addr, Rd H d (.dK (kmap (fun y => .ref (ta y)) ns)) ∧ ∀ y ∈ ns, H (ta y) = some (.lst ((g y).map V.str))
theorem WaysL.f {H : Hp} {d : Addr} {ns : List Str} {g : Str → List Str} (w : WaysL H d ns g) : WaysF H d ns g := by
  obtain ⟨ta, a, b⟩ := w.ex
  exact ⟨ta, .inl a, b⟩
theorem WaysF.same {H H' : Hp} {d : Addr} {ns : List Str} {g : Str → List Str} (t : WaysF H d ns g) (s : Same H H') : WaysF H' d ns g := by
  obtain ⟨ta, q1, q2⟩ := t.ex
  exact ⟨ta, same_rd s q1, fun x hx => s _ _ (q2 x hx)⟩
def spLMeetsF : Sp := fun vs H Q _ => ∃ (d : Addr) (a c : Str) (R : List Row) (B : List RRow), vs = [.ref d, .str a, .str c] ∧ WaysF H d (rnm B) (wayN R B) ∧ GoodRows R ∧ RtOk R B ∧ a ∈ rnm B ∧ c ∈ rnm B ∧ ∀ H', Same H H' → Q (.bl (meetB R B a c)) H'
abbrev scLIsRound_N : List Str := ["_law_names_here", "_law_ahead_here", "_law_k"]
abbrev scLIsRound_S : Stmt := sLIsRound
theorem scLIsRound : FnScope scLIsRound_N ["_law_names_here", "_law_ahead_here"] (defScope sLIsRound) := ⟨rfl, rfl, rfl, by decide +kernel, rfl, by decide +kernel, by decide +kernel⟩
def spLIsRound (K : PySem.W.Frag) : Sp := fun vs H Q _ => ∃ (a l : Addr) (ns : List Str) (AP : List (Addr × Row)), vs = [.ref a, .ref l] ∧ TxR H a ns ∧ ns.length ≤ 900 ∧ (∀ x ∈ ns, Plain x) ∧ RowsAt H l AP ∧ AP.length ≤ 1640 ∧ (∀ r ∈ rowsOf AP, Plain r.1 ∧ Plain r.2) ∧ ∀ H', Same H H' → Q (.bl (goesL (rowsOf AP) ns)) H'
/-- seen from the other side -/
theorem allB_prev {A : List Row} {ns : List Str} : ((List.range ns.length).all fun k => decide ((prevS ns k, ns.getD k "") ∈ A)) = allB A ns := by
  rw [Bool.eq_iff_iff]
  unfold allB
  rw [List.all_eq_true, List.all_eq_true]
  constructor
  · intro h k hk
    have hk := List.mem_range.mp hk
    have hn : (k + 1) % ns.length < ns.length := Nat.mod_lt _ (by omega)
    have := h _ (List.mem_range.mpr hn)
    unfold prevS at this
    have e : ((k + 1) % ns.length + ns.length - 1) % ns.length = k := by
      rw [mod_prev hn, mod_next hk]
      split <;> split <;> omega
    rw [e] at this
    exact this
  · intro h k hk
    have hk := List.mem_range.mp hk
    have hp : (k + ns.length - 1) % ns.length < ns.length := Nat.mod_lt _ (by omega)
    have := h _ (List.mem_range.mpr hp)
    have e : ((k + ns.length - 1) % ns.length + 1) % ns.length = k := by
      rw [mod_prev hk, mod_next (by split <;> omega)]
      split <;> split <;> omega
    rw [e] at this
    exact this
section
variable {P : Program} {w : World} {K : PySem.W.Frag} {mg : Str → Option Value} {base : Heap} {tS tM tL : Tok}
theorem ok_lmeets {f : Addr} {fd : FuncData} (F : FnP K "_law_meets" sLMeets f fd) (B : Bl mg) : FnOk P w K mg base CX0 1 f fd ["_law_ways", "_law_one", "_law_other"] spLMeetsF := by
  refine F.ok scLMeets (fun vs H Q E h => ?_) (fun cdv A outer s H vs Q E hr h => ?_)
  · obtain ⟨d, a, c, R, BB, rfl, _⟩ := h
    rfl
  · obtain ⟨d, a, c, R, BB, rfl, W, hg, hb, ha, hc, k⟩ := h
    have hu := hu_of hr
    refine ⟨_, PSs.nox (pss_one
      (ps_ret (pe_callB (anyK (K := K) rfl) (by rfl) B.any (by decide +kernel) (pa_cons (pe_lc (own := [("_law_weir", 3)]) (g := gName 3) (tt := tYes) (by rfl) scLMeets.nd (pi_list (pe_dget hu (pv 0) (pv 1) (fun _ _ => rfl))) (blkOk_by (own := [("_law_weir", 3)]) (N := scLMeets_N) (sc := defScope scLMeets_S) (by decide +kernel)) (fun _ _ _ _ _ => (pg_name (i := 3) scLMeets.nd rfl (Or.inl rfl))) (fun _ _ _ _ _ => pts_nil) (fun _ _ _ _ _ => (pe_cmpR (inK (K := K)) (pv 3) (pe_dget hu (pv 0) (pv 2) (fun _ _ => rfl)) (by rfl)))) pa_nil)))), ?_⟩
    obtain ⟨ta, w1, w2⟩ := id W.ex
    have hzl : (wayN R BB a).length ≤ 40 := (way_ne hg hb ha).2
    refine ⟨_, rfl, _, rfl, d, _, rfl, dget_rn w1 ha, ta a, rfl, ⟨_, .inl (.inl (w2 a ha))⟩, fun Z nZ => ?_⟩
    refine lc_listO (K := K) (a := ta a) (xs := (wayN R BB a).map V.str) nZ (fun j => (((wayN R BB a).take j).map fun y => decide (y ∈ wayN R BB c)).map V.bl) (by rw [List.take_zero]; rfl) (fun j _ => by rw [List.length_map, List.length_map, List.length_take]; exact small1000 (by omega)) (.inl (.inl (w2 a ha))) ?_ ?_
    · intro l x H7 Nx hx s7 put skip
      rw [List.getElem?_map] at hx
      obtain ⟨y, hy, rfl⟩ := Option.map_eq_some_iff.mp hx
      refine ⟨rfl, ?_⟩
      unfold tYes
      refine iteT ?_
      refine ⟨_, rfl, _, rfl, _, rfl, d, _, rfl, dget_rn (same_rd s7 w1) hc, ta c, _, rfl, .inl (.inl (.inl (s7 _ _ (w2 c hc)))), rfl, flat_strs _, ?_⟩
      refine put _ _ (.refl _) ?_
      have e : inV (.str y) ((wayN R BB c).map V.str) = decide (y ∈ wayN R BB c) := inV_str _ _
      rw [e, take_map1 hy, List.map_append]
      rfl
    intro H7 s7 hZ
    rw [List.length_map, List.take_length] at hZ
    refine ⟨Z, _, rfl, .inl (.inl hZ), ?_⟩
    rw [List.any_map]
    exact k H7 s7
theorem ok_lisround {f : Addr} {fd : FuncData} (F : FnP K "_law_is_round" sLIsRound f fd) (hset : mg "set" = none) (B : Bl mg) : FnOk P w K mg base CX0 1 f fd ["_law_names_here", "_law_ahead_here"] (spLIsRound K) := by
  refine F.ok scLIsRound (fun vs H Q E h => ?_) (fun cdv A outer s H vs Q E hr h => ?_)
  · obtain ⟨a, l, ns, AP, rfl, _⟩ := h
    rfl
  · obtain ⟨a, l, ns, AP, rfl, h, hl, hp, hA, hAl, hAp, k⟩ := h
    have hu65 : (A.deeper (envOfC (Str.ofString "_law_is_round") (defScope sLIsRound) s.heap.objs.size f cdv)).units + 65 < cLine := by
      have := hr.un
      omega
    refine ⟨_, PSs.nox (pss_cons
      (ps_if (PW.pt (pw_or (pt_not (pt_val (pe_callB call_isi (by rfl) B.isinstance (by decide +kernel) (pa_cons (pv 0) (pa_cons (pe_bltn (v := .ty "tuple") (by rfl) B.tuple (by decide +kernel) rfl) pa_nil))))) (pw_or (pt_cmpR op_lt (pe_callB (lenK (K := K)) (by rfl) B.len PySem.boot_len (pa_cons (pv 0) pa_nil)) pe_int (nomark _)) (pw_or1 (pt_cmpR op_lt (pe_lenSetT rfl (by rfl) B.len (by rfl) hset (pv 0)) (pe_callB (lenK (K := K)) (by rfl) B.len PySem.boot_len (pa_cons (pv 0) pa_nil)) (nomark _)))))) (pss_one
      (ps_ret pe_bl)) pss_nil)
      (pss_one
      (ps_ret (pe_callB (allK (K := K) rfl) (by rfl) B.all (by decide +kernel) (pa_cons (pe_lc (own := [("_law_k", 2)]) (g := gName 2) (tt := tYes) (by rfl) scLIsRound.nd (pi_range1 (by rfl) B.range (pa_cons (pe_callB (lenK (K := K)) (by rfl) B.len PySem.boot_len (pa_cons (pv 0) pa_nil)) pa_nil)) (blkOk_by (own := [("_law_k", 2)]) (N := scLIsRound_N) (sc := defScope scLIsRound_S) (by decide +kernel)) (fun _ _ _ _ _ => (pg_name (i := 2) scLIsRound.nd rfl (Or.inl rfl))) (fun _ _ _ _ _ => pts_nil) (fun _ _ _ _ _ => (pe_cmpR (inDK (K := K) hu65) (pe_tup (pa_cons (pe_ix (ixTK (K := K)) (pv 0) (pe_op op_sub (pv 2) pe_int) (fun _ _ => rfl)) (pa_cons (pe_ix (ixTK (K := K)) (pv 0) (pv 2) (fun _ _ => rfl)) pa_nil))) (pv 1) (by rfl)))) pa_nil))))), ?_⟩
    have z40 : 40000 ≤ sizeLine := by rw [sizeLine_eq]; omega
    have tyT : TyX K H (.ref a) (.type "tuple") := by
      rcases h with h | ⟨o, h⟩
      · exact .base (.tup h)
      · exact .fTuple h
    refine ⟨_, rfl, _, .ty "tuple", _, _, true, rfl, .ty "tuple", tyT, kit_ty (by decide +kernel), _, rfl, ?_⟩
    refine iteF ?_
    refine ⟨_, rfl, _, _, rfl, .inr (.inl h), _, _, rfl, rfl, _, rfl, ?_⟩
    have fin : ∀ {b : Bool} {H'}, Same H H' → goesL (rowsOf AP) ns = b → Q (.bl b) H' := fun {b H'} s e => by rw [← e]; exact k H' s
    unfold goesL at fin
    rw [List.length_map]
    refine ite2 (fun q => ?_) (fun q => ?_)
    · refine iteT (fin (.refl _) ?_)
      have : ¬ 3 ≤ ns.length := by
        have := of_decide_eq_true q
        omega
      rw [decide_eq_false this]
      rfl
    have h3 : 3 ≤ ns.length := by
      have : ¬ (ns.length : Int) < 3 := fun z => q (decide_eq_true z)
      omega
    rw [decide_eq_true h3] at fin
    refine ⟨_, rfl, a, ns, rfl, .inl h, by omega, fun c hc => ?_⟩
    refine ⟨_, rfl, a, _, rfl, .inr (.inl h), _, _, rfl, rfl, _, rfl, ?_⟩
    rw [List.length_map]
    have hcl := hc.le
    have hce := hc.eq
    refine ite2 (fun q => ?_) (fun q => ?_)
    · refine fin (.refl _) ?_
      have : ¬ ns.Nodup := fun z => by
        have h5 := hce.mpr z
        have h6 := of_decide_eq_true q
        omega
      rw [decide_eq_false this]
      rfl
    have hnd : ns.Nodup := hce.mp (by
      have : ¬ (c : Int) < (ns.length : Int) := fun z => q (decide_eq_true z)
      omega)
    rw [decide_eq_true hnd] at fin
    refine ⟨_, rfl, a, _, rfl, .inr (.inl h), _, rfl, by rw [List.length_map]; omega, by rw [List.length_map]; omega, fun L nL => ?_⟩
    rw [show ((ns.map V.str).length : Int).toNat = ns.length by rw [List.length_map]; rfl]
    refine lc_range (lo := 0) (n := ns.length) (fun i H2 => Same H H2 ∧ H2 L = some (.lst (((List.range i).map fun k => decide ((prevS ns k, ns.getD k "") ∈ rowsOf AP)).map V.bl))) ⟨same_upd nL, upd_same⟩ ?_ ?_
    · rintro i H2 hi ⟨s2, hL2⟩
      have ht2 := h.same s2
      have hA2 := hA.same s2
      refine ⟨rfl, ?_⟩
      unfold tYes
      refine iteT ?_
      refine ⟨_, rfl, _, rfl, _, _, rfl, rfl, a, _, _, _, rfl, rfl, .inl ht2, by rw [Int.zero_add]; exact prev_at hi, _, rfl, _, rfl, a, _, _, _, rfl, rfl, .inl ht2, by rw [Int.zero_add]; exact atI_nat (j := i) (v := V.str (ns.getD i "")) (by rw [List.getElem?_map, List.getElem?_eq_getElem hi, getD_at hi]; rfl), by show 2 ≤ sizeLine; decide, fun t nt => ?_⟩
      have s3 : Same H2 (upd H2 t (.tup [.str (prevS ns i), .str (ns.getD i "")])) := same_upd nt
      have ht3 : (upd H2 t (.tup [.str (prevS ns i), .str (ns.getD i "")])) t = some (.tup [.str (prevS ns i), .str (ns.getD i "")]) := upd_same
      generalize upd H2 t (.tup [.str (prevS ns i), .str (ns.getD i "")]) = H3 at s3 ht3
      have hA3 := hA2.same s3
      have shp : SeqAt.shaped (.tuple [.str (prevS ns i), .str (ns.getD i "")]) = true := shaped_tup (l := [prevS ns i, ns.getD i ""]) fun y hy => by
        rcases List.mem_cons.mp hy with e | e
        · rw [e]; exact hp _ (getD_mem (Nat.mod_lt _ (by omega)))
        · rw [List.mem_singleton.mp e]; exact hp _ (getD_mem hi)
      refine ⟨_, rfl, _, _, .tup (.inl (.inl ht3)) (.cons (.str _) (.cons (.str _) .nil)), .lst (.inl (.inl hA3.lst)) (dp_rows hA3.tup), shp, shaped_rows hAp, ?_⟩
      rw [row_any]
      refine ⟨_, s3 _ _ hL2, by rw [List.length_map, List.length_map, List.length_range]; exact small1000 (by omega), fun b o e => ?_, ?_⟩
      · rw [upd_ne (ne_of_none e nL)]
        exact s3 _ _ (s2 _ _ e)
      · rw [upd_same, List.range_succ, List.map_append, List.map_append]
        rfl
    rintro H2 ⟨s2, hL2⟩
    refine ⟨L, _, rfl, .inl (.inl hL2), ?_⟩
    rw [List.all_map]
    exact fin s2 (by rw [Bool.true_and, Bool.true_and]; exact allB_prev.symm)
end
end K0
end
section
set_option Elab.async false
set_option linter.all false
set_option maxRecDepth 100000
namespace L2
open PySem PySem.Spec PyProof.Rows
/-! ### new tuples that are known to be plain -/
section
variable {X : Cx} {es : List Expr} {t : TA} {pos : Pos}
def tTupF (t : TA) : TE := fun σ H Q => t σ H fun xs H1 => xs.length ≤ sizeLine ∧ ∀ p o, H1 p = none → PlainT o → Q (.ref p) (upd H1 p (.frz o (.tup xs)))
theorem pe_tupF {k : Nat} (h : PA X es t) : PE X (.Tuple es k pos) (tTupF t) := by
  refine ⟨fun pins s σ H Q I hq => wpAny_Tuple_spliced (thn (h.run pos pins s σ H _ I hq) fun us s1 ⟨xs, H1, I1, r, z, q⟩ => ⟨by rw [← r.length]; exact z, ?_⟩)⟩
  refine ⟨.ref s1.heap.objs.size, upd H1 s1.heap.objs.size (.frz { cls := .type "tuple", data := .seq us.toArray } (.tup xs)), I1.laid (t' := s1.toks) (fun b u e => Heap.get?_push_of_some _ e) (Nat.le_refl _) ?_, rfl, q _ _ (I1.hok.fresh (Nat.le_refl _)) ⟨rfl, rfl⟩⟩
  exact ⟨Heap.get?_push_size _ rfl, z, us, r, IsTup.new _ _⟩
/-- t + u, one of them new if both have items -/
def rCatF (K : PySem.W.Frag) : R2 := fun x y H Q => ∃ a b xs ys, x = .ref a ∧ y = .ref b ∧ SqT K H a xs ∧ SqT K H b ys ∧ xs.length + ys.length ≤ sizeLine ∧
  (xs = [] → Q (.ref b) H) ∧ (xs ≠ [] → ys = [] → Q (.ref a) H) ∧ (xs ≠ [] → ys ≠ [] → ∀ p o, H p = none → PlainT o → Q (.ref p) (upd H p (.frz o (.tup (xs ++ ys)))))
theorem op_catF : OpR X (binaryOp .Add) (rCatF X.K) := by
  intro pins s σ H x y v u Q I rx ry h
  obtain ⟨a, b, xs, ys, rfl, rfl, ha, hb, hz, q0, q1, q2⟩ := h
  cases rx
  cases ry
  obtain ⟨its, r1, p1, _⟩ := I.tuple ha
  obtain ⟨its2, r2, p2, _⟩ := I.tuple hb
  by_cases hx : xs = []
  · subst hx
    cases r1
    exact cat_tup0 p1 p2 ⟨.ref b, H, I, rfl, q0 rfl⟩
  refine HT.cat_tup p1 p2 (fun z => hx (r1.nil_iff.mp z)) (fun z => ⟨.ref a, H, I, rfl, q1 hx (r2.nil_iff.mp z)⟩) (fun z => ?_) (by rw [← r1.length, ← r2.length]; exact hz)
  refine ⟨.ref s.heap.objs.size, _, I.laid (t' := s.toks) (o := .frz { cls := .type "tuple", data := .seq (its ++ its2).toArray } (.tup (xs ++ ys))) (fun _ _ e => Heap.get?_push_of_some _ e) (Nat.le_refl _) ?_, rfl, q2 hx (fun e => z (r2.nil_iff.mpr e)) _ _ (I.hok.fresh (Nat.le_refl _)) ⟨rfl, rfl⟩⟩
  exact ⟨Heap.get?_push_size _ rfl, by rw [List.length_append]; exact hz, _, r1.append r2, IsTup.new _ _⟩
def rSlF (K : PySem.W.Frag) : V → Option Int → Option Int → Hp → VK → Prop := fun x lo hi H Q => ∃ a xs, x = .ref a ∧ SqT K H a xs ∧
  (HT.sIx xs.length 0 lo = 0 ∧ HT.sIx xs.length xs.length hi = xs.length → Q (.ref a) H) ∧ (¬ (HT.sIx xs.length 0 lo = 0 ∧ HT.sIx xs.length xs.length hi = xs.length) → ∀ p o, H p = none → PlainT o → Q (.ref p) (upd H p (.frz o (.tup (cutV xs lo hi)))))
theorem sl_tupF : SlR X (rSlF X.K) := by
  intro pins s σ H x v vl vu lo hi sl Q I rx hs pl pu h
  obtain ⟨a, xs, rfl, hx, q1, q2⟩ := h
  cases rx
  obtain ⟨its, r, ht, hz⟩ := I.tuple hx
  have el : its.toArray.size = xs.length := by rw [List.size_toArray, ← r.length]
  refine ⟨"tuple", _, PyProof.Rows.slot_tuple_getitem.lookup, ht.typeIs, ?_⟩
  by_cases hw : HT.sIx xs.length 0 lo = 0 ∧ HT.sIx xs.length xs.length hi = xs.length
  · exact getItem_tuple_whole ht hs pl pu (by rw [el]; exact hw) ⟨.ref a, H, I, rfl, q1 hw⟩
  · refine HT.getItem_tuple_cut ht hs pl pu (by rw [el]; exact hw) ?_ (by rw [el]; exact hz)
    rw [el]
    refine ⟨.ref s.heap.objs.size, _, I.laid (t' := s.toks) (o := .frz { cls := .type "tuple", data := .seq ((its.drop (HT.sIx xs.length 0 lo)).take (HT.sIx xs.length xs.length hi - HT.sIx xs.length 0 lo)).toArray } (.tup (cutV xs lo hi))) (fun _ _ e => Heap.get?_push_of_some _ e) (Nat.le_refl _) ?_, rfl, q2 hw _ _ (I.hok.fresh (Nat.le_refl _)) ⟨rfl, rfl⟩⟩
    exact ⟨Heap.get?_push_size _ rfl, Nat.le_trans (cutV_length xs lo hi) hz, _, (r.drop (HT.sIx xs.length 0 lo)).take (HT.sIx xs.length xs.length hi - HT.sIx xs.length 0 lo), IsTup.new _ _⟩
theorem catFK {K : PySem.W.Frag} (e : X.K = K := by rfl) : OpR X (binaryOp .Add) (rCatF K) := e ▸ op_catF
theorem slFK {K : PySem.W.Frag} (e : X.K = K := by rfl) : SlR X (rSlF K) := e ▸ sl_tupF
end
end L2
namespace K0
open PySem PySem.Spec PyProof.Rows L2
theorem sl_ft {K : PySem.W.Frag} {H : Hp} {t : Addr} {S L : List Str} {lo hi : Option Int} {Q : VK} (ht : FT H t S) (hL : cutV (S.map V.str) lo hi = L.map V.str) (k : ∀ u H', Same H H' → FT H' u L → Q (.ref u) H') : rSlF K (.ref t) lo hi H Q := by
  refine ⟨t, S.map V.str, rfl, .inl ht.rd, fun h => k t H (.refl _) ?_, fun _ u o nu po => k u _ (same_upd nu) ⟨o, po, ?_⟩⟩
  · have e : cutV (S.map V.str) lo hi = S.map V.str := by
      unfold cutV
      rw [h.1, h.2, List.drop_zero, Nat.sub_zero, List.take_length]
    obtain ⟨o, po, q⟩ := ht
    exact ⟨o, po, by rw [← hL, e]; exact q⟩
  · rw [upd_same, hL]
theorem cat_ft {K : PySem.W.Frag} {H : Hp} {t u : Addr} {S L : List Str} {Q : VK} (ht : FT H t S) (hu : FT H u L) (hz : S.length + L.length ≤ 1000) (k : ∀ u H', Same H H' → FT H' u (S ++ L) → Q (.ref u) H') : rCatF K (.ref t) (.ref u) H Q := by
  have z40 : 40000 ≤ sizeLine := by rw [sizeLine_eq]; omega
  refine ⟨t, u, S.map V.str, L.map V.str, rfl, rfl, .inl ht.rd, .inl hu.rd, by rw [List.length_map, List.length_map]; omega, fun h => k u H (.refl _) ?_, fun _ h => k t H (.refl _) ?_, fun _ _ z o nz po => k z _ (same_upd nz) ⟨o, po, ?_⟩⟩
  · rw [List.map_eq_nil_iff.mp h, List.nil_append]
    exact hu
  · rw [List.map_eq_nil_iff.mp h, List.append_nil]
    exact ht
  · rw [upd_same, List.map_append]
end K0
end
section
set_option Elab.async false
set_option linter.all false
set_option maxRecDepth 100000
set_option maxHeartbeats 8000000
namespace L2
open PySem PySem.Spec PyProof.Rows
theorem maxK {X : Cx} {K : PySem.W.Frag} (hc : X.calm = true) (e : X.K = K := by rfl) : CallR X (.builtin "max") (rMax K) := e ▸ cr_max hc
end L2
namespace K0
open PySem PySem.Spec PyProof.Rows L2 MN
/-! ### the next round, by the law -/
theorem filt_first {p : Str → Bool} : ∀ {l : List Str} {m : Str}, m ∈ l → p m = true → ∃ dn x rs t, l = dn ++ x :: rs ∧ (∀ y ∈ dn, p y = false) ∧ p x = true ∧ l.filter p = x :: t
  | a :: l, m, hm, hp => by
    cases e : p a with
    | true => exact ⟨[], a, l, l.filter p, rfl, fun _ h => (by cases h), e, by rw [List.filter_cons, if_pos e]⟩
    | false =>
      rcases List.mem_cons.mp hm with h | h
      · rw [h, e] at hp; cases hp
      · obtain ⟨dn, x, rs, t, e1, e2, e3, e4⟩ := filt_first h hp
        refine ⟨a :: dn, x, rs, t, by rw [e1]; rfl, fun y hy => ?_, e3, ?_⟩
        · rcases List.mem_cons.mp hy with h | h
          · rw [h]; exact e
          · exact e2 y h
        · rw [List.filter_cons, if_neg (by rw [e]; decide), e4]
abbrev scLNext_N : List Str := ["_law_rows", "_law_ways", "_law_names_here", "_law_ahead_here", "_law_name", "_law_depths", "_law_at", "_law_before", "_law_behind", "_law_one"]
abbrev scLNext_S : Stmt := sLNext
theorem scLNext : FnScope scLNext_N ["_law_rows", "_law_ways", "_law_names_here", "_law_ahead_here"] (defScope sLNext) := ⟨rfl, rfl, rfl, by decide +kernel, rfl, by decide +kernel, by decide +kernel⟩
def spLNext : Sp := fun vs H Q _ => ∃ (l d t h : Addr) (S : List Str) (AL AP : List (Addr × Row)) (B : List RRow), vs = [.ref l, .ref d, .ref t, .ref h] ∧ RowsAt H l AL ∧ GoodRows (rowsOf AL) ∧ RtOk (rowsOf AL) B ∧ WaysL H d (rnm B) (wayN (rowsOf AL) B) ∧ FT H t S ∧ RdOk (rowsOf AL) B S ∧ RowsAt H h AP ∧ (∀ r ∈ rowsOf AP, Plain r.1 ∧ Plain r.2) ∧
  ∀ H' u, Same H H' → FT H' u (stepS (rowsOf AP) (rowsOf AL) B S) → Q (.ref u) H'
section
variable {P : Program} {w : World} {K : PySem.W.Frag} {mg : Str → Option Value} {base : Heap} {tS tM tL : Tok}
theorem ok_lnext {f fC : Addr} {fd fdC : FuncData} (F : FnP K "_law_next" sLNext f fd) (F_law_course : FnP K "_law_course" sLCourse fC fdC) (g_law_course : mg "_law_course" = some (.ref fC)) (B : Bl mg) : FnOk P w K mg base CX0 2 f fd ["_law_rows", "_law_ways", "_law_names_here", "_law_ahead_here"] spLNext := by
  have G_law_course : FnOk P w K mg base CX0 1 fC fdC ["_law_rows", "_law_weir"] spLCourse := ok_lcourse F_law_course B
  have b_law_course : Binds K fdC ["_law_rows", "_law_weir"] [] := F_law_course.bindsN fun _ _ _ _ _ _ us hl => match us, hl with | [_, _], _ => rfl
  refine F.ok scLNext (fun vs H Q E h => ?_) (fun cdv A outer s H vs Q E hr h => ?_)
  · obtain ⟨l, d, t, h, S, AL, AP, BB, rfl, _⟩ := h
    rfl
  · obtain ⟨l, d, t, h, S, AL, AP, BB, rfl, hL, hg, hb, W, ht, hS, hA, hAp, k⟩ := h
    have hu := hu_of hr
    have hr_law_course : Room 1 _ := hr
    have hu65 : (A.deeper (envOfC (Str.ofString "_law_next") (defScope sLNext) s.heap.objs.size f cdv)).units + 65 < cLine := by
      have := hr.un
      omega
    refine ⟨_, PSs.nox (pss_cons
      (ps_set (i := 5) scLNext.nd rfl (Or.inr rfl) (pe_lc (own := [("_law_name", 4)]) (g := gName 4) (tt := tYes) (by rfl) scLNext.nd (pi_tup (pv 2)) (blkOk_by (own := [("_law_name", 4)]) (N := scLNext_N) (sc := defScope scLNext_S) (by decide +kernel)) (fun _ _ _ _ _ => (pg_name (i := 4) scLNext.nd rfl (Or.inl rfl))) (fun _ _ _ _ _ => pts_nil) (fun _ _ _ _ _ => (pe_callB (lenK (K := K)) (by rfl) B.len PySem.boot_len (pa_cons (pe_call G_law_course hr_law_course (by rfl) g_law_course F_law_course.kp b_law_course .nil pass0 (pa_cons (pv 0) (pa_cons (pe_ix (ixLK (K := K)) (pe_dget hu (pv 1) (pv 4) (fun _ _ => rfl)) (pe_un un_neg pe_int) (fun _ _ => rfl)) pa_nil))) pa_nil)))))
      (pss_cons
      (ps_set (i := 4) scLNext.nd rfl (Or.inl rfl) (pe_ix (ixLK (K := K)) (pe_lock (pe_lc (own := [("_law_one", 9)]) (g := gName 9)  (by rfl) scLNext.nd (pi_keys (pv 1)) (blkOk_by (own := [("_law_one", 9)]) (N := scLNext_N) (sc := defScope scLNext_S) (by decide +kernel)) (fun _ _ _ _ _ => (pg_name (i := 9) scLNext.nd rfl (Or.inl rfl))) (fun _ _ _ _ _ => (pts_one (PW.pt (pw_and (pt_cmpR (inK (K := K)) (pv 9) (pv 2) (by rfl)) (pw_and1 (pt_cmpR op_eq (pe_ix (ixLK (K := K)) (pv 5) (pe_tidx (K := K) (pv 2) (pa_cons (pv 9) pa_nil)) (fun _ _ => rfl)) (pe_callB (maxK (K := K) rfl) (by rfl) B.max (by decide +kernel) (pa_cons (pv 5) pa_nil)) (nomark _))))))) (fun _ _ _ _ _ => (pv 9)))) pe_int (fun _ _ => rfl)))
      (pss_cons
      (ps_set (i := 6) scLNext.nd rfl (Or.inl rfl) (pe_tidx (K := K) (pv 2) (pa_cons (pv 4) pa_nil)))
      (pss_cons
      (ps_par (i := 7) (j := 8) (by rfl) scLNext.nd rfl rfl (by decide) rfl rfl (pa_cons (pe_ix (ixTK (K := K)) (pv 2) (pe_op op_sub (pv 6) pe_int) (fun _ _ => rfl)) (pa_cons (pe_ifExp (pt_cmpR op_lt (pe_op op_add (pv 6) pe_int) (pe_callB (lenK (K := K)) (by rfl) B.len PySem.boot_len (pa_cons (pv 2) pa_nil)) (nomark _)) (pe_ix (ixTK (K := K)) (pv 2) (pe_op op_add (pv 6) pe_int) (fun _ _ => rfl)) (pe_ix (ixTK (K := K)) (pv 2) pe_int (fun _ _ => rfl))) pa_nil)) (by rfl))
      (pss_cons
      (ps_if (pt_cmpR (inDK (K := K) hu65) (pe_tup (pa_cons (pv 7) (pa_cons (pv 8) pa_nil))) (pv 3) (by rfl)) (pss_one
      (ps_ret (pe_op (catFK (K := K)) (pe_slice (slFK (K := K)) (pv 2) po_none (po_some (pv 6))) (pe_slice (slFK (K := K)) (pv 2) (po_some (pe_op op_add (pv 6) pe_int)) po_none)))) pss_nil)
      (pss_one
      (ps_ret (pe_tupF (pa_cons (pv 7) (pa_cons (pv 4) (pa_cons (pv 8) pa_nil))))))))))), ?_⟩
    have hm := hb.most
    have hln : (rnm BB).length = BB.length := List.length_map _
    have hk := deepest_ex (R := rowsOf AL) (B := BB) (S := S) hS.one
    have hS40 := hS.most
    -- depths
    refine ⟨_, rfl, t, rfl, ⟨_, .inl ht.rd⟩, fun D nD => ?_⟩
    refine lc_tupO (K := K) (a := t) (xs := S.map V.str) nD (fun j => ((S.take j).map fun n => (depthN (rowsOf AL) BB n : Int)).map V.int) (by rw [List.take_zero]; rfl) (fun j hj => by rw [List.length_map] at hj; rw [List.length_map, List.length_map, List.length_take]; exact small1000 (by omega)) (fun H2 s2 => .inl (ht.same s2).rd) ?_ ?_
    · intro j x H2 Nx hx s2 put skip
      rw [List.getElem?_map] at hx
      obtain ⟨n, hn, rfl⟩ := Option.map_eq_some_iff.mp hx
      have hnm := hS.mem n (List.mem_of_getElem? hn)
      obtain ⟨ta, w1, w2⟩ := id (W.same s2).ex
      refine ⟨rfl, ?_⟩
      unfold tYes
      refine iteT ?_
      refine ⟨_, rfl, _, rfl, _, rfl, d, _, rfl, dget_rn (.inl w1) hnm, _, rfl, ta n, _, _, .str (lastW (wayN (rowsOf AL) BB n)), rfl, rfl, .inl (.inl (w2 n hnm)), (way_ne hg hb hnm).1, ?_⟩
      refine ⟨l, AL, _, rfl, hL.same s2, hg, (last_in hg hb hnm).2, fun H3 c s3 nc hc => ?_⟩
      refine ⟨c, _, rfl, .inl (.inl (.inl hc)), ?_⟩
      refine put _ _ s3 ?_
      rw [take_map1 hn, List.map_append, List.length_map]
      rfl
    intro H2 s2 hD2
    rw [List.length_map, List.take_length] at hD2
    -- the deepest, first in order
    have key : ∃ mx : Int, mx = (depthN (rowsOf AL) BB (S.getD (kOf (rowsOf AL) BB S) "") : Int) := ⟨_, rfl⟩
    obtain ⟨mx, emx⟩ := key
    have hmx : ∀ y ∈ S, (depthN (rowsOf AL) BB y : Int) ≤ mx := fun y hy => by
      obtain ⟨j, hj, rfl⟩ := List.mem_iff_getElem.mp hy
      have := deepest_le hk hj
      rw [getD_at hj] at this
      omega
    have hk0m : S.getD (kOf (rowsOf AL) BB S) "" ∈ S := getD_mem hk.1
    obtain ⟨dn, x0, rs, tl, e1, e2, e3, e4⟩ := filt_first (p := fun n => decide (n ∈ S) && decide ((depthN (rowsOf AL) BB n : Int) = mx)) (hS.mem _ hk0m) (by rw [decide_eq_true hk0m, decide_eq_true emx.symm]; rfl)
    have e3 : x0 ∈ S ∧ (depthN (rowsOf AL) BB x0 : Int) = mx := by
      have := e3
      rw [Bool.and_eq_true, decide_eq_true_eq, decide_eq_true_eq] at this
      exact this
    have hx0 : x0 ∈ rnm BB := hS.mem _ e3.1
    have ht2 := ht.same s2
    obtain ⟨ta, w1, w2⟩ := id (W.same s2).ex
    refine ⟨d, _, w1, trivial, fun od => ?_⟩
    refine ⟨_, rfl, d, od, rfl, .inl ⟨_, upd_same, fun nl hnl => ?_⟩⟩
    have hfz : ∀ H5, Same (upd H2 d (.frz od (.dK (kmap (fun y => .ref (ta y)) (rnm BB))))) H5 → H5 d = some (.frz od (.dK (kmap (fun y => .ref (ta y)) (rnm BB)))) := fun H5 s => s _ _ upd_same
    have htd : t ≠ d := ht2.ne w1 (fun _ _ z => by cases z)
    have hft : FT (upd H2 d (.frz od (.dK (kmap (fun y => .ref (ta y)) (rnm BB))))) t S := ht2.upd htd
    have hfD : (upd H2 d (.frz od (.dK (kmap (fun y => .ref (ta y)) (rnm BB))))) D = some (.lst ((S.map fun n => (depthN (rowsOf AL) BB n : Int)).map V.int)) := by
      rw [upd_ne (ne_of hD2 w1 (fun z => by cases z))]
      exact hD2
    refine lc_itO (walk_keys (kvs := kmap (fun y => .ref (ta y)) (rnm BB))) hnl (fun j => (((rnm BB).take j).filter fun n => decide (n ∈ S) && decide ((depthN (rowsOf AL) BB n : Int) = mx)).map V.str) (by rw [List.take_zero]; rfl) (fun j _ => filt_size (by omega) j) (fun H5 s => hfz _ s) ?_ ?_
    · rintro j x H5 H5' Nx hj s hcur put skip ⟨rfl, k0, v0, hkv, rfl⟩
      obtain ⟨n, hn, rfl, rfl⟩ := kmap_get hkv
      have e := filt_take (p := fun n => decide (n ∈ S) && decide ((depthN (rowsOf AL) BB n : Int) = mx)) hn
      have hft5 := hft.same s
      refine ⟨rfl, ?_⟩
      refine ⟨_, rfl, _, rfl, t, _, rfl, .inr (.inl hft5.rd), rfl, flat_strs _, _, rfl, ?_⟩
      have ei : inV (kV (Sum.inr n)) (S.map V.str) = decide (n ∈ S) := inV_str _ _
      refine ite2 (fun hh => ?_) (fun hh => ?_)
      · have hh : n ∈ S := by
          have h2 : inV (kV (Sum.inr n)) (S.map V.str) = true := hh
          rw [ei] at h2
          exact of_decide_eq_true h2
        obtain ⟨o5, po5, f5⟩ := id hft5
        have hid : S.idxOf n < S.length := List.idxOf_lt_length_iff.mpr hh
        refine ⟨_, rfl, _, rfl, ⟨t, o5, _, rfl, f5, po5⟩, _, rfl, t, S, n, _, rfl, rfl, .inl hft5.rd, hat_idx hh, fst_idx, D, _, _, .int (depthN (rowsOf AL) BB n : Int), rfl, rfl, .inl (.inl (s _ _ hfD)), atI_nat (by rw [List.map_map, List.getElem?_map, hat_idx hh]; rfl), ?_⟩
        refine ⟨_, rfl, D, _, rfl, .inl (.inl (s _ _ hfD)), by rw [List.length_map]; have := hS.one; omega, fun m0 hm1 hm2 => ?_⟩
        obtain rfl : m0 = mx := by
          obtain ⟨y, hy, rfl⟩ := List.mem_map.mp hm1
          have a1 := hmx y hy
          have a2 := hm2 _ (List.mem_map.mpr ⟨_, hk0m, rfl⟩)
          omega
        refine ⟨rfl, _, rfl, ?_⟩
        refine ite2 (fun hq => ?_) (fun hq => ?_)
        · have hq : (depthN (rowsOf AL) BB n : Int) = m0 := V.int.inj (of_decide_eq_true hq)
          rw [decide_eq_true hh, decide_eq_true hq, if_pos (by rfl)] at e
          refine ⟨_, rfl, put _ _ (.refl _) ?_⟩
          rw [e, List.map_append]
          rfl
        · have hq : ¬ (depthN (rowsOf AL) BB n : Int) = m0 := fun z => hq (decide_eq_true (congrArg V.int z))
          rw [decide_eq_false hq, Bool.and_false, if_neg Bool.false_ne_true, List.append_nil] at e
          exact skip _ (.refl _) (congrArg _ e)
      · have hh : ¬ n ∈ S := fun z => hh (by
          show inV (kV (Sum.inr n)) (S.map V.str) = true
          rw [ei, decide_eq_true z])
        rw [decide_eq_false hh, Bool.false_and, if_neg Bool.false_ne_true, List.append_nil] at e
        exact skip _ (.refl _) (congrArg _ e)
    intro H5 s5 hnl5
    rw [kmap_len, List.take_length, e4] at hnl5
    have dnl : nl ≠ d := fun z => by rw [z, upd_same] at hnl; cases hnl
    refine ⟨hfz _ s5, ?_⟩
    have s6 : Same H2 (upd H5 d (.dK (kmap (fun y => V.ref (ta y)) (rnm BB)))) := same_unlock w1 s5
    have hN6 : (upd H5 d (.dK (kmap (fun y => V.ref (ta y)) (rnm BB)))) nl = some (.lst ((x0 :: tl).map V.str)) := by rw [upd_ne dnl]; exact hnl5
    generalize upd H5 d (.dK (kmap (fun y => V.ref (ta y)) (rnm BB))) = H6 at s6 hN6
    clear hfz hft hfD s5 hnl5
    have s06 := s2.trans s6
    have ht6 := ht.same s06
    obtain ⟨o6, po6, f6⟩ := id ht6
    refine ⟨nl, _, _, .str x0, rfl, rfl, .inl (.inl hN6), atI_nat (j := 0) rfl, ?_⟩
    -- it is the one
    have hat := hat_idx e3.1
    have hid : S.idxOf x0 < S.length := List.idxOf_lt_length_iff.mpr e3.1
    have egx : S.getD (S.idxOf x0) "" = x0 := by rw [List.getD_eq_getElem?_getD, hat]; rfl
    have hdeep : Deepest (rowsOf AL) BB S (S.idxOf x0) := by
      refine ⟨hid, fun j hj => ?_⟩
      unfold lt3 keyD
      rw [decide_eq_false_iff_not, egx]
      dsimp only
      have hjm := getD_mem hj
      have h1 := hmx _ hjm
      have h2 := e3.2
      rcases Nat.lt_or_ge (depthN (rowsOf AL) BB (S.getD j "")) (depthN (rowsOf AL) BB x0) with q | q
      · omega
      · have hje : (depthN (rowsOf AL) BB (S.getD j "") : Int) = mx := by omega
        have hnd : S.getD j "" ∉ dn := fun z => by
          have := e2 _ z
          rw [decide_eq_true hjm, decide_eq_true hje] at this
          cases this
        have hjr := hS.mem _ hjm
        have i1 : (rnm BB).idxOf x0 ≤ dn.length := by
          rw [e1, List.idxOf_append]
          split
          · exact Nat.le_of_lt (List.idxOf_lt_length_iff.mpr (by assumption))
          · rw [List.idxOf_cons_self]
            omega
        have i2 : dn.length ≤ (rnm BB).idxOf (S.getD j "") := by
          rw [e1, List.idxOf_append, if_neg hnd]
          omega
        rcases Nat.lt_or_ge ((rnm BB).idxOf x0) ((rnm BB).idxOf (S.getD j "")) with r | r
        · omega
        · have e5 : (rnm BB).idxOf (S.getD j "") = (rnm BB).idxOf x0 := by omega
          have e6 : S.getD j "" = x0 := by
            have a1 := hat_idx hjr
            rw [e5, hat_idx hx0] at a1
            exact (Option.some.inj a1).symm
          have e7 := getD_inj hS.nd hj hid (by rw [e6, egx])
          omega
    have ek := kOf_eq hdeep
    have eS : stepS (rowsOf AP) (rowsOf AL) BB S = if (prevS S (S.idxOf x0), nextS S (S.idxOf x0)) ∈ rowsOf AP then S.take (S.idxOf x0) ++ S.drop (S.idxOf x0 + 1) else [prevS S (S.idxOf x0), S.getD (S.idxOf x0) "", nextS S (S.idxOf x0)] := by unfold stepS; rw [ek]
    rw [eS, egx] at k
    clear eS ek hdeep egx
    refine ⟨_, rfl, ⟨t, o6, _, rfl, f6, po6⟩, _, rfl, t, S, x0, _, rfl, rfl, .inl ht6.rd, hat, fst_idx, ?_⟩
    generalize S.idxOf x0 = kk at k hid hat
    have getm : ∀ {j : Nat}, j < S.length → S.getD j "" ∈ S := fun {j} hj => getD_mem hj
    have pP : Plain (prevS S kk) := name_pl hb (hS.mem _ (getm (Nat.mod_lt _ (by omega))))
    have pN : Plain (nextS S kk) := name_pl hb (hS.mem _ (getm (Nat.mod_lt _ (by omega))))
    refine ⟨_, rfl, _, rfl, _, _, rfl, rfl, t, _, _, _, rfl, rfl, .inl ht6.rd, prev_at hid, ?_⟩
    refine split_if' (α := V) (R := fun v => v = .str (nextS S kk)) (C := ?C) ?use ?key
    case use =>
      intro key
      refine ⟨_, rfl, _, _, rfl, rfl, _, rfl, t, _, rfl, .inr (.inl ht6.rd), _, _, rfl, rfl, _, rfl, ?_⟩
      rw [List.length_map]
      have en : nextS S kk = if kk + 1 = S.length then S.getD 0 "" else S.getD (kk + 1) "" := by
        unfold nextS
        rw [mod_next hid]
        split <;> rfl
      have at0 : ∀ {j : Nat}, j < S.length → (S.map V.str)[j]? = some (V.str (S.getD j "")) := fun {j} hj => by rw [List.getElem?_map, List.getElem?_eq_getElem hj, getD_at hj]; rfl
      refine ite2 (fun q => ?_) (fun q => ?_)
      · have q : kk + 1 < S.length := by
          have := of_decide_eq_true q
          omega
        rw [if_neg (by omega)] at en
        refine ⟨_, rfl, _, rfl, _, _, rfl, rfl, t, _, _, .str (nextS S kk), rfl, rfl, .inl ht6.rd, by rw [show (kk : Int) + 1 = ((kk + 1 : Nat) : Int) by omega, en]; exact atI_nat (at0 q), ?_⟩
        generalize ev : V.str (nextS S kk) = v0
        exact key v0 ev.symm
      · have q : ¬ kk + 1 < S.length := fun z => q (decide_eq_true (by omega))
        rw [if_pos (by omega)] at en
        refine ⟨_, rfl, t, _, _, .str (nextS S kk), rfl, rfl, .inl ht6.rd, by rw [en]; exact atI_nat (j := 0) (at0 (by omega)), ?_⟩
        generalize ev : V.str (nextS S kk) = v0
        exact key v0 ev.symm
    case key =>
      rintro v rfl
      refine ⟨_, _, rfl, ?_⟩
      generalize prevS S kk = pv0 at k pP
      generalize nextS S kk = nx0 at k pN
      refine ⟨_, rfl, _, rfl, by show 2 ≤ sizeLine; decide, fun t2 nt2 => ?_⟩
      have s7 : Same H6 (upd H6 t2 (.tup [.str pv0, .str nx0])) := same_upd nt2
      have ht2' : (upd H6 t2 (.tup [.str pv0, .str nx0])) t2 = some (.tup [.str pv0, .str nx0]) := upd_same
      generalize upd H6 t2 (.tup [.str pv0, .str nx0]) = H7 at s7 ht2'
      have s07 := s06.trans s7
      have hA7 := hA.same s07
      have ht7 := ht.same s07
      have shp : SeqAt.shaped (.tuple [.str pv0, .str nx0]) = true := shaped_tup (l := [pv0, nx0]) fun y hy => by
        rcases List.mem_cons.mp hy with e | e
        · rw [e]; exact pP
        · rw [List.mem_singleton.mp e]; exact pN
      refine ⟨_, rfl, _, _, .tup (.inl (.inl ht2')) (.cons (.str _) (.cons (.str _) .nil)), .lst (.inl (.inl hA7.lst)) (dp_rows hA7.tup), shp, shaped_rows hAp, _, rfl, ?_⟩
      rw [row_any]
      refine ite2 (fun q => ?_) (fun q => ?_)
      · have q : (pv0, nx0) ∈ rowsOf AP := of_decide_eq_true q
        rw [if_pos q] at k
        refine ⟨_, rfl, _, rfl, _, rfl, ?_⟩
        refine sl_ft ht7 (L := S.take kk) (by rw [cut_take, List.map_take]) fun u1 H8 s8 hu1 => ?_
        refine ⟨_, rfl, _, rfl, _, _, rfl, rfl, _, rfl, ?_⟩
        show rSlF K (V.ref t) (some ((kk : Int) + 1)) none H8 (fun y H2 => rCatF K (V.ref u1) y H2 Q)
        refine sl_ft (lo := some ((kk : Int) + 1)) (hi := none) (ht7.same s8) (L := S.drop (kk + 1)) (by rw [show ((kk : Int) + 1) = ((kk + 1 : Nat) : Int) by omega, cut_drop, List.map_drop]) fun u2 H9 s9 hu2 => ?_
        exact cat_ft (hu1.same s9) hu2 (by rw [List.length_take, List.length_drop]; omega) fun u3 H10 s10 hu3 => k H10 u3 (((s07.trans s8).trans s9).trans s10) hu3
      · have q : ¬ (pv0, nx0) ∈ rowsOf AP := fun z => q (decide_eq_true z)
        rw [if_neg q] at k
        refine ⟨_, rfl, _, rfl, _, rfl, by show 3 ≤ sizeLine; decide, fun u o nu po => ?_⟩
        exact k _ u (s07.trans (same_upd nu)) ⟨o, po, upd_same⟩
end
end K0
end
section
set_option Elab.async false
set_option linter.all false
set_option maxRecDepth 100000
set_option maxHeartbeats 8000000
namespace K0
open PySem PySem.Spec PyProof.Rows L2 MN
/-! ### all rounds are told as they must be -/
structure FtsL (H : Hp) (l : Addr) (Ss : List (List Str)) : Prop where
  ex : ∃ ts : List Addr, H l = some (.lst (ts.map V.ref)) ∧ ts.length = Ss.length ∧ ∀ (i : Nat) (t : Addr) (S : List Str), ts[i]? = some t → Ss[i]? = some S → FT H t S
theorem FtsL.same {H H' : Hp} {l : Addr} {Ss : List (List Str)} (h : FtsL H l Ss) (s : Same H H') : FtsL H' l Ss := by
  obtain ⟨ts, h1, h2, h3⟩ := h.ex
  exact ⟨ts, s _ _ h1, h2, fun i t S a b => (h3 i t S a b).same s⟩
theorem FtsL.tups {H : Hp} {l : Addr} {Ss : List (List Str)} (h : FtsL H l Ss) : TupsL H l Ss := by
  obtain ⟨ts, h1, h2, h3⟩ := h.ex
  exact ⟨ts, h1, h2, fun i t S a b => (h3 i t S a b).rd⟩
theorem FtsL.last {H : Hp} {l : Addr} {Ss : List (List Str)} {S : List Str} (h : FtsL H l (Ss ++ [S])) : ∃ (ini : List Addr) (t : Addr), H l = some (.lst (ini.map V.ref ++ [.ref t])) ∧ FT H t S ∧ ini.length = Ss.length := by
  obtain ⟨ts, h1, h2, h3⟩ := h.ex
  rw [List.length_append] at h2
  have h2 : ts.length = Ss.length + 1 := h2
  rcases List.eq_nil_or_concat ts with e | ⟨ini, t, e⟩
  · rw [e] at h2
    cases h2
  · rw [List.concat_eq_append] at e
    subst e
    rw [List.length_append] at h2
    have h2 : ini.length = Ss.length := Nat.succ.inj h2
    refine ⟨ini, t, by rw [h1, List.map_append]; rfl, h3 Ss.length t S ?_ ?_, h2⟩
    · rw [← h2, List.getElem?_append_right (Nat.le_refl _), Nat.sub_self]
      rfl
    · rw [List.getElem?_append_right (Nat.le_refl _), Nat.sub_self]
      rfl
theorem FtsL.snoc {H : Hp} {l v : Addr} {Ss : List (List Str)} {S : List Str} (h : FtsL H l Ss) (hv : FT H v S) : ∃ acc, H l = some (.lst acc) ∧ acc.length = Ss.length ∧ FtsL (upd H l (.lst (acc ++ [.ref v]))) l (Ss ++ [S]) := by
  obtain ⟨ts, h1, h2, h3⟩ := h.ex
  have nl : ∀ {a : Addr} {L : List Str}, FT H a L → FT (upd H l (.lst (ts.map V.ref ++ [.ref v]))) a L := fun {a L} h => h.upd (h.ne h1 (fun _ _ z => by cases z))
  refine ⟨_, h1, by rw [List.length_map]; exact h2, ts ++ [v], by rw [upd_same, List.map_append]; rfl, by rw [List.length_append, List.length_append, h2]; rfl, fun i a L e1 e2 => ?_⟩
  rcases Nat.lt_or_ge i ts.length with q | q
  · rw [List.getElem?_append_left q] at e1
    rw [List.getElem?_append_left (by omega)] at e2
    exact nl (h3 i a L e1 e2)
  · rw [List.getElem?_append_right q] at e1
    rw [List.getElem?_append_right (by omega)] at e2
    have : i - ts.length = 0 := by
      have := (List.getElem?_eq_some_iff.mp e1).1
      rw [List.length_singleton] at this
      omega
    rw [this] at e1
    rw [show i - Ss.length = 0 by omega] at e2
    cases e1
    cases e2
    exact nl hv
/-- rounds as data -/
def txD (S : List Str) : PyData := .tuple (S.map PyData.str)
theorem eqv_txs : ∀ a : List (List Str), PyData.eqvAll (a.map txD) (a.map txD) = true
  | [] => by simp only [List.map_nil, PyData.eqvAll]
  | S :: a => by simp only [List.map_cons, PyData.eqvAll, txD, PyData.eqv, eqv_strs, eqv_txs a, Bool.and_self]
theorem canLay_txs : ∀ {a : List (List Str)}, (∀ S ∈ a, ∀ y ∈ S, Plain y) → PyData.canLayAll0 (a.map txD) = true
  | [], _ => by simp only [List.map_nil, PyData.canLayAll0]
  | S :: a, h => by
    have ih := canLay_txs fun z hz => h z (List.mem_cons_of_mem _ hz)
    simp only [List.map_cons, PyData.canLayAll0, txD, PyData.canLay0, ih, canLay_strs (h S List.mem_cons_self), Bool.and_self]
theorem depth_txs : ∀ a : List (List Str), PyData.depthAll (a.map txD) ≤ 1
  | [] => by simp only [List.map_nil, PyData.depthAll]; omega
  | S :: a => by
    have ih := depth_txs a
    have e := depth_strs S
    simp only [List.map_cons, PyData.depthAll, txD, PyData.depth, e]
    omega
theorem shaped_txs {a : List (List Str)} (h : ∀ S ∈ a, ∀ y ∈ S, Plain y) : SeqAt.shaped (.list (a.map txD)) = true := by
  have h2 := depth_txs a
  have h3 : PyData.depthAll (a.map txD) + 1 ≤ 64 := by omega
  unfold SeqAt.shaped
  simp only [PyData.canLay0, PyData.depth, canLay_txs h, h3]
  rfl
theorem dp_txs {K : PySem.W.Frag} {H : Hp} : ∀ {ts : List Addr} {Ss : List (List Str)}, ts.length = Ss.length → (∀ (i : Nat) (t : Addr) (S : List Str), ts[i]? = some t → Ss[i]? = some S → TxR H t S) → DpAll K H (ts.map V.ref) (Ss.map txD)
  | [], [], _, _ => .nil
  | [], _ :: _, e, _ => by cases e
  | _ :: _, [], e, _ => by cases e
  | t :: ts, S :: Ss, e, h => .cons (.tup (.inl (h 0 t S rfl rfl)) (dp_strs S)) (dp_txs (Nat.succ.inj e) fun i t S a b => h (i + 1) t S a b)
theorem TupsL.dp {K : PySem.W.Frag} {H : Hp} {l : Addr} {Ss : List (List Str)} (h : TupsL H l Ss) : Dp K H (.ref l) (.list (Ss.map txD)) := by
  obtain ⟨ts, h1, h2, h3⟩ := h.ex
  exact .lst (.inl (.inl h1)) (dp_txs h2 h3)
theorem eqv_nilL (l : List Str) : PyData.eqv (.list (l.map PyData.str)) (.list []) = decide (l = []) := by
  cases l with
  | nil => simp only [List.map_nil, PyData.eqv, PyData.eqvAll]; rfl
  | cons a l => simp only [List.map_cons, PyData.eqv, PyData.eqvAll]; rfl
theorem step_ok {A R : List Row} {B : List RRow} {S : List Str} (h : RdOk R B S) (h4 : 3 < S.length) : RdOk R B (stepS A R B S) ∧ (stepS A R B S).length < S.length := by
  have hk := deepest_ex (R := R) (B := B) (S := S) (by omega)
  have hk1 := hk.1
  have hm := h.most
  unfold stepS
  split
  · have hl : (S.take (kOf R B S) ++ S.drop (kOf R B S + 1)).length = S.length - 1 := by
      rw [List.length_append, List.length_take, List.length_drop]
      omega
    have hsub : (S.take (kOf R B S) ++ S.drop (kOf R B S + 1)).Sublist S := by
      have e : S.take (kOf R B S) ++ S.drop (kOf R B S) = S := List.take_append_drop _ _
      conv => rhs; rw [← e]
      exact List.Sublist.append (List.Sublist.refl _) (by
        rw [← List.drop_drop]
        exact List.drop_sublist _ _)
    exact ⟨⟨by omega, by omega, fun x hx => h.mem x (hsub.subset hx), h.nd.sublist hsub⟩, by omega⟩
  · have hp : (kOf R B S + S.length - 1) % S.length < S.length := Nat.mod_lt _ (by omega)
    have hn : (kOf R B S + 1) % S.length < S.length := Nat.mod_lt _ (by omega)
    have d1 : prevS S (kOf R B S) ≠ S.getD (kOf R B S) "" := fun e => by
      have := getD_inj h.nd hp hk1 e
      rw [mod_prev hk1] at this
      split at this <;> omega
    have d2 : S.getD (kOf R B S) "" ≠ nextS S (kOf R B S) := fun e => by
      have := getD_inj h.nd hk1 hn e
      rw [mod_next hk1] at this
      split at this <;> omega
    have d3 : prevS S (kOf R B S) ≠ nextS S (kOf R B S) := fun e => by
      have := getD_inj h.nd hp hn e
      rw [mod_prev hk1, mod_next hk1] at this
      split at this <;> split at this <;> omega
    refine ⟨⟨by show 1 ≤ 3; decide, by show 3 ≤ 40; decide, fun x hx => ?_, ?_⟩, h4⟩
    · rcases List.mem_cons.mp hx with e | e
      · rw [e]; exact h.mem _ (getD_mem hp)
      · rcases List.mem_cons.mp e with e | e
        · rw [e]; exact h.mem _ (getD_mem hk1)
        · rw [List.mem_singleton.mp e]; exact h.mem _ (getD_mem hn)
    · simp only [List.nodup_cons, List.mem_cons, List.not_mem_nil, or_false, not_or, not_false_eq_true, List.nodup_nil, and_true]
      exact ⟨⟨d1, d3⟩, d2⟩
abbrev scLShR_N : List Str := ["_law_rows", "_law_told", "_law_ways", "_law_names_here", "_law_ahead_here", "_law_kept", "_law_due", "_law_step", "_law_found", "_law_last", "_law_shared", "_law_one", "_law_weir"]
abbrev scLShR_S : Stmt := sLShrunkR
theorem scLShR : FnScope scLShR_N ["_law_rows", "_law_told", "_law_ways", "_law_names_here", "_law_ahead_here"] (defScope sLShrunkR) := ⟨rfl, rfl, rfl, by decide +kernel, rfl, by decide +kernel, by decide +kernel⟩
def spLShR (Cg Cr : Addr) : Sp := fun vs H Q _ => ∃ (l p d t h q : Addr) (S : List Str) (AL AP AR : List (Addr × Row)) (BR : List (Addr × RRow)), vs = [.ref l, .ref p, .ref d, .ref t, .ref h] ∧ RowsAt H l AL ∧ rowsOf AL = rowsOf AR ∧ RigOk Cg Cr H p q AR BR ∧ WaysL H d (rnm (bOf BR)) (wayN (rowsOf AR) (bOf BR)) ∧ FT H t S ∧ RdA (rowsOf AP) (rowsOf AR) (bOf BR) S ∧ RowsAt H h AP ∧ Ahead (rowsOf AR) (bOf BR) (rowsOf AP) ∧ AP.length ≤ 1640 ∧ ∀ H', Same H H' → Q (.bl true) H'
section
variable {P : Program} {w : World} {K : PySem.W.Frag} {mg : Str → Option Value} {base : Heap} {tS tM tL : Tok}
theorem ok_lshr {f fN fR fG fS fU fC Cg Cr : Addr} {fd fdN fdR fdG fdS fdU fdC : FuncData} (F : FnP K "_law_shrunk_right" sLShrunkR f fd) (F_law_next : FnP K "_law_next" sLNext fN fdN) (g_law_next : mg "_law_next" = some (.ref fN)) (F_law_course : FnP K "_law_course" sLCourse fC fdC) (g_law_course : mg "_law_course" = some (.ref fC)) (F_law_is_round : FnP K "_law_is_round" sLIsRound fR fdR) (g_law_is_round : mg "_law_is_round" = some (.ref fR))
    (Fgoes_round : FnP K "goes_round" sGoesRound fG fdG) (ggoes_round : mg "goes_round" = some (.ref fG)) (Ggoes_round : FnOk P w K mg base CX0 2 fG fdG ["names", "ahead"] (spGoes K)) (Fshrunk : FnP K "shrunk" sShrunk fS fdS) (gshrunk : mg "shrunk" = some (.ref fS)) (Gshrunk : FnOk P w K mg base CX0 7 fS fdS ["rights", "names", "ahead"] (spShrunk Cg Cr))
    (Fline_up : FnP K "line_up" sLineUp fU fdU) (gline_up : mg "line_up" = some (.ref fU)) (Gline_up : FnOk P w K mg base CX0 5 fU fdU ["rights", "ahead"] (spLineUp Cg Cr)) (hset : mg "set" = none) (B : Bl mg) : FnOk P w K mg base CX0 8 f fd ["_law_rows", "_law_told", "_law_ways", "_law_names_here", "_law_ahead_here"] (spLShR Cg Cr) := by
  have G_law_next : FnOk P w K mg base CX0 2 fN fdN ["_law_rows", "_law_ways", "_law_names_here", "_law_ahead_here"] spLNext := ok_lnext F_law_next F_law_course g_law_course B
  have b_law_next : Binds K fdN ["_law_rows", "_law_ways", "_law_names_here", "_law_ahead_here"] [] := F_law_next.bindsN fun _ _ _ _ _ _ us hl => match us, hl with | [_, _, _, _], _ => rfl
  have G_law_is_round : FnOk P w K mg base CX0 1 fR fdR ["_law_names_here", "_law_ahead_here"] (spLIsRound K) := ok_lisround F_law_is_round hset B
  have b_law_is_round : Binds K fdR ["_law_names_here", "_law_ahead_here"] [] := F_law_is_round.bindsN fun _ _ _ _ _ _ us hl => match us, hl with | [_, _], _ => rfl
  have bgoes_round : Binds K fdG ["names", "ahead"] [] := Fgoes_round.bindsN fun _ _ _ _ _ _ us hl => match us, hl with | [_, _], _ => rfl
  have bshrunk : Binds K fdS ["rights", "names", "ahead"] [] := Fshrunk.bindsN fun _ _ _ _ _ _ us hl => match us, hl with | [_, _, _], _ => rfl
  have bline_up : Binds K fdU ["rights", "ahead"] [] := Fline_up.bindsN fun _ _ _ _ _ _ us hl => match us, hl with | [_, _], _ => rfl
  refine F.ok scLShR (fun vs H Q E h => ?_) (fun cdv A outer s H vs Q E hr h => ?_)
  · obtain ⟨l, p, d, t, h, q, S, AL, AP, AR, BR, rfl, _⟩ := h
    rfl
  · obtain ⟨l, p, d, t, h, q, S, AL, AP, AR, BR, rfl, hL, eL, R, W, ht, hS, hA, T0, hAl, k⟩ := h
    have hu := hu_of hr
    have hu64 := hr.units
    have hr_law_next : Room 2 _ := hr.mono (by decide)
    have hr_law_is_round : Room 1 _ := hr.mono (by decide)
    have hrgoes_round : Room 2 _ := hr.mono (by decide)
    have hrshrunk : Room 7 _ := hr
    have hrline_up : Room 5 _ := hr.mono (by decide)
    refine ⟨_, PSs.nox (pss_cons
      (ps_par (i := 5) (j := 6) (by rfl) scLShR.nd rfl rfl (by decide) rfl rfl (pa_cons (pe_callTy (listK (K := K)) (by rfl) B.list (by decide +kernel) (pa_cons (pv 4) pa_nil)) (pa_cons (pe_lst (pa_cons (pv 3) pa_nil)) pa_nil)) (by rfl))
      (pss_cons
      (ps_for PassesOwn.never rfl (pi_range1 (by rfl) B.range (pa_cons (pe_callB (lenK (K := K)) (by rfl) B.len PySem.boot_len (pa_cons (pv 3) pa_nil)) pa_nil)) (pg_name (i := 7) scLShR.nd rfl (Or.inl rfl)) (pss_one
      (ps_if (pt_cmpR op_gt (pe_callB (lenK (K := K)) (by rfl) B.len PySem.boot_len (pa_cons (pe_ix (ixLK (K := K)) (pv 6) (pe_un un_neg pe_int) (fun _ _ => rfl)) pa_nil)) pe_int (nomark _)) (pss_one
      (ps_expr (pe_bm PySem.F.plainAttrs_list PySem.F.slot_list_append PySem.F.type_list_append mt_append (pv 6) (pa_cons (pe_call G_law_next hr_law_next (by rfl) g_law_next F_law_next.kp b_law_next .nil pass0 (pa_cons (pv 0) (pa_cons (pv 2) (pa_cons (pe_ix (ixLK (K := K)) (pv 6) (pe_un un_neg pe_int) (fun _ _ => rfl)) (pa_cons (pv 4) pa_nil))))) pa_nil)))) pss_nil)))
      (pss_cons
      (ps_set (i := 8) scLShR.nd rfl (Or.inl rfl) (pe_call Gshrunk hrshrunk (by rfl) gshrunk Fshrunk.kp bshrunk .nil pass0 (pa_cons (pv 1) (pa_cons (pv 3) (pa_cons (pv 4) pa_nil)))))
      (pss_cons
      (ps_if (PW.pt (pw_or (pt_not (pt_val (pe_callB call_isi (by rfl) B.isinstance (by decide +kernel) (pa_cons (pv 8) (pa_cons (pe_bltn (v := .ty "list") (by rfl) B.list (by decide +kernel) rfl) pa_nil))))) (pw_or (pt_cmpR (op_neD hu64) (pv 8) (pv 6) (nomark _)) (pw_or1 (pt_cmpR (op_neD hu64) (pv 4) (pv 5) (nomark _)))))) (pss_one
      (ps_ret pe_bl)) pss_nil)
      (pss_cons
      (ps_if (pt_not (pt_val (pe_callB (allK (K := K) rfl) (by rfl) B.all (by decide +kernel) (pa_cons (pe_lc (own := [("_law_one", 11)]) (g := gName 11) (tt := tYes) (by rfl) scLShR.nd (pi_list (pv 8)) (blkOk_by (own := [("_law_one", 11)]) (N := scLShR_N) (sc := defScope scLShR_S) (by decide +kernel)) (fun _ _ _ _ _ => (pg_name (i := 11) scLShR.nd rfl (Or.inl rfl))) (fun _ _ _ _ _ => pts_nil) (fun _ _ _ _ _ => (pe_and (pe_call G_law_is_round hr_law_is_round (by rfl) g_law_is_round F_law_is_round.kp b_law_is_round .nil pass0 (pa_cons (pv 11) (pa_cons (pv 4) pa_nil))) (pe_one (pe_cmpR op_is_bl (pe_call Ggoes_round hrgoes_round (by rfl) ggoes_round Fgoes_round.kp bgoes_round .nil pass0 (pa_cons (pv 11) (pa_cons (pv 4) pa_nil))) pe_bl (nomark _)))))) pa_nil)))) (pss_one
      (ps_ret pe_bl)) pss_nil)
      (pss_cons
      (ps_set (i := 9) scLShR.nd rfl (Or.inr rfl) (pe_ix (ixLK (K := K)) (pv 8) (pe_un un_neg pe_int) (fun _ _ => rfl)))
      (pss_cons
      (ps_setLc (i := 10) (own := [("_law_weir", 12)]) (g := gName 12)  (by rfl) scLShR.nd rfl rfl (sw_true rfl rfl rfl (by decide +kernel)) (pi_list (pe_dget hu (pv 2) (pe_ix (ixTK (K := K)) (pv 9) pe_int (fun _ _ => rfl)) (fun _ _ => rfl))) (blkOk_by (own := [("_law_weir", 12)]) (N := scLShR_N) (sc := defScope scLShR_S) (by decide +kernel)) (fun _ _ _ _ _ => (pg_name (i := 12) scLShR.nd rfl (Or.inl rfl))) (fun _ _ _ _ _ => (pts_one (PW.pt (pw_and (pt_cmpR (inK (K := K)) (pv 12) (pe_dget hu (pv 2) (pe_ix (ixTK (K := K)) (pv 9) pe_int (fun _ _ => rfl)) (fun _ _ => rfl)) (by rfl)) (pw_and1 (pt_cmpR (inK (K := K)) (pv 12) (pe_dget hu (pv 2) (pe_ix (ixTK (K := K)) (pv 9) pe_int (fun _ _ => rfl)) (fun _ _ => rfl)) (by rfl))))))) (fun _ _ _ _ _ => (pv 12)))
      (pss_cons
      (ps_if (PW.pt (pw_or (pt_cmpR (op_eqD hu64) (pv 10) (pe_lst pa_nil) (nomark _)) (pw_or1 (pt_cmpR op_ne (pe_callB (lenK (K := K)) (by rfl) B.len PySem.boot_len (pa_cons (pv 9) pa_nil)) pe_int (nomark _))))) (pss_one
      (ps_ret pe_bl)) pss_nil)
      (pss_cons
      (ps_expr (pe_bm0 PySem.F.plainAttrs_list PySem.F.slot_list_clear PySem.F.type_list_clear mt_clear (pv 8)))
      (pss_one
      (ps_ret (pe_and (pe_cmpR (op_eqD hu64) (pe_call Gshrunk hrshrunk (by rfl) gshrunk Fshrunk.kp bshrunk .nil pass0 (pa_cons (pv 1) (pa_cons (pv 3) (pa_cons (pv 4) pa_nil)))) (pv 6) (nomark _)) (pe_one (pe_cmpR op_eq (pe_ix (ixTK (K := K)) (pe_call Gline_up hrline_up (by rfl) gline_up Fline_up.kp bline_up .nil pass0 (pa_cons (pv 1) (pa_cons (pv 4) pa_nil))) pe_int (fun _ _ => rfl)) pe_str (nomark _))))))))))))))), ?_⟩
    have hg := R.g
    have hb := R.b
    have hSle := hS.le hb
    have hS3 := hS.three
    have hSok : RdOk (rowsOf AR) (bOf BR) S := ⟨by omega, hSle, hS.mem, hS.nd⟩
    have hpl : ∀ r ∈ rowsOf AP, Plain r.1 ∧ Plain r.2 := fun r hr => by
      obtain ⟨a1, a2, _, _⟩ := T0.sub r.1 r.2 hr
      exact ⟨name_pl hb a1, name_pl hb a2⟩
    have hgL : GoodRows (rowsOf AL) := by rw [eL]; exact hg
    have hbL : RtOk (rowsOf AL) (bOf BR) := by rw [eL]; exact hb
    obtain ⟨hall, iniS, lS, eRS, hl3, hlR⟩ := rounds_rd hg hb T0 S.length hS (Nat.le_refl _)
    generalize hRS : roundsS (rowsOf AP) (rowsOf AR) (bOf BR) S.length S = RS at hall eRS
    refine ⟨_, rfl, h, _, rfl, .inl (.inl (.inl hA.lst)), fun kp nkp => ?_⟩
    have s1 : Same H (upd H kp (.lst (AP.map fun q => V.ref q.1))) := same_upd nkp
    have hkp1 : (upd H kp (.lst (AP.map fun q => V.ref q.1))) kp = some (.lst (AP.map fun q => V.ref q.1)) := upd_same
    generalize upd H kp (.lst (AP.map fun q => V.ref q.1)) = H1 at s1 hkp1
    refine ⟨_, rfl, by show 1 ≤ sizeLine; decide, fun du ndu => ?_⟩
    have nduH : H du = none := by
      cases e : H du with
      | none => rfl
      | some o => rw [s1 _ _ e] at ndu; cases ndu
    have dkp : kp ≠ du := ne_of_none hkp1 ndu
    have s2 : Same H1 (upd H1 du (.lst [.ref t])) := same_upd ndu
    have hdu2 : (upd H1 du (.lst [.ref t])) du = some (.lst [.ref t]) := upd_same
    generalize upd H1 du (.lst [.ref t]) = H2 at s2 hdu2
    have s02 := s1.trans s2
    have hF2 : FtsL H2 du ([] ++ [S]) := ⟨[t], hdu2, rfl, fun i a L e1 e2 => by
      cases i with
      | zero =>
        cases e1
        cases e2
        exact ht.same s02
      | succ i => simp at e1⟩
    refine ⟨_, _, rfl, ?_⟩
    refine ⟨_, rfl, t, _, rfl, .inr (.inl (ht.same s02).rd), _, rfl, by rw [List.length_map]; omega, by rw [List.length_map]; omega, ?_⟩
    rw [show ((S.map V.str).length : Int).toNat = S.length by rw [List.length_map]; rfl]
    refine for_range (lo := 0) (n := S.length) (fun i σ H3 => ∃ v7 Ss Sl, σ = [some (.ref l), some (.ref p), some (.ref d), some (.ref t), some (.ref h), some (.ref kp), some (.ref du), v7, none, none, none, none, none] ∧ Same H H3 ∧ H3 kp = some (.lst (AP.map fun q => V.ref q.1)) ∧ FtsL H3 du (Ss ++ [Sl]) ∧ RdOk (rowsOf AR) (bOf BR) Sl ∧ RS = Ss ++ roundsS (rowsOf AP) (rowsOf AR) (bOf BR) (S.length - i) Sl ∧ (Sl.length ≤ 3 ∨ Sl.length ≤ S.length - i) ∧ Ss.length ≤ i)
      ⟨none, [], S, rfl, s02, s2 _ _ hkp1, hF2, hSok, hRS.symm, .inr (Nat.le_refl _), Nat.le_refl _⟩ ?_ ?_
    · rintro i σ H3 hi ⟨v7, Ss, Sl, rfl, s3, hkp3, hF, hSl, eR, hm, hSs⟩
      obtain ⟨ini, tl, z1, z2, z3⟩ := hF.last
      refine ⟨_, rfl, _, rfl, du, _, _, _, rfl, rfl, .inl (.inl z1), at_last _ _, tl, _, rfl, .inr (.inl z2.rd), _, _, rfl, rfl, _, rfl, ?_⟩
      rw [List.length_map]
      refine ite2 (fun q => ?_) (fun q => ?_)
      · have q : 3 < Sl.length := by
          have := of_decide_eq_true q
          omega
        obtain ⟨g1, g2⟩ := step_ok (A := rowsOf AP) hSl q
        obtain ⟨n, en⟩ : ∃ n, S.length - i = n + 1 := ⟨S.length - i - 1, by omega⟩
        have WL3 := W.same s3
        have e2 : stepS (rowsOf AP) (rowsOf AL) (bOf BR) Sl = stepS (rowsOf AP) (rowsOf AR) (bOf BR) Sl := by rw [eL]
        refine ⟨_, rfl, .inl ⟨rfl, _, .inl (.inl z1)⟩, _, rfl, _, rfl, _, rfl, _, rfl, du, _, _, _, rfl, rfl, .inl (.inl z1), at_last _ _, _, rfl, l, d, tl, h, Sl, AL, AP, bOf BR, rfl, hL.same s3, hgL, hbL, by rw [eL]; exact WL3, z2, by rw [eL]; exact hSl, hA.same s3, hpl, fun H4 v s4 hv => ?_⟩
        rw [e2] at hv
        obtain ⟨acc, y1, y2, y3⟩ := (hF.same s4).snoc hv
        refine ⟨du, _, _, rfl, rfl, y1, by rw [y2, List.length_append]; exact small1000 (by show Ss.length + 1 ≤ _; omega), ?_⟩
        refine ⟨_, _, _, rfl, fun b o e => ?_, ?_, y3, g1, ?_, ?_, by rw [List.length_append]; show Ss.length + 1 ≤ _; omega⟩
        · rw [upd_ne (ne_of_none e nduH)]
          exact s4 _ _ (s3 _ _ e)
        · rw [upd_ne dkp]
          exact s4 _ _ hkp3
        · rw [eR, en, show S.length - (i + 1) = n by omega]
          show Ss ++ (if 3 < Sl.length then Sl :: _ else [Sl]) = _
          rw [if_pos q, List.append_assoc]
          rfl
        · rcases hm with hm | hm
          · omega
          · exact .inr (by omega)
      · have q : ¬ 3 < Sl.length := fun z => q (decide_eq_true (by omega))
        have e0 : ∀ n, roundsS (rowsOf AP) (rowsOf AR) (bOf BR) n Sl = [Sl] := fun n => by
          cases n with
          | zero => rfl
          | succ n => exact if_neg q
        exact ⟨_, _, _, rfl, s3, hkp3, hF, hSl, by rw [eR, e0, e0], .inl (by omega), by omega⟩
    rintro σ H3 ⟨v7, Ss, Sl, rfl, s3, hkp3, hF, hSl, eR, hm, hSs⟩
    rw [Nat.sub_self] at eR
    have eR : RS = Ss ++ [Sl] := eR
    rw [← eR] at hF
    -- shrunk
    have R3 := R.same s3
    refine ⟨_, rfl, _, rfl, _, rfl, p, q, t, h, S, AP, AR, BR, rfl, R3, (ht.same s3).rd, hSok, hA.same s3, hpl, fun S' h1 h2 => step_ok h1 h2, fun H4 u s4 nu hT => ?_⟩
    rw [hRS] at hT
    have s04 := s3.trans s4
    have hRSp : ∀ x ∈ RS, ∀ y ∈ x, Plain y := fun x hx y hy => name_pl hb ((hall x hx).mem y hy)
    have shR := shaped_txs hRSp
    have eqR : PyData.eqv (.list (RS.map txD)) (.list (RS.map txD)) = true := by
      simp only [PyData.eqv]
      exact eqv_txs _
    have hrows := shaped_rows hpl
    have eqA : PyData.eqv (.list ((rowsOf AP).map rowD)) (.list ((rowsOf AP).map rowD)) = true := by
      simp only [PyData.eqv]
      exact eqv_rows _
    obtain ⟨us, b1, b2, b3⟩ := id hT.ex
    have hA4 := hA.same s04
    have hkp4 := s4 _ _ hkp3
    have hF4 := hF.same s4
    refine ⟨_, rfl, .ref u, .ty "list", _, _, true, rfl, .ty "list", .base (.lst b1), kit_ty (by decide +kernel), _, rfl, ?_⟩
    refine iteF ?_
    refine ⟨_, rfl, _, rfl, _, _, hT.dp, hF4.tups.dp, shR, shR, _, rfl, ?_⟩
    rw [eqR]
    refine iteF ?_
    refine ⟨_, rfl, _, rfl, _, _, .lst (.inl (.inl hA4.lst)) (dp_rows hA4.tup), .lst (.inl (.inl hkp4)) (dp_rows hA4.tup), hrows, hrows, _, rfl, ?_⟩
    rw [eqA]
    refine iteF ?_
    -- each is a round
    have hRl : RS.length ≤ 60 := by
      rw [eR, List.length_append]
      show Ss.length + 1 ≤ 60
      omega
    refine ⟨_, rfl, u, rfl, ⟨_, .inl (.inl b1)⟩, fun D nD => ?_⟩
    refine lc_listO (K := K) (a := u) (xs := us.map V.ref) nD (fun j => ((List.range j).map fun _ => true).map V.bl) rfl (fun j hj => by rw [List.length_map] at hj; rw [List.length_map, List.length_map, List.length_range]; exact small1000 (by omega)) (.inl (.inl b1)) ?_ ?_
    · intro j x H5 Nx hx s5 put skip
      rw [List.getElem?_map] at hx
      obtain ⟨tj, htj, rfl⟩ := Option.map_eq_some_iff.mp hx
      have hj : j < RS.length := by rw [← b2]; exact (List.getElem?_eq_some_iff.mp htj).1
      have hSj : RS[j]? = some RS[j] := List.getElem?_eq_getElem hj
      have hjm : RS[j] ∈ RS := List.getElem_mem hj
      have htx := (b3 j tj _ htj hSj).same s5
      have hrd := hall _ hjm
      have hgo : goesL (rowsOf AP) RS[j] = true := goes_iff.mpr ⟨hrd.three, hrd.nd, hrd.cyc⟩
      have hlj := hrd.le hb
      refine ⟨rfl, ?_⟩
      unfold tYes
      refine iteT ?_
      refine ⟨_, rfl, _, rfl, tj, h, RS[j], AP, rfl, htx, by omega, hRSp _ hjm, hA4.same s5, hAl, hpl, fun H6 s6 => ?_⟩
      rw [hgo]
      refine ⟨_, rfl, iteT ?_⟩
      have gk : GoK K H6 (rowsOf AP) (.ref tj) (goesL (rowsOf AP) RS[j]) := .txt (htx.same s6) (by omega)
      rw [hgo] at gk
      refine ⟨_, rfl, _, rfl, .ref tj, h, AP, true, rfl, (hA4.same s5).same s6, hAl, gk, fun H7 s7 => ?_⟩
      refine ⟨_, _, rfl, rfl, put _ _ (s6.trans s7) ?_⟩
      rw [List.range_succ, List.map_append, List.map_append]
      rfl
    intro H5 s5 hD5
    refine ⟨D, _, rfl, .inl (.inl hD5), ?_⟩
    rw [show (((List.range (us.map V.ref).length).map fun _ => true).all id) = true from List.all_eq_true.mpr fun x hx => by obtain ⟨_, _, rfl⟩ := List.mem_map.mp hx; rfl]
    refine ⟨_, rfl, ?_⟩
    refine iteF ?_
    -- the last
    have s05 := s04.trans s5
    have hT5 := hT.same s5
    rw [eRS] at hT5
    obtain ⟨ini, tl, c1, c2, c3⟩ := hT5.last
    refine ⟨_, rfl, _, rfl, u, _, _, .ref tl, rfl, rfl, .inl (.inl c1), at_last _ _, ?_⟩
    have l3 : ∀ {j : Nat}, j < 3 → (lS.map V.str)[j]? = some (V.str (lS.getD j "")) := fun {j} hj => by rw [List.getElem?_map, List.getElem?_eq_getElem (by omega), getD_at (by omega)]; rfl
    have m0 := hlR.mem _ (getD_mem (L := lS) (k := 0) (by omega))
    have m1 := hlR.mem _ (getD_mem (L := lS) (k := 1) (by omega))
    have m2 := hlR.mem _ (getD_mem (L := lS) (k := 2) (by omega))
    obtain ⟨ws, v0, v1, v2⟩ := share3 hg hb T0 hlR hl3
    have hshort := round_short hg hb T0 hlR hl3
    have a0 := l3 (j := 0) (by omega)
    have a1 := l3 (j := 1) (by omega)
    have a2 := l3 (j := 2) (by omega)
    generalize lS.getD 0 "" = x0 at m0 v0 a0
    generalize lS.getD 1 "" = x1 at m1 v1 a1
    generalize lS.getD 2 "" = x2 at m2 v2 a2
    obtain ⟨ta, w1, w2⟩ := id (W.same s05).ex
    have hw0 := way_ne hg hb m0
    refine ⟨_, rfl, _, rfl, tl, _, _, .str x0, rfl, rfl, .inl c2, atI_nat a0, d, _, rfl, dget_rn (.inl w1) m0, ta x0, rfl, ⟨_, .inl (.inl (w2 x0 m0))⟩, fun D2 nD2 => ?_⟩
    refine lc_listO (K := K) (a := ta x0) (xs := (wayN (rowsOf AR) (bOf BR) x0).map V.str) nD2 (fun j => (((wayN (rowsOf AR) (bOf BR) x0).take j).filter fun y => decide (y ∈ wayN (rowsOf AR) (bOf BR) x1) && decide (y ∈ wayN (rowsOf AR) (bOf BR) x2)).map V.str) (by rw [List.take_zero]; rfl) (fun j _ => filt_size (by omega) j) (.inl (.inl (w2 x0 m0))) ?_ ?_
    · intro j x H6 Nx hx s6 put skip
      rw [List.getElem?_map] at hx
      obtain ⟨y, hy, rfl⟩ := Option.map_eq_some_iff.mp hx
      have e := filt_take (p := fun y => decide (y ∈ wayN (rowsOf AR) (bOf BR) x1) && decide (y ∈ wayN (rowsOf AR) (bOf BR) x2)) hy
      have i1 : inV (.str y) ((wayN (rowsOf AR) (bOf BR) x1).map V.str) = decide (y ∈ wayN (rowsOf AR) (bOf BR) x1) := inV_str _ _
      have i2 : inV (.str y) ((wayN (rowsOf AR) (bOf BR) x2).map V.str) = decide (y ∈ wayN (rowsOf AR) (bOf BR) x2) := inV_str _ _
      have c26 := c2.same s6
      refine ⟨rfl, ?_⟩
      refine ⟨_, rfl, _, rfl, _, rfl, tl, _, _, .str x1, rfl, rfl, .inl c26, atI_nat a1, d, _, rfl, dget_rn (.inl (s6 _ _ w1)) m1, ta x1, _, rfl, .inl (.inl (.inl (s6 _ _ (w2 x1 m1)))), rfl, flat_strs _, _, rfl, ?_⟩
      refine ite2 (fun hh => ?_) (fun hh => ?_)
      · have hh : y ∈ wayN (rowsOf AR) (bOf BR) x1 := by
          have h9 : inV (.str y) ((wayN (rowsOf AR) (bOf BR) x1).map V.str) = true := hh
          rw [i1] at h9
          exact of_decide_eq_true h9
        refine ⟨_, rfl, _, rfl, _, rfl, tl, _, _, .str x2, rfl, rfl, .inl c26, atI_nat a2, d, _, rfl, dget_rn (.inl (s6 _ _ w1)) m2, ta x2, _, rfl, .inl (.inl (.inl (s6 _ _ (w2 x2 m2)))), rfl, flat_strs _, _, rfl, ?_⟩
        refine ite2 (fun hq => ?_) (fun hq => ?_)
        · have hq : y ∈ wayN (rowsOf AR) (bOf BR) x2 := by
            have h9 : inV (.str y) ((wayN (rowsOf AR) (bOf BR) x2).map V.str) = true := hq
            rw [i2] at h9
            exact of_decide_eq_true h9
          rw [decide_eq_true hh, decide_eq_true hq, if_pos (by rfl)] at e
          refine ⟨_, rfl, put _ _ (.refl _) ?_⟩
          rw [e, List.map_append]
          rfl
        · have hq : ¬ y ∈ wayN (rowsOf AR) (bOf BR) x2 := fun z => hq (by
            show inV (.str y) ((wayN (rowsOf AR) (bOf BR) x2).map V.str) = true
            rw [i2, decide_eq_true z])
          rw [decide_eq_false hq, Bool.and_false, if_neg Bool.false_ne_true, List.append_nil] at e
          exact skip _ (.refl _) (congrArg _ e)
      · have hh : ¬ y ∈ wayN (rowsOf AR) (bOf BR) x1 := fun z => hh (by
          show inV (.str y) ((wayN (rowsOf AR) (bOf BR) x1).map V.str) = true
          rw [i1, decide_eq_true z])
        rw [decide_eq_false hh, Bool.false_and, if_neg Bool.false_ne_true, List.append_nil] at e
        exact skip _ (.refl _) (congrArg _ e)
    intro H6 s6 hD6
    rw [List.length_map, List.take_length] at hD6
    have hsh : ws ∈ (wayN (rowsOf AR) (bOf BR) x0).filter fun y => decide (y ∈ wayN (rowsOf AR) (bOf BR) x1) && decide (y ∈ wayN (rowsOf AR) (bOf BR) x2) := List.mem_filter.mpr ⟨v0, by rw [decide_eq_true v1, decide_eq_true v2]; rfl⟩
    have hshp : ∀ y ∈ (wayN (rowsOf AR) (bOf BR) x0).filter (fun y => decide (y ∈ wayN (rowsOf AR) (bOf BR) x1) && decide (y ∈ wayN (rowsOf AR) (bOf BR) x2)), Plain y := fun y hy => plain_name hg (way_sub hg hb m0 y (List.mem_filter.mp hy).1)
    generalize (wayN (rowsOf AR) (bOf BR) x0).filter (fun y => decide (y ∈ wayN (rowsOf AR) (bOf BR) x1) && decide (y ∈ wayN (rowsOf AR) (bOf BR) x2)) = SH at hD6 hsh hshp
    refine ⟨_, rfl, by show 0 ≤ sizeLine; decide, fun e0 ne0 => ?_⟩
    have s7 : Same H6 (upd H6 e0 (.lst [])) := same_upd ne0
    have he7 : (upd H6 e0 (.lst [])) e0 = some (.lst []) := upd_same
    generalize upd H6 e0 (.lst []) = H7 at s7 he7
    refine ⟨_, _, .lst (.inl (.inl (s7 _ _ hD6))) (dp_strs SH), .lst (.inl (.inl he7)) .nil, shaped_lst hshp, by decide +kernel, _, rfl, ?_⟩
    rw [eqv_nilL, decide_eq_false (fun z => by rw [z] at hsh; cases hsh)]
    refine iteF ?_
    have s57 := s6.trans s7
    refine ⟨_, rfl, tl, _, rfl, .inr (.inl (c2.same s57)), rfl, _, rfl, ?_⟩
    rw [List.length_map, hl3]
    refine iteF ?_
    -- cleared
    have c17 := s57 _ _ c1
    have nuH : H u = none := by
      cases e : H u with
      | none => rfl
      | some o => rw [s3 _ _ e] at nu; cases nu
    have udu : du ≠ u := fun e => by
      obtain ⟨ts, q1, _⟩ := hF.ex
      rw [e, nu] at q1
      cases q1
    refine ⟨_, rfl, .inl ⟨rfl, _, .inl (.inl c17)⟩, u, _, rfl, rfl, c17, ?_⟩
    have hF7 := (hF4.same s5).same s57
    have sH8 : Same H (upd H7 u (.lst [])) := fun b o e => by
      rw [upd_ne (ne_of_none e nuH)]
      exact s57 _ _ (s05 _ _ e)
    have hF8 : FtsL (upd H7 u (.lst [])) du RS := by
      obtain ⟨ts, q1, q2, q3⟩ := hF7.ex
      exact ⟨ts, by rw [upd_ne udu]; exact q1, q2, fun i a L e1 e2 => (q3 i a L e1 e2).upd ((q3 i a L e1 e2).ne c17 (fun _ _ z => by cases z))⟩
    generalize upd H7 u (.lst []) = H8 at sH8 hF8
    refine ⟨_, rfl, _, rfl, _, rfl, p, q, t, h, S, AP, AR, BR, rfl, R.same sH8, (ht.same sH8).rd, hSok, hA.same sH8, hpl, fun S' h1 h2 => step_ok h1 h2, fun H9 u9 s9 nu9 hT9 => ?_⟩
    rw [hRS] at hT9
    refine ⟨_, rfl, _, _, hT9.dp, (hF8.same s9).tups.dp, shR, shR, ?_⟩
    rw [eqR]
    refine ⟨_, rfl, iteT ?_⟩
    have s09 := sH8.trans s9
    refine ⟨_, rfl, _, rfl, p, q, h, AP, AR, BR, rfl, R.same s09, hA.same s09, hAl, fun H10 v s10 lu => ?_⟩
    unfold LineUp at lu
    rw [if_pos hshort] at lu
    cases hfr : firstRing (rowsOf AP) (rowsOf AR) (bOf BR) (namesOf AR) with
    | none => exact absurd hfr ((line_short hg hb T0).mp hshort)
    | some r =>
      rw [hfr] at lu
      obtain ⟨t9, u10, rfl, l1, l2⟩ := lu
      refine ⟨t9, _, _, _, rfl, rfl, .inl (.inl l1), atI_nat (j := 0) rfl, rfl, ?_⟩
      exact k H10 (s09.trans s10)
end
end K0
end
section
set_option Elab.async false
set_option linter.all false
set_option maxRecDepth 100000
set_option maxHeartbeats 2000000
namespace HT
open PySem PySem.Spec PyProof.Rows PySem.W
section
variable {prog : Program} {w : World} {A : Around} {E : Value → Shared → Prop} {s : Shared}
theorem adjust_rev (n : Nat) : Builtin.Slice.sliceAdjust none none (-1) (n : Int) = ((n : Int) - 1, -1) := by
  unfold Builtin.Slice.sliceAdjust
  rfl
theorem places_rev (n : Nat) : Builtin.Slice.slicePlaces ((n : Int) - 1) (-1) (-1) = n := by
  unfold Builtin.Slice.slicePlaces
  have h1 : ¬ ((-1 : Int) > 0) := by omega
  simp only [h1, if_false]
  split
  · rw [show (- -1 : Int) = 1 by decide, Int.ediv_one]
    omega
  · omega
theorem pick_rev (xs : Array Value) : ((List.range xs.size).filterMap fun (m : Nat) => xs[((xs.size : Int) - 1 + (m : Int) * -1).toNat]?).toArray = xs.toList.reverse.toArray := by
  rw [← krv_pick xs]
  unfold slicePick
  rw [krv_bounds]
  show _ = ((sliceRange ((xs.size : Int) - 1) (-1) (-1)).filterMap (xs[·]?)).toArray
  have key : (List.range xs.size).map (fun (m : Nat) => ((xs.size : Int) - 1 + (m : Int) * -1).toNat) = (List.range xs.size).map fun k => xs.size - 1 - k := by
    refine List.map_congr_left fun m hm => ?_
    have := List.mem_range.mp hm
    omega
  rw [krv_sliceRange, ← key, List.filterMap_map]
  rfl
theorem sliceApplied_rev {sl : Addr} {vs : Value} {n : Nat} {Q : Int × Int × Nat → Shared → Prop} (hs : s.heap.IsSliceOf sl .none .none vs) (ps : IsPart vs (some (-1)))
    (h : Q ((n : Int) - 1, -1, n) s) : wpAny (model prog w) A (Builtin.Slice.sliceApplied (.ref sl) (pure (n : Int))) Q E s := by
  obtain ⟨os, hos, hcs, hds⟩ := id hs
  unfold Builtin.Slice.sliceApplied Builtin.Slice.sliceFields
  refine wpAny_bind (wpAny_bind (wpAny_field hos hds (x := .none) rfl (wpAny_bind (wpAny_field hos hds (x := .none) rfl (wpAny_bind (wpAny_field hos hds (x := vs) rfl (wpAny_pure ?_)))))))
  refine wpAny_bind (slicePart_ ps ?_)
  show wpAny _ _ (if ((-1 : Int) == 0) = true then _ else _) _ _ s
  rw [if_neg (by decide)]
  refine wpAny_bind (slicePart_none (wpAny_bind (slicePart_none (wpAny_bind (wpAny_pure ?_)))))
  show wpAny _ _ (match Builtin.Slice.sliceAdjust none none (-1) (n : Int) with | (lo, hi) => pure (lo, (-1 : Int), Builtin.Slice.slicePlaces lo hi (-1))) _ _ s
  rw [adjust_rev n]
  show wpAny _ _ (pure ((n : Int) - 1, (-1 : Int), Builtin.Slice.slicePlaces ((n : Int) - 1) (-1) (-1))) _ _ s
  rw [places_rev]
  exact wpAny_pure h
theorem getItem_tuple_rev {t sl : Addr} {items : Array Value} {vs : Value} {Q : Value → Shared → Prop} (ht : IsTup s.heap t items) (hs : s.heap.IsSliceOf sl .none .none vs) (ps : IsPart vs (some (-1)))
    (h : Q (.ref s.heap.objs.size) { s with heap := s.heap.push { cls := .type "tuple", data := .seq items.toList.reverse.toArray } })
    (hsz : items.size ≤ sizeLine) : wpAny (model prog w) A (getItem (.ref t) (.ref sl)) Q E s := by
  have htake : sizeOk (.seq items.toList.reverse.toArray) := by
    show items.toList.reverse.toArray.size ≤ sizeLine
    rw [List.size_toArray, List.length_reverse, Array.length_toList]
    exact hsz
  obtain ⟨os, hos, hcs, hds⟩ := id hs
  have hTs : s.TypeIs (.ref sl) "slice" := ⟨os, hos, hcs⟩
  unfold getItem
  try with_reducible refine wpAny_holding ?_
  first | refine wpAny_bind (wpAny_pure ?_) | skip
  refine wpAny_bind (wpAny_sequenceKey ht.typeIs (by decide) ?_)
  refine wpAny_bind (wpAny_callSpecial?_slot (name := Str.ofString "__getitem__") ht.typeIs PyProof.Rows.slot_tuple_getitem
    (wpAny_call_entry PyProof.Rows.slot_tuple_getitem ht.typeIs entry_tuple_getitem ?_ (args_tuple_getitem _ _)))
  show wpAny _ _ (Builtin.Tuple.tupleItemsOf (.ref t) >>= _) _ _ s
  refine wpAny_bind (tupleItemsOf_ ht ?_)
  refine wpAny_bind (wpAny_typeOf hTs ?_)
  rw [if_pos (by decide)]
  refine wpAny_bind (sliceApplied_rev hs ps ?_)
  have hno : ¬ ((((items.size : Int) - 1 == 0) && (-1 : Int) == 1 && items.size == items.size) = true) := by
    intro q
    rw [Bool.and_eq_true, Bool.and_eq_true] at q
    exact absurd q.1.2 (by decide)
  show wpAny _ _ (if (((items.size : Int) - 1 == 0) && (-1 : Int) == 1 && items.size == items.size) = true then _ else _) _ _ s
  rw [if_neg hno, pick_rev]
  first
    | exact wpAny_bind (m := Builtin.Tuple.tupleExact _) (wpAny_newObj_type (wpAny_pure ⟨_, rfl, wpAny_pure h⟩) htake)
    | exact wpAny_bind (m := Builtin.Tuple.tupleExact _) (wpAny_newObj_type (wpAny_bind (wpAny_pure (wpAny_pure ⟨_, rfl, wpAny_pure h⟩))) htake)
    | exact wpAny_bind (wpAny_bind (m := Builtin.Tuple.tupleExact _) (wpAny_newObj_type (wpAny_pure (wpAny_pure ⟨_, rfl, wpAny_pure h⟩)) htake))
    | exact wpAny_bind (wpAny_bind (m := Builtin.Tuple.tupleExact _) (wpAny_newObj_type (wpAny_pure ⟨_, rfl, wpAny_pure h⟩) htake))
end
end HT
namespace L2
open PySem PySem.Spec PyProof.Rows
section
variable {X : Cx}
/-- t[::-1] -/
def tRevT (K : PySem.W.Frag) (te : TE) : TE := fun σ H Q => te σ H fun x H1 => ∃ a xs, x = .ref a ∧ SqT K H1 a xs ∧ ∀ p, H1 p = none → Q (.ref p) (upd H1 p (.tup xs.reverse))
theorem pe_revT {e : Expr} {te : TE} {k : Nat} {p1 p2 p3 pos : Pos} (he : PE X e te) : PE X (.Subscript e (.Slice none none (some (.UnaryOp .USub (.Constant (.int 1) k p1) p2)) p3) pos) (tRevT X.K te) := by
  refine ⟨fun pins s σ H Q I h => ?_⟩
  refine Subscript_ (thn (he.run pins s σ H _ I h) fun v s1 ⟨x, H1, I1, r1, q1⟩ => ?_)
  obtain ⟨a, xs, ex, hx, q⟩ := q1
  subst ex
  cases r1
  have hst : PO X (some (.UnaryOp .USub (.Constant (.int 1) k p1) p2)) (tPart (tUn (rU fun i => .int (-i)) (tC (.int 1)))) := po_some (pe_un un_neg pe_int)
  refine wpAny_Slice (thn (po_none.run pins s1 σ H1 (fun o H2 => o = none ∧ H2 = H1) I1 ⟨rfl, rfl⟩) fun vl s2 ⟨l, H2, I2, pl, el, e2⟩ => ?_)
  subst el e2
  refine thn (po_none.run pins s2 σ H2 (fun o H3 => o = none ∧ H3 = H2) I2 ⟨rfl, rfl⟩) fun vu s3 ⟨u, H3, I3, pu, eu, e3⟩ => ?_
  subst eu e3
  refine thn (hst.run pins s3 σ H3 (fun o H4 => o = some (-1) ∧ H4 = H3) I3 ⟨1, rfl, -1, rfl, rfl, rfl⟩) fun vs s4 ⟨o, H4, I4, ps, eo, e4⟩ => ?_
  subst eo e4
  cases pl
  cases pu
  have I5 : Inv X pins σ H4 { s4 with heap := s4.heap.push { cls := .type "slice", data := .fields #[.none, .none, vs] } } := I4.kept (t' := s4.toks) fun b ob q => Heap.get?_push_of_some _ q
  obtain ⟨its, r, ht, hz⟩ := I5.tuple hx
  have hlen := r.length
  show wpAny (model X.prog X.w) X.A (subscriptTail e (.Slice none none (some (.UnaryOp .USub (.Constant (.int 1) k p1) p2)) p3) (.ref a) (.ref s4.heap.objs.size)) (EP X pins σ Q) X.xe { s4 with heap := s4.heap.push { cls := .type "slice", data := .fields #[.none, .none, vs] } }
  refine tail_any (ops := [.ref a, .ref s4.heap.objs.size]) ht.typeIs (PyProof.Rows.slot_tuple_getitem.lookup) ?_ (by with_unfolding_all rfl)
  refine HT.getItem_tuple_rev ht (Heap.IsSliceOf.new _ .none .none vs) ps ?_ (by rw [List.size_toArray]; omega)
  refine ⟨.ref _, _, I5.laid (t' := s4.toks) (o := .tup xs.reverse) (fun b ob q => Heap.get?_push_of_some _ q) (Nat.le_refl _) ?_, rfl, q _ (I5.hok.fresh (Nat.le_refl _))⟩
  exact ⟨by rw [List.length_reverse]; exact hz, _, r.reverse, IsTup.new _ _⟩
theorem revT {K : PySem.W.Frag} {e : Expr} {te : TE} {k : Nat} {p1 p2 p3 pos : Pos} (he : PE X e te) (ek : X.K = K := by rfl) : PE X (.Subscript e (.Slice none none (some (.UnaryOp .USub (.Constant (.int 1) k p1) p2)) p3) pos) (tRevT K te) := ek ▸ pe_revT he
theorem repTK {K : PySem.W.Frag} (e : X.K = K := by rfl) : OpR X (binaryOp .Mult) (rRepT K) := e ▸ op_repT
end
end L2
end
section
set_option Elab.async false
set_option linter.all false
set_option maxRecDepth 100000
set_option maxHeartbeats 8000000
namespace K0
open PySem PySem.Spec PyProof.Rows L2 MN
/-! ### goes_round, asked as the law asks it -/
theorem TxR.up {H H' : Hp} {b t : Addr} {S : List Str} (h : TxR H t S) (hB : BagAt H b) (u : Upto b H H') : TxR H' t S := by
  obtain ⟨xs, hb, hv⟩ := id hB
  rcases h with h | ⟨o, h⟩
  · exact .inl (u _ _ h (ne_of h hb (fun z => by cases z)))
  · exact .inr ⟨o, u _ _ h (ne_of h hb (fun z => by cases z))⟩
theorem FT.up {H H' : Hp} {b t : Addr} {S : List Str} (h : FT H t S) (hB : BagAt H b) (u : Upto b H H') : FT H' t S := by
  obtain ⟨xs, hb, hv⟩ := id hB
  obtain ⟨o, po, h⟩ := h
  exact ⟨o, po, u _ _ h (ne_of h hb (fun z => by cases z))⟩
theorem bagS {H H' : Hp} {b : Addr} (B : BagAt H b) (s : Same H H') : BagAt H' b := let ⟨xs, h, v⟩ := B; ⟨xs, s _ _ h, v⟩
theorem strs_ne_bag {H : Hp} {b t : Addr} {L : List Str} (B : BagAt H b) (h : H t = some (.lst (L.map V.str))) : t ≠ b := fun e => by
  obtain ⟨_, hb, x, y, rfl, _⟩ := B
  rw [e, hb] at h
  cases L with
  | nil => cases h
  | cons a L => cases h
theorem WaysF.up {H H' : Hp} {b d : Addr} {ns : List Str} {g : Str → List Str} (r : WaysF H d ns g) (hB : BagAt H b) (u : Upto b H H') : WaysF H' d ns g := by
  obtain ⟨ta, q1, q2⟩ := r.ex
  obtain ⟨xs, hb, hv⟩ := id hB
  refine ⟨ta, ?_, fun y hy => u _ _ (q2 y hy) (strs_ne_bag hB (q2 y hy))⟩
  rcases q1 with q1 | ⟨o, q1⟩
  · exact .inl (u _ _ q1 (ne_of q1 hb (fun z => by cases z)))
  · exact .inr ⟨o, u _ _ q1 (ne_of q1 hb (fun z => by cases z))⟩
theorem WaysL.up {H H' : Hp} {b d : Addr} {ns : List Str} {g : Str → List Str} (r : WaysL H d ns g) (hB : BagAt H b) (u : Upto b H H') : WaysL H' d ns g := by
  obtain ⟨ta, q1, q2⟩ := r.ex
  obtain ⟨xs, hb, hv⟩ := id hB
  exact ⟨ta, u _ _ q1 (ne_of q1 hb (fun z => by cases z)), fun y hy => u _ _ (q2 y hy) (strs_ne_bag hB (q2 y hy))⟩
theorem GoK.same {K : PySem.W.Frag} {H H' : Hp} {A : List Row} {v : V} {b : Bool} (h : GoK K H A v b) (s : Same H H') : GoK K H' A v b := by
  cases h with
  | no h k => exact .no (tyx_same s h) k
  | few h l => exact .few (s _ _ h) l
  | odd h l g ty bad => exact .odd (s _ _ h) l g (fun i x e => let ⟨t, a, b⟩ := ty i x e; ⟨t, tyx_same s a, b⟩) bad
  | txt h l => exact .txt (h.same s) l
theorem sl_txN {σ : L2.St} {K : PySem.W.Frag} {H : Hp} {t : Addr} {S L : List Str} {lo : Option Int} {Q : VK} (ht : TxR H t S) (hL : cutV (S.map V.str) lo none = L.map V.str) (k : ∀ u H', Same H H' → TxR H' u L → Q (.ref u) H') : tNoPart σ H fun u H3 => rSlA K (.ref t) lo u H3 Q := sl_tx ht hL k
def TL (H : Hp) : List Addr → List (List Str) → Prop
  | [], [] => True
  | t :: ts, S :: Ss => TxR H t S ∧ TL H ts Ss
  | _, _ => False
theorem TL.tups {H : Hp} : ∀ {ts : List Addr} {Ss : List (List Str)}, TL H ts Ss → ts.length = Ss.length ∧ ∀ (i : Nat) (t : Addr) (S : List Str), ts[i]? = some t → Ss[i]? = some S → TxR H t S
  | [], [], _ => ⟨rfl, fun i t S e => by cases e⟩
  | t :: ts, S :: Ss, h => ⟨congrArg (· + 1) h.2.tups.1, fun i t' S' e1 e2 => by
    cases i with
    | zero =>
      cases e1
      cases e2
      exact h.1
    | succ i => exact h.2.tups.2 i t' S' e1 e2⟩
  | [], _ :: _, h => h.elim
  | _ :: _, [], h => h.elim
theorem TL.to {H H' : Hp} (k : ∀ {t S}, TxR H t S → TxR H' t S) : ∀ {ts : List Addr} {Ss : List (List Str)}, TL H ts Ss → TL H' ts Ss
  | [], [], h => h
  | t :: ts, S :: Ss, h => ⟨k h.1, h.2.to k⟩
  | [], _ :: _, h => h.elim
  | _ :: _, [], h => h.elim
/-! ### a round begun elsewhere -/
theorem rot_get {S : List Str} {k j : Nat} (hk : k ≤ S.length) (hj : j < S.length) : (S.drop k ++ S.take k).getD j "" = S.getD ((j + k) % S.length) "" := by
  have hd : (S.drop k).length = S.length - k := List.length_drop ..
  simp only [List.getD_eq_getElem?_getD]
  rw [List.getElem?_append, hd]
  by_cases h : j < S.length - k
  · rw [if_pos h, List.getElem?_drop, Nat.mod_eq_of_lt (by omega), Nat.add_comm]
  · rw [if_neg h, List.getElem?_take_of_lt (by omega), show j + k = (j - (S.length - k)) + S.length by omega, Nat.add_mod_right, Nat.mod_eq_of_lt (by omega)]
theorem cyc_rot {m : Str → Str → Prop} {S : List Str} {k : Nat} (h : Cyc m S) (hk : k ≤ S.length) : Cyc m (S.drop k ++ S.take k) := by
  have hl : (S.drop k ++ S.take k).length = S.length := by
    rw [List.length_append, List.length_drop, List.length_take]
    omega
  intro j hj
  rw [hl] at hj ⊢
  rw [rot_get hk hj, rot_get hk (Nat.mod_lt _ (by omega))]
  have := h ((j + k) % S.length) (Nat.mod_lt _ (by omega))
  rw [Nat.mod_add_mod] at this
  rw [Nat.mod_add_mod, show j + 1 + k = j + k + 1 by omega]
  exact this
theorem goes_rot {A : List Row} {S : List Str} {k : Nat} (h : goesL A S = true) (hk : k ≤ S.length) : goesL A (S.drop k ++ S.take k) = true := by
  obtain ⟨a, b, c⟩ := goes_iff.mp h
  refine goes_iff.mpr ⟨by rw [List.length_append, List.length_drop, List.length_take]; omega, ?_, cyc_rot c hk⟩
  exact (List.perm_append_comm.nodup_iff).mp (by rw [List.take_append_drop]; exact b)
abbrev scLRounds_N : List Str := ["_law_bag_here", "_law_ways", "_law_names_here", "_law_ahead_here", "_law_place", "_law_begun", "_law_other", "_law_some", "_law_one", "_law_told", "_law_odd"]
abbrev scLRounds_S : Stmt := sLRounds
theorem scLRounds : FnScope scLRounds_N ["_law_bag_here", "_law_ways", "_law_names_here", "_law_ahead_here"] (defScope sLRounds) := ⟨rfl, rfl, rfl, by decide +kernel, rfl, by decide +kernel, by decide +kernel⟩
def spLRounds : Sp := fun vs H Q _ => ∃ (b d t h : Addr) (S : List Str) (AP : List (Addr × Row)) (R : List Row) (B : List RRow), vs = [.ref b, .ref d, .ref t, .ref h] ∧ BagAt H b ∧ WaysL H d (rnm B) (wayN R B) ∧ RtOk R B ∧ FT H t S ∧ RdA (rowsOf AP) R B S ∧ RowsAt H h AP ∧ h ≠ b ∧ AP.length ≤ 1640 ∧ (∀ r ∈ rowsOf AP, Plain r.1 ∧ Plain r.2) ∧ ∀ H', Upto b H H' → BagAt H' b → Q (.bl true) H'
section
variable {P : Program} {w : World} {K : PySem.W.Frag} {mg : Str → Option Value} {base : Heap} {tS tM tL : Tok}
theorem ok_lrounds {f fT fX fO fR fG : Addr} {fd fdT fdX fdO fdR fdG : FuncData} (F : FnP K "_law_rounds_right" sLRounds f fd) (F_law_take : FnP K "_law_take" sTake fT fdT) (g_law_take : mg "_law_take" = some (.ref fT)) (F_law_mixed : FnP K "_law_mixed" sMixed fX fdX) (g_law_mixed : mg "_law_mixed" = some (.ref fX)) (F_law_of : FnP K "_law_of" sOf fO fdO) (g_law_of : mg "_law_of" = some (.ref fO)) (F_law_is_round : FnP K "_law_is_round" sLIsRound fR fdR) (g_law_is_round : mg "_law_is_round" = some (.ref fR))
    (Fgoes_round : FnP K "goes_round" sGoesRound fG fdG) (ggoes_round : mg "goes_round" = some (.ref fG)) (Ggoes_round : FnOk P w K mg base CX0 2 fG fdG ["names", "ahead"] (spGoes K)) (hset : mg "set" = none) (B : Bl mg) : FnOk P w K mg base CX0 3 f fd ["_law_bag_here", "_law_ways", "_law_names_here", "_law_ahead_here"] spLRounds := by
  have G_law_take : FnOk P w K mg base CX0 1 fT fdT ["_law_bag_here", "_law_many"] spTake := ok_take F_law_take B
  have b_law_take : Binds K fdT ["_law_bag_here", "_law_many"] [] := F_law_take.bindsN fun _ _ _ _ _ _ us hl => match us, hl with | [_, _], _ => rfl
  have G_law_of : FnOk P w K mg base CX0 2 fO fdO ["_law_bag_here", "_law_some"] (spOf K) := ok_of F_law_of F_law_take B g_law_take
  have b_law_of : Binds K fdO ["_law_bag_here", "_law_some"] [] := F_law_of.bindsN fun _ _ _ _ _ _ us hl => match us, hl with | [_, _], _ => rfl
  have G_law_mixed : FnOk P w K mg base CX0 2 fX fdX ["_law_bag_here", "_law_some"] (spMixed K) := ok_mixed F_law_mixed F_law_take B g_law_take
  have b_law_mixed : Binds K fdX ["_law_bag_here", "_law_some"] [] := F_law_mixed.bindsN fun _ _ _ _ _ _ us hl => match us, hl with | [_, _], _ => rfl
  have G_law_is_round : FnOk P w K mg base CX0 1 fR fdR ["_law_names_here", "_law_ahead_here"] (spLIsRound K) := ok_lisround F_law_is_round hset B
  have b_law_is_round : Binds K fdR ["_law_names_here", "_law_ahead_here"] [] := F_law_is_round.bindsN fun _ _ _ _ _ _ us hl => match us, hl with | [_, _], _ => rfl
  have bgoes_round : Binds K fdG ["names", "ahead"] [] := Fgoes_round.bindsN fun _ _ _ _ _ _ us hl => match us, hl with | [_, _], _ => rfl
  refine F.ok scLRounds (fun vs H Q E h => ?_) (fun cdv A outer s H vs Q E hr h => ?_)
  · obtain ⟨b, d, t, h, S, AP, R, BB, rfl, _⟩ := h
    rfl
  · obtain ⟨b, d, t, h, S, AP, R, BB, rfl, hB, W, hb, ht, hS, hA, hhb, hAl, hpl, k⟩ := h
    have hu := hu_of hr
    have hr_law_take : Room 1 _ := hr.mono (by decide)
    have hr_law_of : Room 2 _ := hr.mono (by decide)
    have hr_law_mixed : Room 2 _ := hr.mono (by decide)
    have hr_law_is_round : Room 1 _ := hr.mono (by decide)
    have hrgoes_round : Room 2 _ := hr.mono (by decide)
    refine ⟨_, PSs.nox (pss_cons
      (ps_set (i := 4) scLRounds.nd rfl (Or.inl rfl) (pe_call G_law_take hr_law_take (by rfl) g_law_take F_law_take.kp b_law_take .nil pass0 (pa_cons (pv 0) (pa_cons (pe_callB (lenK (K := K)) (by rfl) B.len PySem.boot_len (pa_cons (pv 2) pa_nil)) pa_nil))))
      (pss_cons
      (ps_par (i := 5) (j := 6) (by rfl) scLRounds.nd rfl rfl (by decide) rfl rfl (pa_cons (pe_op op_catA (pe_slice (sl_tupAK (K := K)) (pv 2) (po_some (pv 4)) po_none) (pe_slice (sl_tupAK (K := K)) (pv 2) po_none (po_some (pv 4)))) (pa_cons (pe_call G_law_of hr_law_of (by rfl) g_law_of F_law_of.kp b_law_of .nil pass0 (pa_cons (pv 0) (pa_cons (pe_callTy (call_listD rfl) (by rfl) B.list (by decide +kernel) (pa_cons (pv 1) pa_nil)) pa_nil))) pa_nil)) (by rfl))
      (pss_cons
      (ps_if (pt_cmpR op_isnot_bl (pe_call Ggoes_round hrgoes_round (by rfl) ggoes_round Fgoes_round.kp bgoes_round .nil pass0 (pa_cons (pv 5) (pa_cons (pv 3) pa_nil))) pe_bl (nomark _)) (pss_one
      (ps_ret pe_bl)) pss_nil)
      (pss_cons
      (ps_set (i := 7) scLRounds.nd rfl (Or.inl rfl) (pe_lst (pa_cons (revT (K := K) (pv 2)) (pa_cons (pe_slice (sl_tupAK (K := K)) (pv 2) po_none (po_some pe_int)) (pa_cons (pe_slice (sl_tupAK (K := K)) (pv 2) po_none (po_some pe_int)) (pa_cons (pe_tup pa_nil) (pa_cons (pe_op op_catA (pv 2) (pv 2)) (pa_cons (pe_op op_catA (pv 2) (pe_slice (sl_tupAK (K := K)) (pv 2) po_none (po_some pe_int))) (pa_cons (pe_op op_catA (pe_slice (sl_tupAK (K := K)) (pv 2) po_none (po_some (pv 4))) (pe_slice (sl_tupAK (K := K)) (pv 2) (po_some (pe_op op_add (pv 4) pe_int)) po_none)) pa_nil)))))))))
      (pss_cons
      (ps_set (i := 7) scLRounds.nd rfl (Or.inl rfl) (pe_op op_cat (pv 7) (pe_lst (pa_cons (pe_op op_catA (pe_op op_catA (pe_slice (sl_tupAK (K := K)) (pv 2) po_none (po_some (pv 4))) (pe_tup (pa_cons (pv 6) pa_nil))) (pe_slice (sl_tupAK (K := K)) (pv 2) (po_some (pe_op op_add (pv 4) pe_int)) po_none)) (pa_cons (pe_slice (sl_tupAK (K := K)) (pv 2) po_none (po_some pe_int)) (pa_cons (pe_callTy (tupleK (K := K)) (by rfl) B.tuple (by decide +kernel) (pa_cons (pe_call G_law_mixed hr_law_mixed (by rfl) g_law_mixed F_law_mixed.kp b_law_mixed .nil pass0 (pa_cons (pv 0) (pa_cons (pe_callTy (listK (K := K)) (by rfl) B.list (by decide +kernel) (pa_cons (pv 2) pa_nil)) pa_nil))) pa_nil)) pa_nil))))))
      (pss_cons
      (ps_for PassesOwn.never rfl (pi_list (pv 7)) (pg_name (i := 8) scLRounds.nd rfl (Or.inl rfl)) (pss_cons
      (ps_set (i := 9) scLRounds.nd rfl (Or.inl rfl) (pe_call Ggoes_round hrgoes_round (by rfl) ggoes_round Fgoes_round.kp bgoes_round .nil pass0 (pa_cons (pv 8) (pa_cons (pv 3) pa_nil))))
      (pss_one
      (ps_if (PW.pt (pw_or (pt_not (pt_val (pe_callB (isiK (K := K)) (by rfl) B.isinstance (by decide +kernel) (pa_cons (pv 9) (pa_cons (pe_bltn (v := .ty "bool") (by rfl) B.bool (by decide +kernel) rfl) pa_nil))))) (pw_or1 (pt_cmpR op_ne (pv 9) (pe_call G_law_is_round hr_law_is_round (by rfl) g_law_is_round F_law_is_round.kp b_law_is_round .nil pass0 (pa_cons (pv 8) (pa_cons (pv 3) pa_nil))) (nomark _))))) (pss_one
      (ps_ret pe_bl)) pss_nil))))
      (pss_cons
      (ps_for PassesOwn.never rfl (pi_list (pe_lst (pa_cons pe_non (pa_cons (pe_callTy (listK (K := K)) (by rfl) B.list (by decide +kernel) (pa_cons (pv 2) pa_nil)) (pa_cons (pe_ix (ixTK (K := K)) (pv 2) pe_int (fun _ _ => rfl)) (pa_cons pe_int (pa_cons pe_bl (pa_cons (pe_op (repTK (K := K)) (pe_tup (pa_cons pe_non pa_nil)) pe_int) (pa_cons (pe_tup (pa_cons (pe_lst pa_nil) (pa_cons (pe_ix (ixTK (K := K)) (pv 2) pe_int (fun _ _ => rfl)) (pa_cons (pe_ix (ixTK (K := K)) (pv 2) pe_int (fun _ _ => rfl)) pa_nil)))) (pa_cons (pe_tup (pa_cons (pv 2) pa_nil)) pa_nil)))))))))) (pg_name (i := 10) scLRounds.nd rfl (Or.inl rfl)) (pss_one
      (ps_if (pt_cmpR op_isnot_bl (pe_call Ggoes_round hrgoes_round (by rfl) ggoes_round Fgoes_round.kp bgoes_round .nil pass0 (pa_cons (pv 10) (pa_cons (pv 3) pa_nil))) pe_bl (nomark _)) (pss_one
      (ps_ret pe_bl)) pss_nil)))
      (pss_one
      (ps_ret pe_bl))))))))), ?_⟩
    have hSlen := hS.le hb
    have hS3 := hS.three
    have hSp := hS.plain hb
    have z40 : 40000 ≤ sizeLine := by rw [sizeLine_eq]; omega
    obtain ⟨ta, w1, w2⟩ := id W.ex
    have hne : rnm BB ≠ [] := fun e => by
      have := hS.mem _ (getD_mem (L := S) (k := 0) (by omega))
      rw [e] at this
      cases this
    refine ⟨_, rfl, _, rfl, t, _, rfl, .inr (.inl ht.rd), b, _, rfl, hB, by rw [List.length_map]; omega, by rw [List.length_map]; omega, fun r xs h0 h1 hv => ?_⟩
    rw [List.length_map] at h1
    obtain ⟨kk, rfl⟩ := Int.eq_ofNat_of_zero_le h0
    have hk : kk < S.length := by omega
    have u1 : Upto b H (upd H b (.lst xs)) := Upto.at_
    have B1 : BagAt (upd H b (.lst xs)) b := ⟨xs, upd_same, hv⟩
    generalize upd H b (.lst xs) = H1 at u1 B1
    have ht1 := ht.up hB u1
    have W1 := W.up hB u1
    have hA1 := hA.upto hB hhb u1
    obtain ⟨ta, w1, w2⟩ := id W1.ex
    refine ⟨_, rfl, _, rfl, _, rfl, ?_⟩
    have hgo : goesL (rowsOf AP) S = true := goes_iff.mpr ⟨hS3, hS.nd, hS.cyc⟩
    refine sl_txN (lo := some (kk : Int)) ht1.rd (L := S.drop kk) (by rw [cut_drop, List.map_drop]) fun u2 H2 s2 hu2 => ?_
    refine ⟨_, rfl, _, rfl, _, rfl, ?_⟩
    refine sl_tx (ht1.same s2).rd (L := S.take kk) (by rw [cut_take, List.map_take]) fun u3 H3 s3 hu3 => ?_
    refine cat_tx (hu2.same s3) hu3 (by rw [List.length_take, List.length_drop]; omega) fun u4 H4 s4 hu4 => ?_
    have s04 := (s2.trans s3).trans s4
    have B4 := bagS B1 s04
    obtain ⟨b4, hb4, hv4⟩ := id B4
    have hkeys : ((kmap (fun y => V.ref (ta y)) (rnm BB)).map fun kv => kV kv.1) = (rnm BB).map V.str := by
      unfold kmap
      rw [List.map_map]
      rfl
    refine ⟨_, rfl, _, rfl, d, _, rfl, .inl (s04 _ _ w1), fun l5 nl5 => ?_⟩
    rw [hkeys]
    have s5 : Same H4 (upd H4 l5 (.lst ((rnm BB).map V.str))) := same_upd nl5
    have h5 : (upd H4 l5 (.lst ((rnm BB).map V.str))) l5 = some (.lst ((rnm BB).map V.str)) := upd_same
    have nb5 : l5 ≠ b := fun e => by rw [e, hb4] at nl5; cases nl5
    generalize upd H4 l5 (.lst ((rnm BB).map V.str)) = H5 at s5 h5
    have B5 := bagS B4 s5
    refine ⟨b, l5, _, rfl, B5, nb5, .inl (.inl h5), by rw [List.length_map]; exact List.length_pos_iff.mpr hne, by rw [List.length_map]; have := hb.most; have e : (rnm BB).length = BB.length := List.length_map _; omega, fun i v xs6 hv6 hx6 => ?_⟩
    rw [List.getElem?_map] at hv6
    obtain ⟨oth, hoth, rfl⟩ := Option.map_eq_some_iff.mp hv6
    have hom : oth ∈ rnm BB := List.mem_of_getElem? hoth
    have u6 : Upto b H5 (upd H5 b (.lst xs6)) := Upto.at_
    have B6 : BagAt (upd H5 b (.lst xs6)) b := ⟨xs6, upd_same, hx6⟩
    generalize upd H5 b (.lst xs6) = H6 at u6 B6
    have s05 := s04.trans s5
    have ht6 := (ht1.same s05).up B5 u6
    have hA6 := (hA1.same s05).upto B5 hhb u6
    have hu46 := (hu4.same s5).up B5 u6
    have hrl : (S.drop kk ++ S.take kk).length = S.length := by
      rw [List.length_append, List.length_drop, List.length_take]
      omega
    have gkr : GoK K H6 (rowsOf AP) (.ref u4) true := by
      have := GoK.txt (K := K) (A := rowsOf AP) hu46 (by omega)
      rw [goes_rot hgo (by omega)] at this
      exact this
    have u06 : Upto b H H6 := ((u1.trans (.of s05)).trans u6)
    refine ⟨_, _, rfl, ?_⟩
    refine ⟨_, rfl, _, rfl, .ref u4, h, AP, true, rfl, hA6, hAl, gkr, fun H7 s7 => ?_⟩
    refine ⟨_, _, rfl, rfl, _, rfl, ?_⟩
    refine iteF ?_
    have ht7 := ht6.same s7
    have hA7 := hA6.same s7
    have B7 := bagS B6 s7
    have u07 := u06.trans (.of s7)
    have r7 : TxR H7 t S := ht7.rd
    -- the first seven
    refine ⟨_, rfl, t, _, rfl, .inl r7, fun a1 na1 => ?_⟩
    have c1 : Same H7 (upd H7 a1 (.tup (S.map V.str).reverse)) := same_upd na1
    have ha1 : TxR (upd H7 a1 (.tup (S.map V.str).reverse)) a1 S.reverse := .inl (by rw [upd_same, List.map_reverse])
    generalize upd H7 a1 (.tup (S.map V.str).reverse) = H8 at c1 ha1
    refine ⟨_, rfl, _, rfl, ?_⟩
    refine sl_tx (hi := some (2 : Nat)) (r7.same c1) (L := S.take 2) (by rw [cut_take, List.map_take]) fun a2 H9 c2 ha2 => ?_
    refine ⟨_, rfl, _, rfl, ?_⟩
    refine sl_tx (hi := some (1 : Nat)) (r7.same (c1.trans c2)) (L := S.take 1) (by rw [cut_take, List.map_take]) fun a3 H10 c3 ha3 => ?_
    have c13 := (c1.trans c2).trans c3
    refine ⟨by show 0 ≤ sizeLine; omega, fun a4 na4 => ?_⟩
    have c4 : Same H10 (upd H10 a4 (.tup [])) := same_upd na4
    have ha4 : TxR (upd H10 a4 (.tup [])) a4 [] := .inl upd_same
    generalize upd H10 a4 (.tup []) = H11 at c4 ha4
    have c14 := c13.trans c4
    refine ⟨_, rfl, _, rfl, ?_⟩
    refine cat_tx (r7.same c14) (r7.same c14) (by omega) fun a5 H12 c5 ha5 => ?_
    have c15 := c14.trans c5
    refine ⟨_, rfl, _, rfl, _, rfl, ?_⟩
    refine sl_tx (hi := some (1 : Nat)) (r7.same c15) (L := S.take 1) (by rw [cut_take, List.map_take]) fun a6' H13 c6 ha6' => ?_
    have c16 := c15.trans c6
    refine cat_tx (r7.same c16) ha6' (by rw [List.length_take]; omega) fun a6 H14 c7 ha6 => ?_
    have c17 := c16.trans c7
    refine ⟨_, rfl, _, rfl, _, rfl, ?_⟩
    refine sl_tx (r7.same c17) (L := S.take kk) (by rw [cut_take, List.map_take]) fun a7a H15 c8 ha7a => ?_
    have c18 := c17.trans c8
    refine ⟨_, rfl, _, rfl, _, _, rfl, rfl, _, rfl, ?_⟩
    refine sl_txN (lo := some ((kk : Int) + 1)) (r7.same c18) (L := S.drop (kk + 1)) (by rw [show ((kk : Int) + 1) = ((kk + 1 : Nat) : Int) by omega, cut_drop, List.map_drop]) fun a7b H16 c9 ha7b => ?_
    have c19 := c18.trans c9
    refine cat_tx (ha7a.same c9) ha7b (by rw [List.length_take, List.length_drop]; omega) fun a7 H17 c10 ha7 => ?_
    have c110 := c19.trans c10
    refine ⟨by show 7 ≤ sizeLine; omega, fun l1 nl1 => ?_⟩
    have d1 : Same H17 (upd H17 l1 (.lst [.ref a1, .ref a2, .ref a3, .ref a4, .ref a5, .ref a6, .ref a7])) := same_upd nl1
    have hl1 : (upd H17 l1 (.lst [.ref a1, .ref a2, .ref a3, .ref a4, .ref a5, .ref a6, .ref a7])) l1 = some (.lst [.ref a1, .ref a2, .ref a3, .ref a4, .ref a5, .ref a6, .ref a7]) := upd_same
    have T1 : TL (upd H17 l1 (.lst [.ref a1, .ref a2, .ref a3, .ref a4, .ref a5, .ref a6, .ref a7])) [a1, a2, a3, a4, a5, a6, a7] [S.reverse, S.take 2, S.take 1, [], S ++ S, S ++ S.take 1, S.take kk ++ S.drop (kk + 1)] :=
      ⟨ha1.same (((((((((c2.trans c3).trans c4).trans c5).trans c6).trans c7).trans c8).trans c9).trans c10).trans d1), ha2.same ((((((((c3.trans c4).trans c5).trans c6).trans c7).trans c8).trans c9).trans c10).trans d1), ha3.same (((((((c4.trans c5).trans c6).trans c7).trans c8).trans c9).trans c10).trans d1), ha4.same ((((((c5.trans c6).trans c7).trans c8).trans c9).trans c10).trans d1), ha5.same (((((c6.trans c7).trans c8).trans c9).trans c10).trans d1), ha6.same (((c8.trans c9).trans c10).trans d1), ha7.same d1, trivial⟩
    generalize upd H17 l1 (.lst [.ref a1, .ref a2, .ref a3, .ref a4, .ref a5, .ref a6, .ref a7]) = H18 at d1 hl1 T1
    have c118 := c110.trans d1
    have r8 : TxR H18 t S := r7.same c118
    clear ha1 ha2 ha3 ha4 ha5 ha6' ha6 ha7a ha7b ha7
    -- three more
    refine ⟨_, rfl, _, rfl, _, rfl, _, rfl, ?_⟩
    refine sl_tx r8 (L := S.take kk) (by rw [cut_take, List.map_take]) fun e1 K1 f1 he1 => ?_
    refine ⟨_, rfl, by show 1 ≤ sizeLine; omega, fun e2 ne2 => ?_⟩
    have f2 : Same K1 (upd K1 e2 (.tup [.str oth])) := same_upd ne2
    have he2 : TxR (upd K1 e2 (.tup [.str oth])) e2 [oth] := .inl upd_same
    generalize upd K1 e2 (.tup [.str oth]) = K2 at f2 he2
    refine cat_tx (he1.same f2) he2 (by rw [List.length_take]; show _ + 1 ≤ 1000; omega) fun e3 K3 f3 he3 => ?_
    refine ⟨_, rfl, _, rfl, _, _, rfl, rfl, _, rfl, ?_⟩
    refine sl_txN (lo := some ((kk : Int) + 1)) (r8.same ((f1.trans f2).trans f3)) (L := S.drop (kk + 1)) (by rw [show ((kk : Int) + 1) = ((kk + 1 : Nat) : Int) by omega, cut_drop, List.map_drop]) fun e4 K4 f4 he4 => ?_
    refine cat_tx (he3.same f4) he4 (by rw [List.length_append, List.length_take, List.length_drop]; show _ + 1 + _ ≤ 1000; omega) fun a8 K5 f5 ha8 => ?_
    have f15 := (((f1.trans f2).trans f3).trans f4).trans f5
    refine ⟨_, rfl, _, rfl, ?_⟩
    refine sl_tx (hi := some (3 : Nat)) (r8.same f15) (L := S.take 3) (by rw [cut_take, List.map_take]) fun a9 K6 f6 ha9 => ?_
    have f16 := f15.trans f6
    refine ⟨_, rfl, _, rfl, t, _, rfl, .inr (.inl (r8.same f16)), fun l2 nl2 => ?_⟩
    have f7 : Same K6 (upd K6 l2 (.lst (S.map V.str))) := same_upd nl2
    have hl2 : (upd K6 l2 (.lst (S.map V.str))) l2 = some (.lst (S.map V.str)) := upd_same
    generalize upd K6 l2 (.lst (S.map V.str)) = K7 at f7 hl2
    have f17 := f16.trans f7
    have BK7 : BagAt K7 b := bagS B7 (c118.trans f17)
    refine ⟨b, l2, _, rfl, BK7, strs_ne_bag BK7 hl2, .inl (.inl hl2), by rw [List.length_map]; omega, fun K8 l3 zs u8 BK8 nl3 l3b hl3 pz => ?_⟩
    obtain ⟨Z, rfl, pZ⟩ : ∃ Z : List Str, zs = Z.map V.str ∧ Z.Perm S := perm_lift pz S rfl
    refine ⟨l3, _, rfl, .inl ⟨.inl (.inl hl3), fun a10 na10 => ?_⟩⟩
    have f9 : Same K8 (upd K8 a10 (.tup (Z.map V.str))) := same_upd na10
    have ha10 : TxR (upd K8 a10 (.tup (Z.map V.str))) a10 Z := .inl upd_same
    generalize upd K8 a10 (.tup (Z.map V.str)) = K9 at f9 ha10
    refine ⟨by show 3 ≤ sizeLine; omega, fun l4 nl4 => ?_⟩
    have f10 : Same K9 (upd K9 l4 (.lst [.ref a8, .ref a9, .ref a10])) := same_upd nl4
    have hl4 : (upd K9 l4 (.lst [.ref a8, .ref a9, .ref a10])) l4 = some (.lst [.ref a8, .ref a9, .ref a10]) := upd_same
    generalize upd K9 l4 (.lst [.ref a8, .ref a9, .ref a10]) = K10 at f10 hl4
    obtain ⟨xb, hxb, vxb⟩ := id BK7
    have l1b : l1 ≠ b := fun e => by
      obtain ⟨xb, hxb, vxb⟩ := bagS B7 c110
      rw [e, hxb] at nl1
      cases nl1
    have hl1K : K10 l1 = some (.lst [.ref a1, .ref a2, .ref a3, .ref a4, .ref a5, .ref a6, .ref a7]) := f10 _ _ (f9 _ _ (u8 _ _ (f17 _ _ hl1) l1b))
    refine ⟨l1, l4, _, _, rfl, rfl, hl1K, hl4, by show 7 + 3 ≤ sizeLine; omega, fun l5' nl5' => ?_⟩
    rw [show [V.ref a1, V.ref a2, V.ref a3, V.ref a4, V.ref a5, V.ref a6, V.ref a7] ++ [V.ref a8, V.ref a9, V.ref a10] = [a1, a2, a3, a4, a5, a6, a7, a8, a9, a10].map V.ref from rfl]
    have f11 : Same K10 (upd K10 l5' (.lst ([a1, a2, a3, a4, a5, a6, a7, a8, a9, a10].map V.ref))) := same_upd nl5'
    have hl5 : (upd K10 l5' (.lst ([a1, a2, a3, a4, a5, a6, a7, a8, a9, a10].map V.ref))) l5' = some (.lst ([a1, a2, a3, a4, a5, a6, a7, a8, a9, a10].map V.ref)) := upd_same
    generalize upd K10 l5' (.lst ([a1, a2, a3, a4, a5, a6, a7, a8, a9, a10].map V.ref)) = K11 at f11 hl5
    have f911 := (f9.trans f10).trans f11
    have T2 : TL K11 [a1, a2, a3, a4, a5, a6, a7, a8, a9, a10] [S.reverse, S.take 2, S.take 1, [], S ++ S, S ++ S.take 1, S.take kk ++ S.drop (kk + 1), (S.take kk ++ [oth]) ++ S.drop (kk + 1), S.take 3, Z] := by
      obtain ⟨y1, y2, y3, y4, y5, y6, y7, _⟩ := T1.to (H' := K11) fun h => ((h.same f17).up BK7 u8).same f911
      exact ⟨y1, y2, y3, y4, y5, y6, y7, ((ha8.same (f6.trans f7)).up BK7 u8).same f911, ((ha9.same f7).up BK7 u8).same f911, ha10.same (f10.trans f11), trivial⟩
    have hmemS : ∀ L ∈ [S.reverse, S.take 2, S.take 1, [], S ++ S, S ++ S.take 1, S.take kk ++ S.drop (kk + 1), (S.take kk ++ [oth]) ++ S.drop (kk + 1), S.take 3, Z], L.length ≤ 900 ∧ ∀ x ∈ L, x ∈ rnm BB := by
      have tk : ∀ {n : Nat} {x : Str}, x ∈ S.take n → x ∈ rnm BB := fun {n x} h => hS.mem x (List.mem_of_mem_take h)
      have dk : ∀ {n : Nat} {x : Str}, x ∈ S.drop n → x ∈ rnm BB := fun {n x} h => hS.mem x (List.mem_of_mem_drop h)
      have eZ := pZ.length_eq
      intro L hL
      simp only [List.mem_cons, List.not_mem_nil, or_false] at hL
      rcases hL with rfl | rfl | rfl | rfl | rfl | rfl | rfl | rfl | rfl | rfl
      · exact ⟨by rw [List.length_reverse]; omega, fun x hx => hS.mem x (List.mem_reverse.mp hx)⟩
      · exact ⟨by rw [List.length_take]; omega, fun x hx => tk hx⟩
      · exact ⟨by rw [List.length_take]; omega, fun x hx => tk hx⟩
      · exact ⟨by show 0 ≤ 900; omega, fun x hx => by cases hx⟩
      · exact ⟨by rw [List.length_append]; omega, fun x hx => (List.mem_append.mp hx).elim (hS.mem x) (hS.mem x)⟩
      · exact ⟨by rw [List.length_append, List.length_take]; omega, fun x hx => (List.mem_append.mp hx).elim (hS.mem x) tk⟩
      · exact ⟨by rw [List.length_append, List.length_take, List.length_drop]; omega, fun x hx => (List.mem_append.mp hx).elim tk dk⟩
      · exact ⟨by rw [List.length_append, List.length_append, List.length_take, List.length_drop]; show _ + 1 + _ ≤ 900; omega, fun x hx => (List.mem_append.mp hx).elim (fun h => (List.mem_append.mp h).elim tk fun h => by rw [List.mem_singleton.mp h]; exact hom) dk⟩
      · exact ⟨by rw [List.length_take]; omega, fun x hx => tk hx⟩
      · exact ⟨by omega, fun x hx => hS.mem x (pZ.mem_iff.mp hx)⟩
    obtain ⟨tl1, tl2⟩ := T2.tups
    generalize [S.reverse, S.take 2, S.take 1, [], S ++ S, S ++ S.take 1, S.take kk ++ S.drop (kk + 1), (S.take kk ++ [oth]) ++ S.drop (kk + 1), S.take 3, Z] = SS at hmemS tl1 tl2
    generalize [a1, a2, a3, a4, a5, a6, a7, a8, a9, a10] = TS at hl5 tl1 tl2
    have htK : FT K11 t S := ((ht7.same (c118.trans f17)).up BK7 u8).same f911
    have hAK : RowsAt K11 h AP := ((hA7.same (c118.trans f17)).upto BK7 hhb u8).same f911
    have BK11 : BagAt K11 b := bagS BK8 f911
    have uK : Upto b H K11 := ((u07.trans (.of (c118.trans f17))).trans u8).trans (.of f911)
    clear T1 T2 ha8 ha9 ha10 he1 he2 he3 he4 hl1 hl1K hl4 hl3 hl2
    refine ⟨_, rfl, l5', rfl, ⟨_, .inl (.inl hl5)⟩, ?_⟩
    refine for_list (K := K) (a := l5') (xs := TS.map V.ref) (fun i σ H2 => ∃ v8 v9, σ = [some (.ref b), some (.ref d), some (.ref t), some (.ref h), some (.int (kk : Int)), some (.ref u4), some (.str oth), some (.ref l5'), v8, v9, none] ∧ Same K11 H2) ⟨none, none, rfl, .refl _⟩ (fun i σ H2 _ ⟨_, _, _, s⟩ => .inl (.inl (s _ _ hl5))) ?_ ?_
    · rintro i x σ H2 hx ⟨v8, v9, rfl, s2⟩
      rw [List.getElem?_map] at hx
      obtain ⟨ti, hti, rfl⟩ := Option.map_eq_some_iff.mp hx
      have hi : i < SS.length := by rw [← tl1]; exact (List.getElem?_eq_some_iff.mp hti).1
      have hSi : SS[i]? = some SS[i] := List.getElem?_eq_getElem hi
      have htx := (tl2 i ti _ hti hSi).same s2
      obtain ⟨q1, q2⟩ := hmemS _ (List.mem_of_getElem? hSi)
      generalize SS[i] = L at htx q1 q2
      have hAi := hAK.same s2
      refine ⟨_, rfl, _, rfl, .ref ti, h, AP, _, rfl, hAi, hAl, .txt htx q1, fun H3 s3 => ?_⟩
      refine ⟨_, rfl, .bl _, .ty "bool", _, _, true, rfl, .ty "bool", .base (.bl _), kit_ty (by decide +kernel), _, rfl, ?_⟩
      refine iteF ?_
      refine ⟨_, rfl, _, rfl, _, rfl, ti, h, L, AP, rfl, htx.same s3, q1, fun x hx => name_pl hb (q2 x hx), hAi.same s3, hAl, hpl, fun H4 s4 => ?_⟩
      refine ⟨rfl, _, rfl, ?_⟩
      rw [show (!decide (V.bl (goesL (rowsOf AP) L) = V.bl (goesL (rowsOf AP) L))) = false by rw [decide_eq_true rfl]; rfl]
      refine iteF ?_
      exact ⟨_, _, rfl, (s2.trans s3).trans s4⟩
    rintro σ H2 ⟨v8, v9, rfl, s2⟩
    have ht2 : TxR H2 t S := (htK.same s2).rd
    have l3 : ∀ {j : Nat}, j < 3 → (S.map V.str)[j]? = some (V.str (S.getD j "")) := fun {j} hj => by rw [List.getElem?_map, List.getElem?_eq_getElem (by omega), getD_at (by omega)]; rfl
    have x0 := l3 (j := 0) (by omega)
    have x1 := l3 (j := 1) (by omega)
    generalize S.getD 0 "" = s0 at x0
    generalize S.getD 1 "" = s1 at x1
    refine ⟨_, rfl, t, _, rfl, .inr (.inl ht2), fun o1 no1 => ?_⟩
    have g1 : Same H2 (upd H2 o1 (.lst (S.map V.str))) := same_upd no1
    have ho1 : (upd H2 o1 (.lst (S.map V.str))) o1 = some (.lst (S.map V.str)) := upd_same
    generalize upd H2 o1 (.lst (S.map V.str)) = G1 at g1 ho1
    refine ⟨_, rfl, t, _, _, _, rfl, rfl, .inl (ht2.same g1), atI_nat x0, ?_⟩
    refine ⟨by show 1 ≤ sizeLine; omega, fun o2 no2 => ?_⟩
    have g2 : Same G1 (upd G1 o2 (.tup [.non])) := same_upd no2
    have ho2 : (upd G1 o2 (.tup [.non])) o2 = some (.tup [.non]) := upd_same
    generalize upd G1 o2 (.tup [.non]) = G2 at g2 ho2
    refine ⟨o2, 3, _, rfl, rfl, .inl (.inl ho2), by simp, by omega, by omega, by show 1 ≤ 1000; omega, fun o3 no3 => ?_⟩
    have g3 : Same G2 (upd G2 o3 (.tup (List.replicate (Int.toNat 3) [V.non]).flatten)) := same_upd no3
    have ho3 : (upd G2 o3 (.tup (List.replicate (Int.toNat 3) [V.non]).flatten)) o3 = some (.tup [.non, .non, .non]) := upd_same
    generalize upd G2 o3 (.tup (List.replicate (Int.toNat 3) [V.non]).flatten) = G3 at g3 ho3
    refine ⟨by show 0 ≤ sizeLine; omega, fun o4 no4 => ?_⟩
    have g4 : Same G3 (upd G3 o4 (.lst [])) := same_upd no4
    have ho4 : (upd G3 o4 (.lst [])) o4 = some (.lst []) := upd_same
    generalize upd G3 o4 (.lst []) = G4 at g4 ho4
    have g14 := ((g1.trans g2).trans g3).trans g4
    refine ⟨_, rfl, t, _, _, _, rfl, rfl, .inl (ht2.same g14), atI_nat x0, ?_⟩
    refine ⟨_, rfl, t, _, _, _, rfl, rfl, .inl (ht2.same g14), atI_nat x1, ?_⟩
    refine ⟨by show 3 ≤ sizeLine; omega, fun o5 no5 => ?_⟩
    have g5 : Same G4 (upd G4 o5 (.tup [.ref o4, .str s0, .str s1])) := same_upd no5
    have ho5 : (upd G4 o5 (.tup [.ref o4, .str s0, .str s1])) o5 = some (.tup [.ref o4, .str s0, .str s1]) := upd_same
    generalize upd G4 o5 (.tup [.ref o4, .str s0, .str s1]) = G5 at g5 ho5
    refine ⟨_, rfl, by show 1 ≤ sizeLine; omega, fun o6 no6 => ?_⟩
    have g6 : Same G5 (upd G5 o6 (.tup [.ref t])) := same_upd no6
    have ho6 : (upd G5 o6 (.tup [.ref t])) o6 = some (.tup [.ref t]) := upd_same
    generalize upd G5 o6 (.tup [.ref t]) = G6 at g6 ho6
    refine ⟨by show 8 ≤ sizeLine; omega, fun o7 no7 => ?_⟩
    have g7 : Same G6 (upd G6 o7 (.lst [.non, .ref o1, .str s0, .int 3, .bl true, .ref o3, .ref o5, .ref o6])) := same_upd no7
    have ho7 : (upd G6 o7 (.lst [.non, .ref o1, .str s0, .int 3, .bl true, .ref o3, .ref o5, .ref o6])) o7 = some (.lst [.non, .ref o1, .str s0, .int 3, .bl true, .ref o3, .ref o5, .ref o6]) := upd_same
    generalize upd G6 o7 (.lst [.non, .ref o1, .str s0, .int 3, .bl true, .ref o3, .ref o5, .ref o6]) = G7 at g7 ho7
    have odd : ∀ v ∈ [V.non, .ref o1, .str s0, .int 3, .bl true, .ref o3, .ref o5, .ref o6], GoK K G7 (rowsOf AP) v false := by
      intro v hv
      simp only [List.mem_cons, List.not_mem_nil, or_false] at hv
      have k57 := (g5.trans g6).trans g7
      rcases hv with rfl | rfl | rfl | rfl | rfl | rfl | rfl | rfl
      · exact .no (.base .non) (kit_ty (by decide +kernel))
      · exact .no (.base (.lst ((((((g2.trans g3).trans g4).trans g5).trans g6).trans g7) _ _ ho1))) (kit_ty (by decide +kernel))
      · exact .no (.base (.str _)) (kit_ty (by decide +kernel))
      · exact .no (.base (.int _)) (kit_ty (by decide +kernel))
      · exact .no (.base (.bl _)) (kit_ty (by decide +kernel))
      · refine .odd (((g4.trans k57)) _ _ ho3) (by show 3 ≤ 900; omega) (fun _ => false) (fun i x e => ?_) ⟨0, by show 0 < 3; omega, rfl⟩
        have e : [V.non, V.non, V.non][i]? = some x := e
        have hm := List.mem_of_getElem? e
        simp only [List.mem_cons, List.not_mem_nil, or_false, or_self] at hm
        subst hm
        exact ⟨_, .base .non, kit_ty (by decide +kernel)⟩
      · refine .odd ((g6.trans g7) _ _ ho5) (by show 3 ≤ 900; omega) (fun i => decide (0 < i)) (fun i x e => ?_) ⟨0, by show 0 < 3; omega, rfl⟩
        match i, e with
        | 0, e =>
          cases e
          exact ⟨_, .base (.lst (k57 _ _ ho4)), kit_ty (by decide +kernel)⟩
        | 1, e =>
          cases e
          exact ⟨_, .base (.str _), kit_ty (by decide +kernel)⟩
        | 2, e =>
          cases e
          exact ⟨_, .base (.str _), kit_ty (by decide +kernel)⟩
        | i + 3, e => cases e
      · exact .few (g7 _ _ ho6) (by show 1 < 3; omega)
    have hA7' := (hAK.same s2).same (g14.trans ((g5.trans g6).trans g7))
    have uF := uK.trans (.of (s2.trans (g14.trans ((g5.trans g6).trans g7))))
    have BF : BagAt G7 b := bagS BK11 (s2.trans (g14.trans ((g5.trans g6).trans g7)))
    generalize [V.non, .ref o1, .str s0, .int 3, .bl true, .ref o3, .ref o5, .ref o6] = OD at odd ho7
    refine ⟨o7, rfl, ⟨_, .inl (.inl ho7)⟩, ?_⟩
    refine for_list (K := K) (a := o7) (xs := OD) (fun i σ H2 => ∃ v8 v9 v10, σ = [some (.ref b), some (.ref d), some (.ref t), some (.ref h), some (.int (kk : Int)), some (.ref u4), some (.str oth), some (.ref l5'), v8, v9, v10] ∧ Same G7 H2) ⟨_, _, none, rfl, .refl _⟩ (fun i σ H2 _ ⟨_, _, _, _, s⟩ => .inl (.inl (s _ _ ho7))) ?_ ?_
    · rintro i x σ H3 hx ⟨v8, v9, v10, rfl, s3⟩
      have hox := (odd x (List.mem_of_getElem? hx)).same s3
      refine ⟨_, rfl, _, rfl, x, h, AP, false, rfl, hA7'.same s3, hAl, hox, fun H4 s4 => ?_⟩
      refine ⟨_, _, rfl, rfl, _, rfl, ?_⟩
      refine iteF ?_
      exact ⟨_, _, _, rfl, s3.trans s4⟩
    rintro σ H3 ⟨v8, v9, v10, rfl, s3⟩
    exact k H3 (uF.trans (.of s3)) (bagS BF s3)
end
end K0
end
section
set_option Elab.async false
set_option linter.all false
set_option maxRecDepth 100000
set_option maxHeartbeats 8000000
namespace K0
open PySem PySem.Spec PyProof.Rows L2 MN
/-! ### a round drawn -/
theorem prev_atF {f : Str → V} {ns : List Str} {k : Nat} (hk : k < ns.length) : atI (ns.map f) ((k : Int) - 1) = some (f (prevS ns k)) := by
  have hl : (ns.map f).length = ns.length := List.length_map _
  unfold prevS
  rcases Nat.eq_zero_or_pos k with h | h
  · subst h
    rw [Nat.zero_add, Nat.mod_eq_of_lt (by omega)]
    unfold atI ixN
    rw [hl, if_neg (by omega), if_pos (by omega)]
    show (ns.map f)[(((0 : Nat) : Int) - 1 + (ns.length : Nat)).toNat]? = _
    rw [show (((0 : Nat) : Int) - 1 + (ns.length : Nat)).toNat = ns.length - 1 by omega, List.getElem?_map, List.getElem?_eq_getElem (by omega), List.getD_eq_getElem?_getD, List.getElem?_eq_getElem (by omega)]
    rfl
  · have e : (k + ns.length - 1) % ns.length = k - 1 := by
      rw [show k + ns.length - 1 = (k - 1) + ns.length by omega, Nat.add_mod_right]
      exact Nat.mod_eq_of_lt (by omega)
    rw [e, show (k : Int) - 1 = ((k - 1 : Nat) : Int) by omega]
    refine atI_nat ?_
    rw [List.getElem?_map, List.getElem?_eq_getElem (by omega), List.getD_eq_getElem?_getD, List.getElem?_eq_getElem (by omega)]
    rfl
theorem dp_nats {K : PySem.W.Frag} {H : Hp} : ∀ l : List Nat, DpAll K H (l.map fun (k : Nat) => V.int (k : Int)) (l.map fun (k : Nat) => PyData.int (k : Int))
  | [] => .nil
  | _ :: l => .cons (.int _) (dp_nats l)
theorem canLay_nats : ∀ {l : List Nat}, PyData.canLayAll0 (l.map fun (k : Nat) => PyData.int (k : Int)) = true
  | [] => by simp only [List.map_nil, PyData.canLayAll0]
  | y :: l => by simp only [List.map_cons, PyData.canLayAll0, PyData.canLay0, canLay_nats (l := l), Bool.and_self]
theorem depth_nats : ∀ l : List Nat, PyData.depthAll (l.map fun (k : Nat) => PyData.int (k : Int)) = 0
  | [] => by simp only [List.map_nil, PyData.depthAll]
  | y :: l => by
    simp only [List.map_cons, PyData.depthAll, PyData.depth, depth_nats l]
    rfl
theorem shaped_nats {l : List Nat} : SeqAt.shaped (.list (l.map fun (k : Nat) => PyData.int (k : Int))) = true := by
  unfold SeqAt.shaped
  simp only [PyData.canLay0, PyData.depth, canLay_nats, depth_nats]
  rfl
theorem eqv_nilN (l : List Nat) : PyData.eqv (.list (l.map fun (k : Nat) => PyData.int (k : Int))) (.list []) = decide (l = []) := by
  cases l with
  | nil => simp only [List.map_nil, PyData.eqv, PyData.eqvAll]; rfl
  | cons a l => simp only [List.map_cons, PyData.eqv, PyData.eqvAll]; rfl
/-- a round that may be drawn -/
structure DrOk (R : List Row) (B : List RRow) (L : List Str) : Prop where
  three : 3 ≤ L.length
  nd : L.Nodup
  mem : ∀ x ∈ L, x ∈ rnm B
  cyc : Cyc (fun x y => meetB R B x y = true) L
theorem DrOk.insert {R : List Row} {B : List RRow} {L : List Str} {k : Nat} {x : Str} (h : DrOk R B L) (hk : k < L.length) (hx : x ∈ rnm B) (nx : x ∉ L) (m1 : meetB R B x (L.getD k "") = true) (m2 : meetB R B x (prevS L k) = true) : DrOk R B (L.take k ++ [x] ++ L.drop k) := by
  have e : L.take k ++ [x] ++ L.drop k = L.take k ++ x :: L.drop k := by rw [List.append_assoc]; rfl
  have p : (L.take k ++ x :: L.drop k).Perm (x :: L) := by
    have := List.perm_middle (a := x) (l₁ := L.take k) (l₂ := L.drop k)
    rw [List.take_append_drop] at this
    exact this
  rw [e]
  refine ⟨by have := p.length_eq; have := h.three; rw [p.length_eq, List.length_cons]; omega, p.nodup_iff.mpr (List.nodup_cons.mpr ⟨nx, h.nd⟩), fun y hy => ?_, cyc_insert h.cyc hk (by rw [meet_symm]; exact m2) m1⟩
  rcases List.mem_cons.mp (p.mem_iff.mp hy) with e | e
  · rw [e]; exact hx
  · exact h.mem y e
abbrev scLDrawn_N : List Str := ["_law_bag_here", "_law_rows", "_law_ways", "_law_weir", "_law_name", "_law_weirs", "_law_crowd", "_law_found", "_law_meets_here", "_law_places", "_law_below", "_law_one", "_law_k"]
abbrev scLDrawn_S : Stmt := sLDrawn
theorem scLDrawn : FnScope scLDrawn_N ["_law_bag_here", "_law_rows", "_law_ways"] (defScope sLDrawn) := ⟨rfl, rfl, rfl, by decide +kernel, rfl, by decide +kernel, by decide +kernel⟩
abbrev iscD : Scope := ⟨.function, [(".0", .local), ("_law_weir", .cell), ("_law_below", .local), ("len", .globalImplicit), ("_law_ways", .cell)], false, false, []⟩
def spLDrawn : Sp := fun vs H Q _ => ∃ (b l d : Addr) (AL : List (Addr × Row)) (B : List RRow), vs = [.ref b, .ref l, .ref d] ∧ BagAt H b ∧ RowsAt H l AL ∧ l ≠ b ∧ GoodRows (rowsOf AL) ∧ RtOk (rowsOf AL) B ∧ WaysL H d (rnm B) (wayN (rowsOf AL) B) ∧ ∀ H' z L, Upto b H H' → BagAt H' b → H z = none → z ≠ b → H' z = some (.lst (L.map V.str)) → (L = [] ∨ DrOk (rowsOf AL) B L) → Q (.ref z) H'
section
variable {P : Program} {w : World} {K : PySem.W.Frag} {mg : Str → Option Value} {base : Heap} {tS tM tL : Tok}
theorem ok_ldrawn {f fT fX fO fM : Addr} {fd fdT fdX fdO fdM : FuncData} (F : FnP K "_law_drawn_round" sLDrawn f fd) (F_law_take : FnP K "_law_take" sTake fT fdT) (g_law_take : mg "_law_take" = some (.ref fT)) (F_law_mixed : FnP K "_law_mixed" sMixed fX fdX) (g_law_mixed : mg "_law_mixed" = some (.ref fX)) (F_law_of : FnP K "_law_of" sOf fO fdO) (g_law_of : mg "_law_of" = some (.ref fO)) (F_law_meets : FnP K "_law_meets" sLMeets fM fdM) (g_law_meets : mg "_law_meets" = some (.ref fM)) (B : Bl mg) : FnOk P w K mg base CX0 3 f fd ["_law_bag_here", "_law_rows", "_law_ways"] spLDrawn := by
  have G_law_take : FnOk P w K mg base CX0 1 fT fdT ["_law_bag_here", "_law_many"] spTake := ok_take F_law_take B
  have b_law_take : Binds K fdT ["_law_bag_here", "_law_many"] [] := F_law_take.bindsN fun _ _ _ _ _ _ us hl => match us, hl with | [_, _], _ => rfl
  have G_law_of : FnOk P w K mg base CX0 2 fO fdO ["_law_bag_here", "_law_some"] (spOf K) := ok_of F_law_of F_law_take B g_law_take
  have b_law_of : Binds K fdO ["_law_bag_here", "_law_some"] [] := F_law_of.bindsN fun _ _ _ _ _ _ us hl => match us, hl with | [_, _], _ => rfl
  have G_law_mixed : FnOk P w K mg base CX0 2 fX fdX ["_law_bag_here", "_law_some"] (spMixed K) := ok_mixed F_law_mixed F_law_take B g_law_take
  have b_law_mixed : Binds K fdX ["_law_bag_here", "_law_some"] [] := F_law_mixed.bindsN fun _ _ _ _ _ _ us hl => match us, hl with | [_, _], _ => rfl
  have G_law_meets : FnOk P w K mg base CX0 1 fM fdM ["_law_ways", "_law_one", "_law_other"] spLMeetsF := ok_lmeets F_law_meets B
  have b_law_meets : Binds K fdM ["_law_ways", "_law_one", "_law_other"] [] := F_law_meets.bindsN fun _ _ _ _ _ _ us hl => match us, hl with | [_, _, _], _ => rfl
  refine F.ok scLDrawn (fun vs H Q E h => ?_) (fun cdv A outer s H vs Q E hr h => ?_)
  · obtain ⟨b, l, d, AL, BB, rfl, _⟩ := h
    rfl
  · obtain ⟨b, l, d, AL, BB, rfl, hB, hL, hlb, hg, hb, W, k⟩ := h
    have hu := hu_of hr
    have hu64 := hr.units
    have hr_law_take : Room 1 _ := hr.mono (by decide)
    have hr_law_of : Room 2 _ := hr.mono (by decide)
    have hr_law_mixed : Room 2 _ := hr.mono (by decide)
    have hr_law_meets : Room 1 _ := hr.mono (by decide)
    refine ⟨_, PSs.nox (pss_cons
      (ps_setLc (i := 5) (own := [("_law_weir", 3), ("_law_below", 10)])   (by rfl) scLDrawn.nd rfl rfl (sw_true rfl rfl rfl (by decide +kernel)) (pi_list (pv 1)) (blkOk_by (own := [("_law_weir", 3), ("_law_below", 10)]) (N := scLDrawn_N) (sc := defScope scLDrawn_S) (by decide +kernel)) (fun _ _ _ _ _ => (tgK (K := K) (n := 2) (by rfl) (pgs_cons (pg_name (i := 3) scLDrawn.nd rfl (Or.inr rfl)) (pgs_cons (pg_name (i := 10) scLDrawn.nd rfl (Or.inl rfl)) pgs_nil)))) (fun _ _ _ _ _ => (pts_one (pt_cmpR op_gt (pe_callB (lenK (K := K)) (by rfl) B.len PySem.boot_len (pa_cons (pe_lock (pe_lc (own := [("_law_name", 4)]) (g := gName 4)  (by rfl) scLDrawn.nd (pi_keys (pv 2)) (blkOk_by (own := [("_law_name", 4)]) (N := scLDrawn_N) (sc := iscD) (by decide +kernel)) (fun _ _ _ _ _ => (pg_name (i := 4) scLDrawn.nd rfl (Or.inl rfl))) (fun _ _ _ _ _ => (pts_one (pt_cmpR (inK (K := K)) (pv 3) (pe_dget hu (pv 2) (pv 4) (fun _ _ => rfl)) (by rfl)))) (fun _ _ _ _ _ => (pv 4)))) pa_nil)) pe_int (nomark _)))) (fun _ _ _ _ _ => (pv 3)))
      (pss_cons
      (ps_if (pt_cmpR (op_eqD hu64) (pv 5) (pe_lst pa_nil) (nomark _)) (pss_one
      (ps_ret (pe_lst pa_nil))) pss_nil)
      (pss_cons
      (ps_set (i := 3) scLDrawn.nd rfl (Or.inr rfl) (pe_call G_law_of hr_law_of (by rfl) g_law_of F_law_of.kp b_law_of .nil pass0 (pa_cons (pv 0) (pa_cons (pv 5) pa_nil))))
      (pss_cons
      (ps_setLc (i := 6) (own := [("_law_name", 4)]) (g := gName 4)  (by rfl) scLDrawn.nd rfl rfl (sw_true rfl rfl rfl (by decide +kernel)) (pi_list (pe_call G_law_mixed hr_law_mixed (by rfl) g_law_mixed F_law_mixed.kp b_law_mixed .nil pass0 (pa_cons (pv 0) (pa_cons (pe_callTy (call_listD rfl) (by rfl) B.list (by decide +kernel) (pa_cons (pv 2) pa_nil)) pa_nil)))) (blkOk_by (own := [("_law_name", 4)]) (N := scLDrawn_N) (sc := defScope scLDrawn_S) (by decide +kernel)) (fun _ _ _ _ _ => (pg_name (i := 4) scLDrawn.nd rfl (Or.inl rfl))) (fun _ _ _ _ _ => (pts_one (pt_cmpR (inK (K := K)) (pv 3) (pe_dget hu (pv 2) (pv 4) (fun _ _ => rfl)) (by rfl)))) (fun _ _ _ _ _ => (pv 4)))
      (pss_cons
      (ps_set (i := 7) scLDrawn.nd rfl (Or.inr rfl) (pe_slice sl_list (pv 6) po_none (po_some (pe_op op_add pe_int (pe_call G_law_take hr_law_take (by rfl) g_law_take F_law_take.kp b_law_take .nil pass0 (pa_cons (pv 0) (pa_cons (pe_op op_sub (pe_callB (lenK (K := K)) (by rfl) B.len PySem.boot_len (pa_cons (pv 6) pa_nil)) pe_int) pa_nil)))))))
      (pss_cons
      (ps_for PassesOwn.never rfl (pi_list (pe_call G_law_mixed hr_law_mixed (by rfl) g_law_mixed F_law_mixed.kp b_law_mixed .nil pass0 (pa_cons (pv 0) (pa_cons (pe_lock (pe_lc (own := [("_law_name", 4)]) (g := gName 4)  (by rfl) scLDrawn.nd (pi_keys (pv 2)) (blkOk_by (own := [("_law_name", 4)]) (N := scLDrawn_N) (sc := defScope scLDrawn_S) (by decide +kernel)) (fun _ _ _ _ _ => (pg_name (i := 4) scLDrawn.nd rfl (Or.inl rfl))) (fun _ _ _ _ _ => (pts_one (pt_cmpR (notInK (K := K)) (pv 4) (pv 7) (by rfl)))) (fun _ _ _ _ _ => (pv 4)))) pa_nil)))) (pg_name (i := 4) scLDrawn.nd rfl (Or.inr rfl)) (pss_cons
      (ps_set (i := 8) scLDrawn.nd rfl (Or.inr rfl) (pe_lc (own := [("_law_one", 11)]) (g := gName 11) (tt := tYes) (by rfl) scLDrawn.nd (pi_list (pv 7)) (blkOk_by (own := [("_law_one", 11)]) (N := scLDrawn_N) (sc := defScope scLDrawn_S) (by decide +kernel)) (fun _ _ _ _ _ => (pg_name (i := 11) scLDrawn.nd rfl (Or.inl rfl))) (fun _ _ _ _ _ => pts_nil) (fun _ _ _ _ _ => (pe_call G_law_meets hr_law_meets (by rfl) g_law_meets F_law_meets.kp b_law_meets .nil pass0 (pa_cons (pv 2) (pa_cons (pv 4) (pa_cons (pv 11) pa_nil)))))))
      (pss_cons
      (ps_setLc (i := 9) (own := [("_law_k", 12)]) (g := gName 12)  (by rfl) scLDrawn.nd rfl rfl (sw_true rfl rfl rfl (by decide +kernel)) (pi_range1 (by rfl) B.range (pa_cons (pe_callB (lenK (K := K)) (by rfl) B.len PySem.boot_len (pa_cons (pv 7) pa_nil)) pa_nil)) (blkOk_by (own := [("_law_k", 12)]) (N := scLDrawn_N) (sc := defScope scLDrawn_S) (by decide +kernel)) (fun _ _ _ _ _ => (pg_name (i := 12) scLDrawn.nd rfl (Or.inl rfl))) (fun _ _ _ _ _ => (pts_one (PW.pt (pw_and (pt_val (pe_ix (ixLK (K := K)) (pv 8) (pv 12) (fun _ _ => rfl))) (pw_and1 (pt_val (pe_ix (ixLK (K := K)) (pv 8) (pe_op op_sub (pv 12) pe_int) (fun _ _ => rfl)))))))) (fun _ _ _ _ _ => (pv 12)))
      (pss_one
      (ps_if (PW.pt (pw_and (pt_cmpR (op_neD hu64) (pv 9) (pe_lst pa_nil) (nomark _)) (pw_and1 (pt_cmpR op_gt (pe_call G_law_take hr_law_take (by rfl) g_law_take F_law_take.kp b_law_take .nil pass0 (pa_cons (pv 0) (pa_cons pe_int pa_nil))) pe_int (nomark _))))) (pss_one
      (ps_expr (pe_bm PySem.F.plainAttrs_list PySem.F.slot_list_insert PySem.F.type_list_insert mt_insert (pv 7) (pa_cons (pe_call G_law_of hr_law_of (by rfl) g_law_of F_law_of.kp b_law_of .nil pass0 (pa_cons (pv 0) (pa_cons (pv 9) pa_nil))) (pa_cons (pv 4) pa_nil))))) pss_nil)))))
      (pss_one
      (ps_ret (pv 7))))))))), ?_⟩
    have z40 : 40000 ≤ sizeLine := by rw [sizeLine_eq]; omega
    have hm := hb.most
    have hln : (rnm BB).length = BB.length := List.length_map _
    have hAl : AL.length ≤ 40 := by
      have := hg.most
      rw [List.length_map] at this
      exact this
    obtain ⟨ta, w1, w2⟩ := id W.ex
    refine ⟨_, rfl, l, rfl, ⟨_, .inl (.inl hL.lst)⟩, fun D nD => ?_⟩
    refine lc_listO (K := K) (a := l) (xs := AL.map fun q => V.ref q.1) nD (fun j => ((((AL.map fun q => q.2.1)).take j).filter fun w => decide (2 < ((rnm BB).filter fun n => decide (w ∈ wayN (rowsOf AL) BB n)).length)).map V.str) (by rw [List.take_zero]; rfl) (fun j _ => filt_size (by rw [List.length_map]; omega) j) (.inl (.inl hL.lst)) ?_ ?_
    · intro j x H2 Nx hx s2 put skip
      rw [List.getElem?_map] at hx
      obtain ⟨q, hq, rfl⟩ := Option.map_eq_some_iff.mp hx
      have hqm := List.mem_of_getElem? hq
      have e := filt_take (p := fun w => decide (2 < ((rnm BB).filter fun n => decide (w ∈ wayN (rowsOf AL) BB n)).length)) (show (AL.map fun q => q.2.1)[j]? = some q.2.1 by rw [List.getElem?_map, hq]; rfl)
      refine ⟨q.1, _, rfl, .inl (.inl (s2 _ _ (hL.tup q hqm))), rfl, _, _, rfl, _, _, rfl, rfl, rfl, ?_⟩
      refine ⟨d, _, s2 _ _ w1, trivial, fun od => ?_⟩
      refine ⟨_, rfl, d, od, rfl, .inl ⟨_, upd_same, fun nl hnl => ?_⟩⟩
      have hfz : ∀ H5, Same (upd H2 d (.frz od (.dK (kmap (fun y => .ref (ta y)) (rnm BB))))) H5 → H5 d = some (.frz od (.dK (kmap (fun y => .ref (ta y)) (rnm BB)))) := fun H5 s => s _ _ upd_same
      have hta : ∀ y ∈ rnm BB, (upd H2 d (.frz od (.dK (kmap (fun y => .ref (ta y)) (rnm BB))))) (ta y) = some (.lst ((wayN (rowsOf AL) BB y).map V.str)) := fun y hy => by
        rw [upd_ne (ne_of (s2 _ _ (w2 y hy)) (s2 _ _ w1) (fun z => by cases z))]
        exact s2 _ _ (w2 y hy)
      refine lc_itO (walk_keys (kvs := kmap (fun y => .ref (ta y)) (rnm BB))) hnl (fun j => (((rnm BB).take j).filter fun n => decide (q.2.1 ∈ wayN (rowsOf AL) BB n)).map V.str) (by rw [List.take_zero]; rfl) (fun j _ => filt_size (by omega) j) (fun H5 s => hfz _ s) ?_ ?_
      · rintro i x H5 H5' Nx hj s hcur put skip ⟨rfl, k0, v0, hkv, rfl⟩
        obtain ⟨n, hn, rfl, rfl⟩ := kmap_get hkv
        have hnm := List.mem_of_getElem? hn
        have e := filt_take (p := fun n => decide (q.2.1 ∈ wayN (rowsOf AL) BB n)) hn
        refine ⟨rfl, ?_⟩
        refine ⟨_, rfl, _, rfl, _, rfl, d, _, rfl, dget_rn (.inr ⟨_, hfz _ s⟩) hnm, ta n, _, rfl, .inl (.inl (.inl (s _ _ (hta n hnm)))), rfl, flat_strs _, _, rfl, ?_⟩
        have ei : inV (V.str q.2.1) ((wayN (rowsOf AL) BB n).map V.str) = decide (q.2.1 ∈ wayN (rowsOf AL) BB n) := inV_str _ _
        refine ite2 (fun hh => ?_) (fun hh => ?_)
        · have hh : q.2.1 ∈ wayN (rowsOf AL) BB n := by
            have h9 : inV (V.str q.2.1) ((wayN (rowsOf AL) BB n).map V.str) = true := hh
            rw [ei] at h9
            exact of_decide_eq_true h9
          rw [decide_eq_true hh, if_pos (by rfl)] at e
          refine ⟨_, rfl, put _ _ (.refl _) ?_⟩
          rw [e, List.map_append]
          rfl
        · have hh : ¬ q.2.1 ∈ wayN (rowsOf AL) BB n := fun z => hh (by
            show inV (V.str q.2.1) ((wayN (rowsOf AL) BB n).map V.str) = true
            rw [ei, decide_eq_true z])
          rw [decide_eq_false hh, if_neg Bool.false_ne_true, List.append_nil] at e
          exact skip _ (.refl _) (congrArg _ e)
      intro H5 s5 hnl5
      rw [kmap_len, List.take_length] at hnl5
      have dnl : nl ≠ d := fun z => by rw [z, upd_same] at hnl; cases hnl
      refine ⟨hfz _ s5, ?_⟩
      have s6 : Same H2 (upd H5 d (.dK (kmap (fun y => V.ref (ta y)) (rnm BB)))) := same_unlock (s2 _ _ w1) s5
      have hN6 : (upd H5 d (.dK (kmap (fun y => V.ref (ta y)) (rnm BB)))) nl = some (.lst (((rnm BB).filter fun n => decide (q.2.1 ∈ wayN (rowsOf AL) BB n)).map V.str)) := by rw [upd_ne dnl]; exact hnl5
      generalize upd H5 d (.dK (kmap (fun y => V.ref (ta y)) (rnm BB))) = H6 at s6 hN6
      refine ⟨nl, _, rfl, .inl (.inl (.inl hN6)), _, _, rfl, rfl, _, rfl, ?_⟩
      rw [List.length_map]
      refine ite2 (fun hh => ?_) (fun hh => ?_)
      · have hh := of_decide_eq_true hh
        rw [decide_eq_true (show 2 < ((rnm BB).filter fun n => decide (q.2.1 ∈ wayN (rowsOf AL) BB n)).length by omega), if_pos (by rfl)] at e
        refine ⟨_, rfl, put _ _ s6 ?_⟩
        rw [e, List.map_append]
        rfl
      · have hh : ¬ 2 < ((rnm BB).filter fun n => decide (q.2.1 ∈ wayN (rowsOf AL) BB n)).length := fun z => hh (decide_eq_true (by omega))
        rw [decide_eq_false hh, if_neg Bool.false_ne_true, List.append_nil] at e
        exact skip _ s6 (congrArg _ e)
    intro H2 s2 hD2
    rw [List.length_map, show AL.length = (AL.map fun q => q.2.1).length from (List.length_map _).symm, List.take_length] at hD2
    have hWS : ∀ w ∈ (AL.map fun q => q.2.1).filter (fun w => decide (2 < ((rnm BB).filter fun n => decide (w ∈ wayN (rowsOf AL) BB n)).length)), Plain w ∧ 2 < ((rnm BB).filter fun n => decide (w ∈ wayN (rowsOf AL) BB n)).length := fun w hw => by
      obtain ⟨h1, h2⟩ := List.mem_filter.mp hw
      obtain ⟨q, hq, rfl⟩ := List.mem_map.mp h1
      exact ⟨plain_name hg (List.mem_map.mpr ⟨q.2, List.mem_map.mpr ⟨q, hq, rfl⟩, rfl⟩), of_decide_eq_true h2⟩
    have hWl : ((AL.map fun q => q.2.1).filter (fun w => decide (2 < ((rnm BB).filter fun n => decide (w ∈ wayN (rowsOf AL) BB n)).length))).length ≤ 40 := Nat.le_trans (List.length_filter_le _ _) (by rw [List.length_map]; exact hAl)
    generalize (AL.map fun q => q.2.1).filter (fun w => decide (2 < ((rnm BB).filter fun n => decide (w ∈ wayN (rowsOf AL) BB n)).length)) = WS at hD2 hWS hWl
    have B2 := bagS hB s2
    refine ⟨_, rfl, by show 0 ≤ sizeLine; omega, fun e0 ne0 => ?_⟩
    have s3 : Same H2 (upd H2 e0 (.lst [])) := same_upd ne0
    have he3 : (upd H2 e0 (.lst [])) e0 = some (.lst []) := upd_same
    generalize upd H2 e0 (.lst []) = H3 at s3 he3
    refine ⟨_, _, .lst (.inl (.inl (s3 _ _ hD2))) (dp_strs WS), .lst (.inl (.inl he3)) .nil, shaped_lst (fun y hy => (hWS y hy).1), by decide +kernel, _, rfl, ?_⟩
    rw [eqv_nilL]
    have B3 := bagS B2 s3
    have s23 := s2.trans s3
    refine ite2 (fun hh => ?_) (fun hh => ?_)
    · refine ⟨by show 0 ≤ sizeLine; omega, fun z nz => ?_⟩
      have zb : z ≠ b := fun e => by
        obtain ⟨_, hx, _⟩ := B3
        rw [e, hx] at nz
        cases nz
      have nzH : H z = none := by
        cases e : H z with
        | none => rfl
        | some o => rw [s23 _ _ e] at nz; cases nz
      exact k _ z [] (.of (s23.trans (same_upd nz))) (bagS B3 (same_upd nz)) nzH zb upd_same (.inl rfl)
    have hne : WS ≠ [] := fun z => hh (decide_eq_true z)
    refine ⟨_, rfl, _, rfl, b, D, _, rfl, B3, strs_ne_bag B3 (s3 _ _ hD2), .inl (.inl (s3 _ _ hD2)), by rw [List.length_map]; exact List.length_pos_iff.mpr hne, by rw [List.length_map]; omega, fun i v xs4 hv4 hx4 => ?_⟩
    rw [List.getElem?_map] at hv4
    obtain ⟨wr, hwr, rfl⟩ := Option.map_eq_some_iff.mp hv4
    have hwr2 := (hWS wr (List.mem_of_getElem? hwr)).2
    have u4 : Upto b H3 (upd H3 b (.lst xs4)) := Upto.at_
    have B4 : BagAt (upd H3 b (.lst xs4)) b := ⟨xs4, upd_same, hx4⟩
    generalize upd H3 b (.lst xs4) = H4 at u4 B4
    have u04 : Upto b H H4 := (Upto.of s23).trans u4
    have W4 := W.up hB u04
    clear w1 w2
    obtain ⟨ta4, w1, w2⟩ := id W4.ex
    have hkeys : ((kmap (fun y => V.ref (ta4 y)) (rnm BB)).map fun kv => kV kv.1) = (rnm BB).map V.str := by
      unfold kmap
      rw [List.map_map]
      rfl
    -- the crowd
    refine ⟨_, rfl, _, rfl, d, _, rfl, .inl w1, fun l5 nl5 => ?_⟩
    rw [hkeys]
    have s5 : Same H4 (upd H4 l5 (.lst ((rnm BB).map V.str))) := same_upd nl5
    have h5 : (upd H4 l5 (.lst ((rnm BB).map V.str))) l5 = some (.lst ((rnm BB).map V.str)) := upd_same
    generalize upd H4 l5 (.lst ((rnm BB).map V.str)) = H5 at s5 h5
    have B5 := bagS B4 s5
    refine ⟨b, l5, _, rfl, B5, strs_ne_bag B5 h5, .inl (.inl h5), by rw [List.length_map]; omega, fun H6 l6 zs u6 B6 nl6 l6b hl6 pz => ?_⟩
    obtain ⟨Z, rfl, pZ⟩ : ∃ Z : List Str, zs = Z.map V.str ∧ Z.Perm (rnm BB) := perm_lift pz (rnm BB) rfl
    have u06 : Upto b H H6 := (u04.trans (.of s5)).trans u6
    have W6 := W.up hB u06
    have hZl := pZ.length_eq
    refine ⟨l6, rfl, ⟨_, .inl (.inl hl6)⟩, fun D7 nD7 => ?_⟩
    refine lc_listO (K := K) (a := l6) (xs := Z.map V.str) nD7 (fun j => ((Z.take j).filter fun n => decide (wr ∈ wayN (rowsOf AL) BB n)).map V.str) (by rw [List.take_zero]; rfl) (fun j _ => filt_size (by omega) j) (.inl (.inl hl6)) ?_ ?_
    · intro j x H7 Nx hx s7 put skip
      rw [List.getElem?_map] at hx
      obtain ⟨n, hn, rfl⟩ := Option.map_eq_some_iff.mp hx
      have hnm : n ∈ rnm BB := pZ.mem_iff.mp (List.mem_of_getElem? hn)
      obtain ⟨ta7, v1, v2⟩ := id (W6.same s7).ex
      have e := filt_take (p := fun n => decide (wr ∈ wayN (rowsOf AL) BB n)) hn
      refine ⟨rfl, ?_⟩
      refine ⟨_, rfl, _, rfl, _, rfl, d, _, rfl, dget_rn (.inl v1) hnm, ta7 n, _, rfl, .inl (.inl (.inl (v2 n hnm))), rfl, flat_strs _, _, rfl, ?_⟩
      have ei : inV (V.str wr) ((wayN (rowsOf AL) BB n).map V.str) = decide (wr ∈ wayN (rowsOf AL) BB n) := inV_str _ _
      refine ite2 (fun hh => ?_) (fun hh => ?_)
      · have hh : wr ∈ wayN (rowsOf AL) BB n := by
          have h9 : inV (V.str wr) ((wayN (rowsOf AL) BB n).map V.str) = true := hh
          rw [ei] at h9
          exact of_decide_eq_true h9
        rw [decide_eq_true hh, if_pos (by rfl)] at e
        refine ⟨_, rfl, put _ _ (.refl _) ?_⟩
        rw [e, List.map_append]
        rfl
      · have hh : ¬ wr ∈ wayN (rowsOf AL) BB n := fun z => hh (by
          show inV (V.str wr) ((wayN (rowsOf AL) BB n).map V.str) = true
          rw [ei, decide_eq_true z])
        rw [decide_eq_false hh, if_neg Bool.false_ne_true, List.append_nil] at e
        exact skip _ (.refl _) (congrArg _ e)
    intro H7 s7 hD7
    rw [List.length_map, List.take_length] at hD7
    have pC : (Z.filter fun n => decide (wr ∈ wayN (rowsOf AL) BB n)).Perm ((rnm BB).filter fun n => decide (wr ∈ wayN (rowsOf AL) BB n)) := pZ.filter _
    have hCm : ∀ n ∈ Z.filter (fun n => decide (wr ∈ wayN (rowsOf AL) BB n)), n ∈ rnm BB ∧ wr ∈ wayN (rowsOf AL) BB n := fun n hn => by
      obtain ⟨h1, h2⟩ := List.mem_filter.mp hn
      exact ⟨pZ.mem_iff.mp h1, of_decide_eq_true h2⟩
    have hCd : (Z.filter fun n => decide (wr ∈ wayN (rowsOf AL) BB n)).Nodup := ((pZ.nodup_iff).mpr hb.nd).filter _
    have hCl : 3 ≤ (Z.filter fun n => decide (wr ∈ wayN (rowsOf AL) BB n)).length := by rw [pC.length_eq]; omega
    have hCu : (Z.filter fun n => decide (wr ∈ wayN (rowsOf AL) BB n)).length ≤ 40 := Nat.le_trans (List.length_filter_le _ _) (by omega)
    generalize Z.filter (fun n => decide (wr ∈ wayN (rowsOf AL) BB n)) = C at hD7 hCm hCd hCl hCu
    have B7 := bagS B6 s7
    have Dn7 : H6 D7 = none := nD7
    have D7b := strs_ne_bag B7 hD7
    refine ⟨_, rfl, _, rfl, _, rfl, D7, _, rfl, .inl (.inl (.inl hD7)), _, _, rfl, rfl, b, _, rfl, B7, by rw [List.length_map]; omega, by rw [List.length_map]; omega, fun r xs8 h0 h1 hv => ?_⟩
    rw [List.length_map] at h1
    obtain ⟨rr, rfl⟩ := Int.eq_ofNat_of_zero_le h0
    have u8 : Upto b H7 (upd H7 b (.lst xs8)) := Upto.at_
    have B8 : BagAt (upd H7 b (.lst xs8)) b := ⟨xs8, upd_same, hv⟩
    have hD8 : (upd H7 b (.lst xs8)) D7 = some (.lst (C.map V.str)) := by rw [upd_ne D7b]; exact hD7
    generalize upd H7 b (.lst xs8) = H8 at u8 B8 hD8
    have u08 : Upto b H H8 := (u06.trans (.of s7)).trans u8
    refine ⟨_, _, rfl, rfl, _, rfl, D7, _, rfl, .inl (.inl hD8), fun z nz => ?_⟩
    have ecut : cutV (C.map V.str) none (some ((3 : Int) + (rr : Int))) = (C.take (3 + rr)).map V.str := by
      rw [show (3 : Int) + (rr : Int) = ((3 + rr : Nat) : Int) by omega, cut_take, List.map_take]
    rw [ecut]
    have s9 : Same H8 (upd H8 z (.lst ((C.take (3 + rr)).map V.str))) := same_upd nz
    have hz9 : (upd H8 z (.lst ((C.take (3 + rr)).map V.str))) z = some (.lst ((C.take (3 + rr)).map V.str)) := upd_same
    generalize upd H8 z (.lst ((C.take (3 + rr)).map V.str)) = H9 at s9 hz9
    have zb : z ≠ b := fun e => by
      obtain ⟨_, hx, _⟩ := B8
      rw [e, hx] at nz
      cases nz
    have nzH : H z = none := by
      cases e : H z with
      | none => rfl
      | some o => rw [u08 _ _ e zb] at nz; cases nz
    have hDr : DrOk (rowsOf AL) BB (C.take (3 + rr)) := by
      have hl : (C.take (3 + rr)).length = 3 + rr := by rw [List.length_take]; omega
      refine ⟨by omega, hCd.sublist (List.take_sublist _ _), fun x hx => (hCm x (List.mem_of_mem_take hx)).1, fun j hj => ?_⟩
      have a1 := hCm _ (List.mem_of_mem_take (getD_mem (L := C.take (3 + rr)) hj))
      have a2 := hCm _ (List.mem_of_mem_take (getD_mem (L := C.take (3 + rr)) (Nat.mod_lt (j + 1) (by omega : 0 < (C.take (3 + rr)).length))))
      exact meet_iff.mpr ⟨wr, a1.2, a2.2⟩
    generalize C.take (3 + rr) = L0 at hz9 hDr
    have B9 := bagS B8 s9
    have u09 : Upto b H H9 := u08.trans (.of s9)
    have W9 := W.up hB u09
    obtain ⟨ta9, v1, v2⟩ := id W9.ex
    -- who is left
    refine ⟨_, rfl, d, _, v1, trivial, fun od => ?_⟩
    refine ⟨_, rfl, d, od, rfl, .inl ⟨_, upd_same, fun nl hnl => ?_⟩⟩
    have hfz : ∀ H5, Same (upd H9 d (.frz od (.dK (kmap (fun y => .ref (ta9 y)) (rnm BB))))) H5 → H5 d = some (.frz od (.dK (kmap (fun y => .ref (ta9 y)) (rnm BB)))) := fun H5 s => s _ _ upd_same
    have hzf : (upd H9 d (.frz od (.dK (kmap (fun y => .ref (ta9 y)) (rnm BB))))) z = some (.lst (L0.map V.str)) := by
      rw [upd_ne (ne_of hz9 v1 (fun z => by cases z))]
      exact hz9
    refine lc_itO (walk_keys (kvs := kmap (fun y => .ref (ta9 y)) (rnm BB))) hnl (fun j => (((rnm BB).take j).filter fun n => !decide (n ∈ L0)).map V.str) (by rw [List.take_zero]; rfl) (fun j _ => filt_size (by omega) j) (fun H5 s => hfz _ s) ?_ ?_
    · rintro i x H5 H5' Nx hj s hcur put skip ⟨rfl, k0, v0, hkv, rfl⟩
      obtain ⟨n, hn, rfl, rfl⟩ := kmap_get hkv
      have e := filt_take (p := fun n => !decide (n ∈ L0)) hn
      refine ⟨rfl, ?_⟩
      refine ⟨_, rfl, _, rfl, z, _, rfl, .inl (.inl (.inl (s _ _ hzf))), rfl, flat_strs _, _, rfl, ?_⟩
      have ei : inV (kV (Sum.inr n)) (L0.map V.str) = decide (n ∈ L0) := inV_str _ _
      rw [if_pos rfl, ei]
      refine ite2 (fun hh => ?_) (fun hh => ?_)
      · rw [if_pos hh] at e
        refine ⟨_, rfl, put _ _ (.refl _) ?_⟩
        rw [e, List.map_append]
        rfl
      · rw [if_neg hh, List.append_nil] at e
        exact skip _ (.refl _) (congrArg _ e)
    intro H5' s5' hnl5
    rw [kmap_len, List.take_length] at hnl5
    have dnl : nl ≠ d := fun z => by rw [z, upd_same] at hnl; cases hnl
    refine ⟨hfz _ s5', ?_⟩
    have s10 : Same H9 (upd H5' d (.dK (kmap (fun y => V.ref (ta9 y)) (rnm BB)))) := same_unlock v1 s5'
    have hN10 : (upd H5' d (.dK (kmap (fun y => V.ref (ta9 y)) (rnm BB)))) nl = some (.lst (((rnm BB).filter fun n => !decide (n ∈ L0)).map V.str)) := by rw [upd_ne dnl]; exact hnl5
    generalize upd H5' d (.dK (kmap (fun y => V.ref (ta9 y)) (rnm BB))) = H10 at s10 hN10
    have hNm : ∀ n ∈ (rnm BB).filter (fun n => !decide (n ∈ L0)), n ∈ rnm BB ∧ n ∉ L0 := fun n hn => by
      obtain ⟨h1, h2⟩ := List.mem_filter.mp hn
      exact ⟨h1, fun z => by rw [decide_eq_true z] at h2; cases h2⟩
    have hNd : ((rnm BB).filter fun n => !decide (n ∈ L0)).Nodup := hb.nd.filter _
    have hNl : ((rnm BB).filter fun n => !decide (n ∈ L0)).length ≤ 40 := Nat.le_trans (List.length_filter_le _ _) (by omega)
    generalize (rnm BB).filter (fun n => !decide (n ∈ L0)) = N0 at hN10 hNm hNd hNl
    have B10 := bagS B9 s10
    refine ⟨b, nl, _, rfl, B10, strs_ne_bag B10 hN10, .inl (.inl hN10), by rw [List.length_map]; omega, fun H11 m zs u11 B11 nm mb hm11 pz => ?_⟩
    obtain ⟨N, rfl, pN⟩ : ∃ N : List Str, zs = N.map V.str ∧ N.Perm N0 := perm_lift pz N0 rfl
    have hz10 := s10 _ _ hz9
    have zm : z ≠ m := fun e => by rw [← e, hz10] at nm; cases nm
    have hNd2 : N.Nodup := pN.nodup_iff.mpr hNd
    refine ⟨m, rfl, ⟨_, .inl (.inl hm11)⟩, ?_⟩
    refine for_list (K := K) (a := m) (xs := N.map V.str) (fun i σ H2 => ∃ v4 v8 v9 L, σ = [some (.ref b), some (.ref l), some (.ref d), some (.str wr), v4, some (.ref D), some (.ref D7), some (.ref z), v8, v9, none, none, none] ∧ Upto b H H2 ∧ BagAt H2 b ∧ H2 m = some (.lst (N.map V.str)) ∧ H2 z = some (.lst (L.map V.str)) ∧ DrOk (rowsOf AL) BB L ∧ ∀ x ∈ L, x ∉ N.drop i)
      ⟨none, none, none, L0, rfl, (u09.trans (.of s10)).trans u11, B11, hm11, u11 _ _ hz10 zb, hDr, fun x hx hn => (hNm x (pN.mem_iff.mp hn)).2 hx⟩ (fun i σ H2 _ ⟨_, _, _, _, _, _, _, s, _⟩ => .inl (.inl s)) ?_ ?_
    · rintro i x σ H2 hx ⟨v4, v8, v9, L, rfl, uA, BA, hmA, hzA, hL, hLn⟩
      rw [List.getElem?_map] at hx
      obtain ⟨n, hn, rfl⟩ := Option.map_eq_some_iff.mp hx
      have hnm : n ∈ rnm BB := (hNm n (pN.mem_iff.mp (List.mem_of_getElem? hn))).1
      obtain ⟨hiN, eni⟩ := List.getElem?_eq_some_iff.mp hn
      have hdr : N.drop i = n :: N.drop (i + 1) := by rw [List.drop_eq_getElem_cons hiN, eni]
      have hnL : n ∉ L := fun z => hLn n z (by rw [hdr]; exact List.mem_cons_self)
      have hnd : n ∉ N.drop (i + 1) := by
        have := (List.drop_sublist i N).nodup hNd2
        rw [hdr] at this
        exact (List.nodup_cons.mp this).1
      have hLd : ∀ x ∈ L, x ∉ N.drop (i + 1) := fun x hx z => hLn x hx (by rw [hdr]; exact List.mem_cons_of_mem _ z)
      have hLl : L.length ≤ 40 := by
        have := nodup_le hL.nd hL.mem
        omega
      have WA := W.up hB uA
      -- whom it meets
      refine ⟨_, rfl, z, rfl, ⟨_, .inl (.inl hzA)⟩, fun q nq => ?_⟩
      refine lc_listO (K := K) (a := z) (xs := L.map V.str) nq (fun j => (L.take j).map fun y => V.bl (meetB (rowsOf AL) BB n y)) (by rw [List.take_zero]; rfl) (fun j _ => by rw [List.length_map, List.length_take]; exact small1000 (by omega)) (.inl (.inl hzA)) ?_ ?_
      · intro j x H3 Nx hx s3 put skip
        rw [List.getElem?_map] at hx
        obtain ⟨y, hy, rfl⟩ := Option.map_eq_some_iff.mp hx
        refine ⟨rfl, ?_⟩
        unfold tYes
        refine iteT ?_
        refine ⟨_, rfl, _, rfl, _, rfl, d, n, y, rowsOf AL, BB, rfl, (WA.same s3).f, hg, hb, hnm, hL.mem y (List.mem_of_getElem? hy), fun H4 s4 => ?_⟩
        refine put _ _ s4 ?_
        rw [take_map1 hy]
      intro H3 s3 hq3
      rw [List.length_map, List.take_length] at hq3
      have hz3 := s3 _ _ hzA
      have hm3 := s3 _ _ hmA
      have B3 := bagS BA s3
      have uA3 : Upto b H H3 := uA.trans (.of s3)
      have qm : q ≠ b := fun e => by
        obtain ⟨_, hx, _⟩ := BA
        rw [e, hx] at nq
        cases nq
      -- where it can stand
      refine ⟨_, rfl, z, _, rfl, .inl (.inl (.inl hz3)), _, rfl, by rw [List.length_map]; omega, by rw [List.length_map]; omega, fun p np => ?_⟩
      rw [show ((L.map V.str).length : Int).toNat = L.length by rw [List.length_map]; rfl]
      refine lc_range (lo := 0) (n := L.length) (fun i H4 => Same H3 H4 ∧ H4 p = some (.lst (((List.range i).filter fun k => meetB (rowsOf AL) BB n (L.getD k "") && meetB (rowsOf AL) BB n (prevS L k)).map fun (k : Nat) => V.int (k : Int)))) ⟨same_upd np, upd_same⟩ ?_ ?_
      · rintro j H4 hj ⟨s4, hp4⟩
        rw [Int.zero_add]
        have hq4 := s4 _ _ hq3
        have e : (List.range (j + 1)).filter (fun k => meetB (rowsOf AL) BB n (L.getD k "") && meetB (rowsOf AL) BB n (prevS L k)) = (List.range j).filter (fun k => meetB (rowsOf AL) BB n (L.getD k "") && meetB (rowsOf AL) BB n (prevS L k)) ++ (if (meetB (rowsOf AL) BB n (L.getD j "") && meetB (rowsOf AL) BB n (prevS L j)) = true then [j] else []) := by
          rw [List.range_succ, List.filter_append, List.filter_cons, List.filter_nil]
        have sz : ∀ k, ((List.range j).filter (fun k => meetB (rowsOf AL) BB n (L.getD k "") && meetB (rowsOf AL) BB n (prevS L k))).length ≤ k + j := fun k => Nat.le_trans (List.length_filter_le _ _) (by rw [List.length_range]; omega)
        have aj : atI (L.map fun y => V.bl (meetB (rowsOf AL) BB n y)) ((j : Nat) : Int) = some (.bl (meetB (rowsOf AL) BB n (L.getD j ""))) := atI_nat (by rw [List.getElem?_map, List.getElem?_eq_getElem hj, getD_at hj]; rfl)
        have ap := prev_atF (f := fun y => V.bl (meetB (rowsOf AL) BB n y)) hj
        refine ⟨rfl, ?_⟩
        refine ⟨_, rfl, _, rfl, q, _, _, _, rfl, rfl, .inl (.inl hq4), aj, _, rfl, ?_⟩
        have no : (meetB (rowsOf AL) BB n (L.getD j "") && meetB (rowsOf AL) BB n (prevS L j)) = false → Same H3 H4 ∧ H4 p = some (.lst (((List.range (j + 1)).filter fun k => meetB (rowsOf AL) BB n (L.getD k "") && meetB (rowsOf AL) BB n (prevS L k)).map fun (k : Nat) => V.int (k : Int))) := fun hh => by
          rw [e, hh, if_neg Bool.false_ne_true, List.append_nil]
          exact ⟨s4, hp4⟩
        refine ite2 (fun hh => ?_) (fun hh => ?_)
        · have hh : meetB (rowsOf AL) BB n (L.getD j "") = true := hh
          refine ⟨_, rfl, _, rfl, _, _, rfl, rfl, q, _, _, _, rfl, rfl, .inl (.inl hq4), ap, _, rfl, ?_⟩
          refine ite2 (fun hq => ?_) (fun hq => ?_)
          · have hq : meetB (rowsOf AL) BB n (prevS L j) = true := hq
            refine ⟨_, rfl, _, hp4, by rw [List.length_map]; have := sz 0; omega, fun a o ea => ?_, ?_⟩
            · rw [upd_ne (ne_of_none ea np)]
              exact s4 _ _ ea
            · rw [upd_same, e, hh, hq, Bool.and_self, if_pos rfl, List.map_append]
              rfl
          · have hq : meetB (rowsOf AL) BB n (prevS L j) = false := Bool.eq_false_iff.mpr hq
            exact no (by rw [hq, Bool.and_false])
        · have hh : meetB (rowsOf AL) BB n (L.getD j "") = false := Bool.eq_false_iff.mpr hh
          exact no (by rw [hh, Bool.false_and])
      rintro H4 ⟨s4, hp4⟩
      have hPL : ∀ k ∈ (List.range L.length).filter (fun k => meetB (rowsOf AL) BB n (L.getD k "") && meetB (rowsOf AL) BB n (prevS L k)), k < L.length ∧ meetB (rowsOf AL) BB n (L.getD k "") = true ∧ meetB (rowsOf AL) BB n (prevS L k) = true := fun k hk => by
        obtain ⟨h1, h2⟩ := List.mem_filter.mp hk
        rw [Bool.and_eq_true] at h2
        exact ⟨List.mem_range.mp h1, h2⟩
      have hPl : ((List.range L.length).filter (fun k => meetB (rowsOf AL) BB n (L.getD k "") && meetB (rowsOf AL) BB n (prevS L k))).length ≤ 40 := Nat.le_trans (List.length_filter_le _ _) (by rw [List.length_range]; exact hLl)
      generalize (List.range L.length).filter (fun k => meetB (rowsOf AL) BB n (L.getD k "") && meetB (rowsOf AL) BB n (prevS L k)) = PL at hp4 hPL hPl
      have B4 := bagS B3 s4
      have uA4 : Upto b H H4 := uA3.trans (.of s4)
      refine ⟨_, rfl, by show 0 ≤ sizeLine; omega, fun e0 ne0 => ?_⟩
      have s5 : Same H4 (upd H4 e0 (.lst [])) := same_upd ne0
      have he5 : (upd H4 e0 (.lst [])) e0 = some (.lst []) := upd_same
      generalize upd H4 e0 (.lst []) = H5 at s5 he5
      have B5 := bagS B4 s5
      have s35 := s4.trans s5
      have uA5 : Upto b H H5 := uA4.trans (.of s5)
      refine ⟨_, _, .lst (.inl (.inl (s5 _ _ hp4))) (dp_nats PL), .lst (.inl (.inl he5)) .nil, shaped_nats, by decide +kernel, _, rfl, ?_⟩
      rw [eqv_nilN]
      refine ite2 (fun hh => ?_) (fun hh => ?_)
      · have hne2 : PL ≠ [] := fun z => by
          rw [decide_eq_true z] at hh
          cases hh
        refine ⟨_, rfl, b, 4, rfl, B5, by omega, by omega, fun r xs6 h0 h1 hv => ?_⟩
        have hp5 := s5 _ _ hp4
        have hz5 := s35 _ _ hz3
        have hm5 := s35 _ _ hm3
        have pb : p ≠ b := fun e => by
          obtain ⟨_, hx, _⟩ := B3
          rw [e, hx] at np
          cases np
        have u6 : Upto b H5 (upd H5 b (.lst xs6)) := Upto.at_
        have B6 : BagAt (upd H5 b (.lst xs6)) b := ⟨xs6, upd_same, hv⟩
        generalize upd H5 b (.lst xs6) = H6' at u6 B6
        have uA6 : Upto b H H6' := uA5.trans u6
        have hp6 := u6 _ _ hp5 pb
        have hz6 := u6 _ _ hz5 zb
        have hm6 := u6 _ _ hm5 mb
        refine ⟨_, _, rfl, rfl, _, rfl, ?_⟩
        refine ite2 (fun hq => ?_) (fun hq => ?_)
        · refine ⟨_, rfl, .inl ⟨rfl, _, .inl (.inl hz6)⟩, _, rfl, _, rfl, b, p, _, rfl, B6, pb, .inl (.inl hp6), by rw [List.length_map]; exact List.length_pos_iff.mpr hne2, by rw [List.length_map]; omega, fun i' v xs7 hv7 hx7 => ?_⟩
          rw [List.getElem?_map] at hv7
          obtain ⟨pl, hpl', rfl⟩ := Option.map_eq_some_iff.mp hv7
          obtain ⟨pl1, pl2, pl3⟩ := hPL pl (List.mem_of_getElem? hpl')
          have u7 : Upto b H6' (upd H6' b (.lst xs7)) := Upto.at_
          have B7' : BagAt (upd H6' b (.lst xs7)) b := ⟨xs7, upd_same, hx7⟩
          generalize upd H6' b (.lst xs7) = H7' at u7 B7'
          have uA7 : Upto b H H7' := uA6.trans u7
          have hz7 := u7 _ _ hz6 zb
          have hm7 := u7 _ _ hm6 mb
          refine ⟨_, rfl, z, _, (pl : Int), _, rfl, rfl, hz7, by rw [List.length_map]; omega, by omega, by omega, ?_⟩
          rw [show ((pl : Int)).toNat = pl from rfl, ← List.map_take, ← List.map_drop, show [V.str n] = [n].map V.str from rfl, ← List.map_append, ← List.map_append]
          obtain ⟨bx, hbx, vbx⟩ := id B7'
          refine ⟨_, _, _, L.take pl ++ [n] ++ L.drop pl, rfl, fun a o ea na => ?_, ⟨bx, by rw [upd_ne zb.symm]; exact hbx, vbx⟩, by rw [upd_ne zm.symm]; exact hm7, upd_same, hL.insert pl1 hnm hnL pl2 pl3, fun x hx => ?_⟩
          · rw [upd_ne (ne_of_none ea nzH)]
            exact uA7 _ _ ea na
          · rcases List.mem_append.mp hx with e | e
            · rcases List.mem_append.mp e with e | e
              · exact hLd x (List.mem_of_mem_take e)
              · rw [List.mem_singleton.mp e]; exact hnd
            · exact hLd x (List.mem_of_mem_drop e)
        · exact ⟨_, _, _, L, rfl, uA6, B6, hm6, hz6, hL, hLd⟩
      · exact ⟨_, _, _, L, rfl, uA5, B5, s35 _ _ hm3, s35 _ _ hz3, hL, hLd⟩
    rintro σ H2 ⟨v4, v8, v9, L, rfl, uA, BA, hmA, hzA, hL, hLn⟩
    exact ⟨_, rfl, k H2 z L uA BA nzH zb hzA (.inr hL)⟩
end
end K0
end
section
set_option Elab.async false
set_option linter.all false
set_option maxRecDepth 100000
set_option maxHeartbeats 2000000
namespace K0
open PySem PySem.Spec PyProof.Rows L2 MN
/-! ### who goes ahead, drawn -/
def ltS (x y : Str) : Bool := decide (x.cps.toList < y.cps.toList)
theorem ltS_irr (x : Str) : ltS x x = false := decide_eq_false (List.lt_irrefl _)
theorem ltS_asy {x y : Str} (h : ltS x y = true) : ltS y x = false := decide_eq_false fun z => List.lt_asymm (of_decide_eq_true h) z
theorem ltS_tot {x y : Str} (h : x ≠ y) : ltS x y = true ∨ ltS y x = true := by
  by_cases a : x.cps.toList < y.cps.toList
  · exact .inl (decide_eq_true a)
  · by_cases b : y.cps.toList < x.cps.toList
    · exact .inr (decide_eq_true b)
    · refine absurd ?_ h
      have := List.le_antisymm (List.not_lt.mp a) (List.not_lt.mp b)
      cases x
      cases y
      simp only at this
      congr 1
      exact Array.toList_inj.mp this.symm
def prA (m : Str → Str → Bool) (ns : List Str) (a : Str) : List Row := (ns.filter fun c => ltS a c && m a c).map fun c => (a, c)
def prL (m : Str → Str → Bool) (ns : List Str) : List Row := ns.flatMap (prA m ns)
theorem prA_mem {m : Str → Str → Bool} {ns : List Str} {a : Str} {p : Row} : p ∈ prA m ns a ↔ p.1 = a ∧ p.2 ∈ ns ∧ ltS a p.2 = true ∧ m a p.2 = true := by
  unfold prA
  rw [List.mem_map]
  constructor
  · rintro ⟨c, hc, rfl⟩
    obtain ⟨h1, h2⟩ := List.mem_filter.mp hc
    rw [Bool.and_eq_true] at h2
    exact ⟨rfl, h1, h2⟩
  · rintro ⟨h1, h2, h3⟩
    refine ⟨p.2, List.mem_filter.mpr ⟨h2, by rw [Bool.and_eq_true]; exact h3⟩, by rw [← h1]⟩
theorem prL_mem {m : Str → Str → Bool} {ns : List Str} {p : Row} : p ∈ prL m ns ↔ p.1 ∈ ns ∧ p.2 ∈ ns ∧ ltS p.1 p.2 = true ∧ m p.1 p.2 = true := by
  unfold prL
  rw [List.mem_flatMap]
  constructor
  · rintro ⟨a, ha, hp⟩
    obtain ⟨h1, h2⟩ := prA_mem.mp hp
    subst h1
    exact ⟨ha, h2⟩
  · rintro ⟨h1, h2⟩
    exact ⟨p.1, h1, prA_mem.mpr ⟨rfl, h2⟩⟩
theorem prA_nd {m : Str → Str → Bool} {ns : List Str} (h : ns.Nodup) (a : Str) : (prA m ns a).Nodup := by
  unfold prA
  refine List.pairwise_map.mpr (((h.filter _)).imp fun {x y} hne z => ?_)
  exact hne (congrArg Prod.snd z)
theorem prL_nd {m : Str → Str → Bool} {ns : List Str} (h : ns.Nodup) : (prL m ns).Nodup := by
  have go : ∀ (l : List Str), l.Nodup → (l.flatMap (prA m ns)).Nodup := fun l => by
    induction l with
    | nil => exact fun _ => List.nodup_nil
    | cons a l ih =>
      intro hl
      obtain ⟨h1, h2⟩ := List.nodup_cons.mp hl
      rw [List.flatMap_cons]
      refine List.pairwise_append.mpr ⟨prA_nd h a, ih h2, fun p hp q hq e => ?_⟩
      obtain ⟨b, hb, hq⟩ := List.mem_flatMap.mp hq
      have e1 := (prA_mem.mp hp).1
      have e2 := (prA_mem.mp hq).1
      rw [← e, e1] at e2
      exact h1 (by rw [e2]; exact hb)
  exact go ns h
theorem prA_len {m : Str → Str → Bool} {ns : List Str} (a : Str) : (prA m ns a).length ≤ ns.length := by
  unfold prA
  rw [List.length_map]
  exact List.length_filter_le _ _
theorem flat_len {m : Str → Str → Bool} {ns : List Str} {n : Nat} (h : ns.length ≤ n) : ∀ l : List Str, (l.flatMap (prA m ns)).length ≤ l.length * n
  | [] => Nat.zero_le _
  | a :: l => by
    rw [List.flatMap_cons, List.length_append, List.length_cons, Nat.add_mul]
    have := flat_len h l (m := m)
    have := prA_len (m := m) (ns := ns) a
    omega
/-- a pair, or it turned about; not against the round -/
def Gd (L : List Str) (p x : Row) : Prop := (x = p ∨ x = (p.2, p.1)) ∧ ∀ k, k < L.length → (L.getD k "" = p.1 → L.getD ((k + 1) % L.length) "" = p.2 → x = p) ∧ (L.getD k "" = p.2 → L.getD ((k + 1) % L.length) "" = p.1 → x = (p.2, p.1))
structure RelOf (G : Row → Row → Prop) (P X : List Row) : Prop where
  len : X.length = P.length
  at_ : ∀ (i : Nat) (p x : Row), P[i]? = some p → X[i]? = some x → G p x
theorem RelOf.nil {G : Row → Row → Prop} : RelOf G [] [] := ⟨rfl, fun i p x h => by simp at h⟩
theorem RelOf.snoc {G : Row → Row → Prop} {P X : List Row} {p x : Row} (t : RelOf G P X) (h : G p x) : RelOf G (P ++ [p]) (X ++ [x]) := by
  refine ⟨by rw [List.length_append, List.length_append, t.len]; rfl, fun i q y hq hy => ?_⟩
  rw [List.getElem?_append] at hq hy
  rw [t.len] at hy
  by_cases z : i < P.length
  · rw [if_pos z] at hq hy
    exact t.at_ i q y hq hy
  · rw [if_neg z] at hq hy
    have e : i - P.length = 0 := by
      have := (List.getElem?_eq_some_iff.mp hq).1
      rw [List.length_singleton] at this
      omega
    rw [e] at hq hy
    cases hq
    cases hy
    exact h
theorem RelOf.mem {G : Row → Row → Prop} {P X : List Row} (t : RelOf G P X) {x : Row} (h : x ∈ X) : ∃ (i : Nat) (p : Row), P[i]? = some p ∧ X[i]? = some x ∧ G p x := by
  obtain ⟨i, hi⟩ := List.mem_iff_getElem?.mp h
  have hl := (List.getElem?_eq_some_iff.mp hi).1
  rw [t.len] at hl
  exact ⟨i, P[i], List.getElem?_eq_getElem hl, hi, t.at_ i _ x (List.getElem?_eq_getElem hl) hi⟩
theorem RelOf.has {G : Row → Row → Prop} {P X : List Row} (t : RelOf G P X) {p : Row} (h : p ∈ P) : ∃ x, x ∈ X ∧ G p x := by
  obtain ⟨i, hi⟩ := List.mem_iff_getElem?.mp h
  have hl := (List.getElem?_eq_some_iff.mp hi).1
  rw [← t.len] at hl
  have e := List.getElem?_eq_getElem hl
  exact ⟨_, List.mem_of_getElem? e, t.at_ i p _ hi e⟩
theorem nd_at {P : List Row} (h : P.Nodup) {i j : Nat} {p : Row} (hi : P[i]? = some p) (hj : P[j]? = some p) : i = j := by
  obtain ⟨li, ei⟩ := List.getElem?_eq_some_iff.mp hi
  obtain ⟨lj, ej⟩ := List.getElem?_eq_some_iff.mp hj
  have hp := List.pairwise_iff_getElem.mp h
  rcases Nat.lt_trichotomy i j with z | z | z
  · exact absurd (ei.trans ej.symm) (hp i j li lj z)
  · exact z
  · exact absurd (ej.trans ei.symm) (hp j i lj li z)
theorem ahead_rel {R : List Row} {B : List RRow} {L : List Str} {X X' : List Row} (hd : (rnm B).Nodup) (t : RelOf (Gd L) (prL (meetB R B) (rnm B)) X) (hp : X'.Perm X) : Ahead R B X' := by
  refine ⟨fun a b h => ?_, fun a b ha hb hne hm => ?_, fun a b h1 h2 => ?_⟩
  · obtain ⟨i, p, h1, h2, h3, _⟩ := t.mem (hp.mem_iff.mp h)
    obtain ⟨a1, a2, a3, a4⟩ := prL_mem.mp (List.mem_of_getElem? h1)
    have ne : p.1 ≠ p.2 := fun e => by
      rw [e, ltS_irr] at a3
      cases a3
    rcases h3 with e | e
    · subst e
      exact ⟨a1, a2, ne, a4⟩
    · have e1 : a = p.2 := congrArg Prod.fst e
      have e2 : b = p.1 := congrArg Prod.snd e
      subst e1 e2
      exact ⟨a2, a1, ne.symm, by rw [meet_symm]; exact a4⟩
  · rcases ltS_tot hne with q | q
    · obtain ⟨x, hx, hg, _⟩ := t.has (p := (a, b)) (prL_mem.mpr ⟨ha, hb, q, hm⟩)
      rcases hg with e | e
      · exact .inl (hp.mem_iff.mpr (e ▸ hx))
      · exact .inr (hp.mem_iff.mpr (e ▸ hx))
    · obtain ⟨x, hx, hg, _⟩ := t.has (p := (b, a)) (prL_mem.mpr ⟨hb, ha, q, by rw [meet_symm]; exact hm⟩)
      rcases hg with e | e
      · exact .inr (hp.mem_iff.mpr (e ▸ hx))
      · exact .inl (hp.mem_iff.mpr (e ▸ hx))
  · obtain ⟨i, p, i1, i2, i3, _⟩ := t.mem (hp.mem_iff.mp h1)
    obtain ⟨j, q, j1, j2, j3, _⟩ := t.mem (hp.mem_iff.mp h2)
    have p3 := (prL_mem.mp (List.mem_of_getElem? i1)).2.2.1
    have q3 := (prL_mem.mp (List.mem_of_getElem? j1)).2.2.1
    have pq : p = q := by
      rcases i3 with e | e <;> rcases j3 with e' | e'
      · subst e
        subst e'
        rw [ltS_asy p3] at q3
        cases q3
      · have e1 : b = q.2 := congrArg Prod.fst e'
        have e2 : a = q.1 := congrArg Prod.snd e'
        subst e e1 e2
        rfl
      · have e1 : a = p.2 := congrArg Prod.fst e
        have e2 : b = p.1 := congrArg Prod.snd e
        subst e' e1 e2
        rfl
      · have e1 : a = p.2 := congrArg Prod.fst e
        have e2 : b = p.1 := congrArg Prod.snd e
        have e3 : b = q.2 := congrArg Prod.fst e'
        have e4 : a = q.1 := congrArg Prod.snd e'
        rw [← e1, ← e2] at p3
        rw [← e3, ← e4, ltS_asy p3] at q3
        cases q3
    subst pq
    have ij := nd_at (prL_nd hd) i1 j1
    subst ij
    rw [i2] at j2
    have e : (a, b) = (b, a) := Option.some.inj j2
    have e1 : a = b := congrArg Prod.fst e
    subst e1
    rcases i3 with e | e
    · rw [← e, ltS_irr] at p3
      cases p3
    · have e1 : a = p.2 := congrArg Prod.fst e
      have e2 : a = p.1 := congrArg Prod.snd e
      rw [← e1, ← e2, ltS_irr] at p3
      cases p3
theorem cyc_rel {R : List Row} {B : List RRow} {L : List Str} {X X' : List Row} (t : RelOf (Gd L) (prL (meetB R B) (rnm B)) X) (hp : X'.Perm X) (h : DrOk R B L) : RdA X' R B L := by
  refine ⟨h.three, h.nd, h.mem, fun k hk => ?_⟩
  have h3 := h.three
  have hm := h.cyc k hk
  have hn : (k + 1) % L.length < L.length := Nat.mod_lt _ (by omega)
  have ma := h.mem _ (getD_mem hk)
  have mb := h.mem _ (getD_mem hn)
  have ne : L.getD k "" ≠ L.getD ((k + 1) % L.length) "" := fun e => by
    have := getD_inj h.nd hk hn e
    rw [mod_next hk] at this
    split at this <;> omega
  refine hp.mem_iff.mpr ?_
  rcases ltS_tot ne with q | q
  · obtain ⟨x, hx, hg, g2⟩ := t.has (p := (L.getD k "", L.getD ((k + 1) % L.length) "")) (prL_mem.mpr ⟨ma, mb, q, hm⟩)
    rw [← (g2 k hk).1 rfl rfl]
    exact hx
  · obtain ⟨x, hx, hg, g2⟩ := t.has (p := (L.getD ((k + 1) % L.length) "", L.getD k "")) (prL_mem.mpr ⟨mb, ma, q, by rw [meet_symm]; exact hm⟩)
    have := (g2 k hk).2 rfl rfl
    rw [← this]
    exact hx
end K0
end
section
set_option Elab.async false
set_option linter.all false
set_option maxRecDepth 100000
set_option maxHeartbeats 8000000
namespace K0
open PySem PySem.Spec PyProof.Rows L2 MN
theorem RowsAt.more {H H4 : Hp} {U t : Addr} {DU : List (Addr × Row)} {r : Row} (h : RowsAt H U DU) (s : Same H H4) (nt : H4 t = none) : (upd H4 t (.tup [.str r.1, .str r.2])) U = some (.lst (DU.map fun q => V.ref q.1)) ∧ RowsAt (upd (upd H4 t (.tup [.str r.1, .str r.2])) U (.lst ((DU.map fun q => V.ref q.1) ++ [.ref t]))) U (DU ++ [(t, r)]) := by
  have hU := s _ _ h.lst
  have ne : U ≠ t := ne_of_none hU nt
  refine ⟨by rw [upd_ne ne]; exact hU, by rw [upd_same, List.map_append]; rfl, fun q hq => ?_⟩
  rcases List.mem_append.mp hq with hq | hq
  · have e := s _ _ (h.tup q hq)
    rw [upd_ne (ne_of e hU (fun z => by cases z)), upd_ne (ne_of_none e nt)]
    exact e
  · rw [List.mem_singleton.mp hq, upd_ne ne.symm]
    exact upd_same
theorem idx_hat {L : List Str} {x : Str} (h : x ∈ L) : (L.map V.str)[L.idxOf x]? = some (.str x) := by
  have hlt := List.idxOf_lt_length_iff.mpr h
  rw [List.getElem?_map, List.getElem?_eq_getElem hlt, List.getElem_idxOf]
  rfl
theorem idx_fst {L : List Str} {x : Str} : ∀ (m : Nat) (z : V), m < L.idxOf x → (L.map V.str)[m]? = some z → eqV z (.str x) = false := fun m z hm e2 => by
  rw [List.getElem?_map] at e2
  obtain ⟨y, hy, rfl⟩ := Option.map_eq_some_iff.mp e2
  rw [eqV_str]
  refine decide_eq_false fun e3 => ?_
  have q := List.not_of_lt_findIdx (p := fun z => z == x) (xs := L) hm
  obtain ⟨hml, e4⟩ := List.getElem?_eq_some_iff.mp hy
  rw [e4, e3, beq_self_eq_true] at q
  cases q
theorem flat_ints (l : List Int) : (l.map V.int).all flatV = true := List.all_eq_true.mpr fun v h => by
  obtain ⟨i, _, e⟩ := List.mem_map.mp h
  subst e
  rfl
theorem split_two {α β : Type} {R C : α → β → Prop} {G : Prop} (use : (∀ a b, R a b → C a b) → G) (key : ∀ a b, R a b → C a b) : G := use key
theorem split_three {α β γ : Type} {R C : α → β → γ → Prop} {G : Prop} (use : (∀ a b c, R a b c → C a b c) → G) (key : ∀ a b c, R a b c → C a b c) : G := use key
theorem idx_atK {L : List Str} (hd : L.Nodup) {k : Nat} (hk : k < L.length) : L.idxOf (L.getD k "") = k := by
  have hm := getD_mem hk
  have hl := List.idxOf_lt_length_iff.mpr hm
  refine getD_inj hd hl hk ?_
  rw [getD_at hl, List.getElem_idxOf]
theorem gd_of {L : List Str} {one oth : Str} {f : Bool} (hd : L.Nodup) (h3 : 3 ≤ L.length) (h : one ∈ L → oth ∈ L → ((((L.idxOf oth : Int) - (L.idxOf one : Int)) % (L.length : Int) = 1) → f = true) ∧ ((((L.idxOf oth : Int) - (L.idxOf one : Int)) % (L.length : Int) = (L.length : Int) - 1) → f = false)) : Gd L (one, oth) (if f = true then (one, oth) else (oth, one)) := by
  refine ⟨?_, fun k hk => ⟨fun e1 e2 => ?_, fun e1 e2 => ?_⟩⟩
  · cases f
    · exact .inr rfl
    · exact .inl rfl
  · have e1 : L.getD k "" = one := e1
    have e2 : L.getD ((k + 1) % L.length) "" = oth := e2
    have hn : (k + 1) % L.length < L.length := Nat.mod_lt _ (by omega)
    have i1 := idx_atK hd hk
    have i2 := idx_atK hd hn
    rw [e1] at i1
    rw [e2] at i2
    have q := (h (e1 ▸ getD_mem hk) (e2 ▸ getD_mem hn)).1
    rw [i1, i2, mod_next hk] at q
    have : f = true := q (by
      by_cases z : k + 1 = L.length
      · rw [if_pos z, show ((0 : Nat) : Int) - (k : Int) = 1 + (L.length : Int) * (-1) by omega, Int.add_mul_emod_self_left]
        exact Int.emod_eq_of_lt (by omega) (by omega)
      · rw [if_neg z, show (((k + 1 : Nat)) : Int) - (k : Int) = 1 by omega]
        exact Int.emod_eq_of_lt (by omega) (by omega))
    rw [if_pos this]
  · have e1 : L.getD k "" = oth := e1
    have e2 : L.getD ((k + 1) % L.length) "" = one := e2
    have hn : (k + 1) % L.length < L.length := Nat.mod_lt _ (by omega)
    have i1 := idx_atK hd hk
    have i2 := idx_atK hd hn
    rw [e1] at i1
    rw [e2] at i2
    have q := (h (e2 ▸ getD_mem hn) (e1 ▸ getD_mem hk)).2
    rw [i1, i2, mod_next hk] at q
    have : f = false := q (by
      by_cases z : k + 1 = L.length
      · rw [if_pos z, show (k : Int) - ((0 : Nat) : Int) = (L.length : Int) - 1 by omega]
        exact Int.emod_eq_of_lt (by omega) (by omega)
      · rw [if_neg z, show (k : Int) - (((k + 1 : Nat)) : Int) = ((L.length : Int) - 1) + (L.length : Int) * (-1) by omega, Int.add_mul_emod_self_left]
        exact Int.emod_eq_of_lt (by omega) (by omega))
    rw [this, if_neg Bool.false_ne_true]
theorem inV_two (a b c : Int) : inV (.int a) [.int b, .int c] = decide (a = b ∨ a = c) := by
  show ((b == a) || ((c == a) || false)) = _
  rw [Bool.or_false, Bool.eq_iff_iff, Bool.or_eq_true, beq_iff_eq, beq_iff_eq, decide_eq_true_eq]
  exact ⟨fun h => h.imp Eq.symm Eq.symm, fun h => h.imp Eq.symm Eq.symm⟩
theorem prL_len {m : Str → Str → Bool} {ns : List Str} (hd : ns.Nodup) (h : ns.length ≤ 40) : (prL m ns).length ≤ 800 := by
  have hp : ∀ l : List Str, (l.flatMap fun a => ns.map fun c => (a, c)).length ≤ l.length * 40 := fun l => by
    induction l with
    | nil => exact Nat.zero_le _
    | cons a l ih =>
      rw [List.flatMap_cons, List.length_append, List.length_map, List.length_cons, Nat.add_mul]
      omega
  have h1 := hp ns
  have h2 : ns.length * 40 ≤ 40 * 40 := Nat.mul_le_mul_right 40 h
  have nd : (prL m ns ++ (prL m ns).map fun p => (p.2, p.1)).Nodup := by
    have n2 : ((prL m ns).map fun p => (p.2, p.1)).Nodup := by
      refine List.pairwise_map.mpr ((prL_nd hd).imp fun {x y} hne z => hne ?_)
      have e1 : x.2 = y.2 := congrArg Prod.fst z
      have e2 : x.1 = y.1 := congrArg Prod.snd z
      exact Prod.ext e2 e1
    refine List.pairwise_append.mpr ⟨prL_nd hd, n2, fun p hp q hq e => ?_⟩
    · obtain ⟨r, hr, rfl⟩ := List.mem_map.mp hq
      have a1 := (prL_mem.mp hp).2.2.1
      have a2 := (prL_mem.mp hr).2.2.1
      subst e
      have a1 : ltS r.2 r.1 = true := a1
      rw [ltS_asy a2] at a1
      cases a1
  have := nodup_le (L := ns.flatMap fun a => ns.map fun c => (a, c)) nd fun p hp => by
    have mm : ∀ {a c : Str}, a ∈ ns → c ∈ ns → (a, c) ∈ ns.flatMap fun a => ns.map fun c => (a, c) := fun {a c} ha hc => List.mem_flatMap.mpr ⟨a, ha, List.mem_map.mpr ⟨c, hc, rfl⟩⟩
    rcases List.mem_append.mp hp with hp | hp
    · obtain ⟨a1, a2, _⟩ := prL_mem.mp hp
      exact mm (c := p.2) a1 a2
    · obtain ⟨r, hr, rfl⟩ := List.mem_map.mp hp
      obtain ⟨a1, a2, _⟩ := prL_mem.mp hr
      exact mm a2 a1
  rw [List.length_append, List.length_map] at this
  omega
/-- the pairs gone through: of those before, and of this one with the first j -/
def prT (m : Str → Str → Bool) (ns : List Str) (i : Nat) : List Row := (ns.take i).flatMap (prA m ns)
def prB (m : Str → Str → Bool) (ns : List Str) (one : Str) (j : Nat) : List Row := ((ns.take j).filter fun c => ltS one c && m one c).map fun c => (one, c)
theorem prT_succ {m : Str → Str → Bool} {ns : List Str} {i : Nat} {one : Str} (h : ns[i]? = some one) : prT m ns (i + 1) = prT m ns i ++ prB m ns one ns.length := by
  unfold prT prB
  rw [List.take_length, List.take_add_one, h, List.flatMap_append]
  show _ ++ ([one].flatMap (prA m ns)) = _
  rw [List.flatMap_singleton]
  rfl
theorem prB_succ {m : Str → Str → Bool} {ns : List Str} {j : Nat} {one c : Str} (h : ns[j]? = some c) : prB m ns one (j + 1) = prB m ns one j ++ (if (ltS one c && m one c) = true then [(one, c)] else []) := by
  unfold prB
  rw [filt_take (p := fun c => ltS one c && m one c) h, List.map_append]
  split <;> rfl
theorem prT_len {m : Str → Str → Bool} {ns : List Str} (h : ns.length ≤ 40) (i : Nat) : (prT m ns i).length ≤ 1600 := by
  have := flat_len (m := m) h (ns.take i)
  have e : (ns.take i).length ≤ 40 := by rw [List.length_take]; omega
  have : (ns.take i).length * 40 ≤ 40 * 40 := Nat.mul_le_mul_right 40 e
  unfold prT
  omega
theorem prB_len {m : Str → Str → Bool} {ns : List Str} (h : ns.length ≤ 40) (one : Str) (j : Nat) : (prB m ns one j).length ≤ 40 := by
  unfold prB
  rw [List.length_map]
  refine Nat.le_trans (List.length_filter_le _ _) ?_
  rw [List.length_take]
  omega
abbrev scLAheadN_N : List Str := ["_law_bag_here", "_law_ways", "_law_names_here", "_law_is_along", "_law_found", "_law_many", "_law_one", "_law_other", "_law_is_first", "_law_step"]
abbrev scLAheadN_S : Stmt := sLAhead
theorem scLAheadN : FnScope scLAheadN_N ["_law_bag_here", "_law_ways", "_law_names_here"] (defScope sLAhead) := ⟨rfl, rfl, rfl, by decide +kernel, rfl, by decide +kernel, by decide +kernel⟩
def spLAheadN : Sp := fun vs H Q _ => ∃ (b d y : Addr) (R : List Row) (B : List RRow) (L : List Str), vs = [.ref b, .ref d, .ref y] ∧ BagAt H b ∧ WaysL H d (rnm B) (wayN R B) ∧ GoodRows R ∧ RtOk R B ∧ H y = some (.lst (L.map V.str)) ∧ DrOk R B L ∧ ∀ H' z AP, Upto b H H' → BagAt H' b → H z = none → z ≠ b → RowsAt H' z AP → Ahead R B (rowsOf AP) → RdA (rowsOf AP) R B L → AP.length ≤ 1640 → Q (.ref z) H'
section
variable {P : Program} {w : World} {K : PySem.W.Frag} {mg : Str → Option Value} {base : Heap} {tS tM tL : Tok}
theorem ok_laheadN {f fX fT fM : Addr} {fd fdX fdT fdM : FuncData} (F : FnP K "_law_ahead" sLAhead f fd) (F_law_mixed : FnP K "_law_mixed" sMixed fX fdX) (g_law_mixed : mg "_law_mixed" = some (.ref fX)) (F_law_take : FnP K "_law_take" sTake fT fdT) (g_law_take : mg "_law_take" = some (.ref fT)) (F_law_meets : FnP K "_law_meets" sLMeets fM fdM) (g_law_meets : mg "_law_meets" = some (.ref fM)) (B : Bl mg) : FnOk P w K mg base CX0 3 f fd ["_law_bag_here", "_law_ways", "_law_names_here"] spLAheadN := by
  have G_law_take : FnOk P w K mg base CX0 1 fT fdT ["_law_bag_here", "_law_many"] spTake := ok_take F_law_take B
  have b_law_take : Binds K fdT ["_law_bag_here", "_law_many"] [] := F_law_take.bindsN fun _ _ _ _ _ _ us hl => match us, hl with | [_, _], _ => rfl
  have G_law_mixed : FnOk P w K mg base CX0 2 fX fdX ["_law_bag_here", "_law_some"] (spMixed K) := ok_mixed F_law_mixed F_law_take B g_law_take
  have b_law_mixed : Binds K fdX ["_law_bag_here", "_law_some"] [] := F_law_mixed.bindsN fun _ _ _ _ _ _ us hl => match us, hl with | [_, _], _ => rfl
  have G_law_meets : FnOk P w K mg base CX0 1 fM fdM ["_law_ways", "_law_one", "_law_other"] spLMeetsF := ok_lmeets F_law_meets B
  have b_law_meets : Binds K fdM ["_law_ways", "_law_one", "_law_other"] [] := F_law_meets.bindsN fun _ _ _ _ _ _ us hl => match us, hl with | [_, _, _], _ => rfl
  refine F.ok scLAheadN (fun vs H Q E h => ?_) (fun cdv A outer s H vs Q E hr h => ?_)
  · obtain ⟨b, d, y, R, BB, L, rfl, _⟩ := h
    rfl
  · obtain ⟨b, d, y, R, BB, L, rfl, hB, W, hg, hb, hy, hL, k⟩ := h
    have hu := hu_of hr
    have hu64 := hr.units
    have hr_law_take : Room 1 _ := hr.mono (by decide)
    have hr_law_mixed : Room 2 _ := hr.mono (by decide)
    have hr_law_meets : Room 1 _ := hr.mono (by decide)
    refine ⟨_, PSs.nox (pss_cons
      (ps_par3 (i := 3) (j := 4) (l := 5) rfl scLAheadN.nd rfl rfl rfl (by decide) (by decide) (by decide) rfl rfl rfl (pa_cons (pe_cmpR op_eq (pe_call G_law_take hr_law_take (by rfl) g_law_take F_law_take.kp b_law_take .nil pass0 (pa_cons (pv 0) (pa_cons pe_int pa_nil))) pe_int (nomark _)) (pa_cons (pe_lst pa_nil) (pa_cons (pe_callB (lenK (K := K)) (by rfl) B.len PySem.boot_len (pa_cons (pv 2) pa_nil)) pa_nil))) (by rfl))
      (pss_cons
      (ps_lock (ps_for PassesOwn.never rfl (pi_keys (pv 1)) (pg_name (i := 6) scLAheadN.nd rfl (Or.inl rfl)) (pss_one
      (ps_for PassesOwn.never rfl (pi_keys (pv 1)) (pg_name (i := 7) scLAheadN.nd rfl (Or.inl rfl)) (pss_one
      (ps_if (PW.pt (pw_and (pt_cmpR op_lt_str (pv 6) (pv 7) (nomark _)) (pw_and1 (pt_val (pe_call G_law_meets hr_law_meets (by rfl) g_law_meets F_law_meets.kp b_law_meets .nil pass0 (pa_cons (pv 1) (pa_cons (pv 6) (pa_cons (pv 7) pa_nil)))))))) (pss_cons
      (ps_set (i := 8) scLAheadN.nd rfl (Or.inl rfl) (pe_cmpR op_eq (pe_call G_law_take hr_law_take (by rfl) g_law_take F_law_take.kp b_law_take .nil pass0 (pa_cons (pv 0) (pa_cons pe_int pa_nil))) pe_int (nomark _)))
      (pss_cons
      (ps_if (PW.pt (pw_and (pt_cmpR (inK (K := K)) (pv 6) (pv 2) (by rfl)) (pw_and1 (pt_cmpR (inK (K := K)) (pv 7) (pv 2) (by rfl))))) (pss_cons
      (ps_set (i := 9) scLAheadN.nd rfl (Or.inl rfl) (pe_op op_mod (pe_callTy call_int1 (by rfl) B.int (by decide +kernel) (pa_cons (pe_op op_sub (pe_bm PySem.F.plainAttrs_list PySem.F.slot_list_index PySem.F.type_list_index mt_index (pv 2) (pa_cons (pv 7) pa_nil)) (pe_bm PySem.F.plainAttrs_list PySem.F.slot_list_index PySem.F.type_list_index mt_index (pv 2) (pa_cons (pv 6) pa_nil))) pa_nil)) (pv 5)))
      (pss_one
      (ps_if (PW.pt (pw_or (pt_cmpR (inK (K := K)) (pv 9) (pe_tup (pa_cons pe_int (pa_cons (pe_op op_sub (pv 5) pe_int) pa_nil))) (by rfl)) (pw_or1 (pt_val (pv 3))))) (pss_one
      (ps_set (i := 8) scLAheadN.nd rfl (Or.inl rfl) (pe_ifExp (pt_cmpR op_ne (pv 9) (pe_op op_sub (pv 5) pe_int) (nomark _)) (pe_cmpR op_le (pv 9) (pe_op op_fdiv (pv 5) pe_int) (nomark _)) pe_bl))) pss_nil))) pss_nil)
      (pss_one
      (ps_expr (pe_bm PySem.F.plainAttrs_list PySem.F.slot_list_append PySem.F.type_list_append mt_append (pv 4) (pa_cons (pe_ifExp (pt_val (pv 8)) (pe_tup (pa_cons (pv 6) (pa_cons (pv 7) pa_nil))) (pe_tup (pa_cons (pv 7) (pa_cons (pv 6) pa_nil)))) pa_nil)))))) pss_nil))))))
      (pss_one
      (ps_ret (pe_call G_law_mixed hr_law_mixed (by rfl) g_law_mixed F_law_mixed.kp b_law_mixed .nil pass0 (pa_cons (pv 0) (pa_cons (pv 4) pa_nil))))))), ?_⟩
    have z40 : 40000 ≤ sizeLine := by rw [sizeLine_eq]; omega
    have hm := hb.most
    have hln : (rnm BB).length = BB.length := List.length_map _
    have hL3 := hL.three
    have hLl : L.length ≤ 40 := by
      have := nodup_le hL.nd hL.mem
      omega
    have yb := strs_ne_bag hB hy
    refine ⟨_, rfl, b, 2, rfl, hB, by omega, by omega, fun r xs _ _ hv => ⟨rfl, ?_⟩⟩
    have u1 : Upto b H (upd H b (.lst xs)) := Upto.at_
    have B1 : BagAt (upd H b (.lst xs)) b := ⟨xs, upd_same, hv⟩
    have hy1 : (upd H b (.lst xs)) y = some (.lst (L.map V.str)) := u1 _ _ hy yb
    generalize upd H b (.lst xs) = H1 at u1 B1 hy1
    generalize decide (V.int r = V.int 0) = al
    refine ⟨by show 0 ≤ sizeLine; omega, fun z nz => ?_⟩
    have s2 : Same H1 (upd H1 z (.lst [])) := same_upd nz
    have hz2 : RowsAt (upd H1 z (.lst [])) z [] := ⟨upd_same, fun q hq => by cases hq⟩
    have hy2 := s2 _ _ hy1
    have zb : z ≠ b := fun e => by
      obtain ⟨_, hx, _⟩ := B1
      rw [e, hx] at nz
      cases nz
    have nzH : H z = none := by
      cases e : H z with
      | none => rfl
      | some o => rw [u1 _ _ e zb] at nz; cases nz
    generalize upd H1 z (.lst []) = H2 at s2 hz2 hy2
    have u2 : Upto b H H2 := u1.trans (.of s2)
    have B2 := bagS B1 s2
    refine ⟨_, rfl, y, _, rfl, .inl (.inl (.inl hy2)), ?_⟩
    refine ⟨_, _, _, rfl, ?_⟩
    rw [List.length_map]
    obtain ⟨ta, w1, w2⟩ := id W.ex
    have hdb : d ≠ b := by
      obtain ⟨_, hx, _⟩ := hB
      exact ne_of w1 hx (fun z => by cases z)
    have hyd : y ≠ d := ne_of hy w1 (fun z => by cases z)
    have hzd : z ≠ d := fun e => by rw [e, w1] at nzH; cases nzH
    have htd : ∀ n ∈ rnm BB, ta n ≠ d := fun n hn => ne_of (w2 n hn) w1 (fun z => by cases z)
    have htb : ∀ n ∈ rnm BB, ta n ≠ b := fun n hn => strs_ne_bag hB (w2 n hn)
    refine ⟨d, _, u2 _ _ w1 hdb, trivial, fun od => ?_⟩
    have U0 : ∀ a o, H a = some o → a ≠ b → a ≠ d → (upd H2 d (.frz od (.dK (kmap (fun y => .ref (ta y)) (rnm BB))))) a = some o := fun a o e n1 n2 => by
      rw [upd_ne n2]
      exact u2 _ _ e n1
    have B0 : BagAt (upd H2 d (.frz od (.dK (kmap (fun y => .ref (ta y)) (rnm BB))))) b := by
      obtain ⟨x, hx, vx⟩ := B2
      exact ⟨x, by rw [upd_ne hdb.symm]; exact hx, vx⟩
    have z0 : RowsAt (upd H2 d (.frz od (.dK (kmap (fun y => .ref (ta y)) (rnm BB))))) z [] := ⟨by rw [upd_ne hzd]; exact hz2.lst, fun q hq => by cases hq⟩
    refine ⟨_, rfl, d, od, rfl, .inl ⟨_, upd_same, ?_⟩⟩
    have hd0 : (upd H2 d (.frz od (.dK (kmap (fun y => .ref (ta y)) (rnm BB))))) d = some (.frz od (.dK (kmap (fun y => .ref (ta y)) (rnm BB)))) := upd_same
    generalize upd H2 d (.frz od (.dK (kmap (fun y => .ref (ta y)) (rnm BB)))) = H3 at U0 B0 z0 hd0
    refine for_it (walk_keys (kvs := kmap (fun y => .ref (ta y)) (rnm BB))) (fun i σ H' => ∃ v6 v7 v8 v9 FP, σ = [some (.ref b), some (.ref d), some (.ref y), some (.bl al), some (.ref z), some (.int (L.length : Nat)), v6, v7, v8, v9] ∧ (∀ a o, H a = some o → a ≠ b → a ≠ d → H' a = some o) ∧ H' d = some (.frz od (.dK (kmap (fun y => .ref (ta y)) (rnm BB)))) ∧ BagAt H' b ∧ RowsAt H' z FP ∧ RelOf (Gd L) (prT (meetB R BB) (rnm BB) i) (rowsOf FP))
      ⟨none, none, none, none, [], rfl, U0, hd0, B0, z0, RelOf.nil⟩ (fun _ _ _ _ ⟨_, _, _, _, _, _, _, h, _⟩ => h) ?_ ?_
    · rintro i x σ H4 H4' hi ⟨v6, v7, v8, v9, FP, rfl, U4, hd4, B4, z4, T4⟩ ⟨rfl, k0, v0, hkv, rfl⟩
      obtain ⟨one, hone, rfl, rfl⟩ := kmap_get hkv
      have honem := List.mem_of_getElem? hone
      refine ⟨_, rfl, d, od, rfl, .inl ⟨_, hd4, ?_⟩⟩
      refine for_it (walk_keys (kvs := kmap (fun y => .ref (ta y)) (rnm BB))) (fun j σ H' => ∃ v7 v8 v9 FP, σ = [some (.ref b), some (.ref d), some (.ref y), some (.bl al), some (.ref z), some (.int (L.length : Nat)), some (.str one), v7, v8, v9] ∧ (∀ a o, H a = some o → a ≠ b → a ≠ d → H' a = some o) ∧ H' d = some (.frz od (.dK (kmap (fun y => .ref (ta y)) (rnm BB)))) ∧ BagAt H' b ∧ RowsAt H' z FP ∧ RelOf (Gd L) (prT (meetB R BB) (rnm BB) i ++ prB (meetB R BB) (rnm BB) one j) (rowsOf FP))
        ⟨v7, v8, v9, FP, rfl, U4, hd4, B4, z4, by unfold prB; rw [List.take_zero]; exact (List.append_nil _).symm ▸ T4⟩ (fun _ _ _ _ ⟨_, _, _, _, _, _, h, _⟩ => h) ?_ ?_
      · rintro j x σ H5 H5' hj ⟨v7, v8, v9, FP, rfl, U5, hd5, B5, z5, T5⟩ ⟨rfl, k0, v0, hkv, rfl⟩
        obtain ⟨oth, hoth, rfl, rfl⟩ := kmap_get hkv
        have hothm := List.mem_of_getElem? hoth
        have eB := prB_succ (m := meetB R BB) (one := one) hoth
        have skip : (ltS one oth && meetB R BB one oth) = false → prB (meetB R BB) (rnm BB) one (j + 1) = prB (meetB R BB) (rnm BB) one j := fun h => by rw [eB, h, if_neg Bool.false_ne_true, List.append_nil]
        refine ⟨_, rfl, _, rfl, _, _, rfl, rfl, _, rfl, ?_⟩
        refine ite2 (fun hlt => ?_) (fun hlt => ?_)
        · have WF : WaysF H5' d (rnm BB) (wayN R BB) := ⟨ta, .inr ⟨od, hd5⟩, fun n hn => U5 _ _ (w2 n hn) (htb n hn) (htd n hn)⟩
          refine ⟨_, rfl, _, rfl, _, rfl, d, one, oth, R, BB, rfl, WF, hg, hb, honem, hothm, fun H6 s6 => ?_⟩
          refine ⟨_, rfl, ?_⟩
          refine ite2 (fun hme => ?_) (fun hme => ?_)
          · have hyes : (ltS one oth && meetB R BB one oth) = true := by
              rw [Bool.and_eq_true]
              exact ⟨hlt, hme⟩
            rw [hyes, if_pos rfl] at eB
            have B6 := bagS B5 s6
            have z6 := z5.same s6
            have hd6 := s6 _ _ hd5
            have U6 : ∀ a o, H a = some o → a ≠ b → a ≠ d → H6 a = some o := fun a o e n1 n2 => s6 _ _ (U5 a o e n1 n2)
            refine ⟨_, rfl, b, 2, rfl, B6, by omega, by omega, fun r7 xs7 _ _ hv7 => ⟨rfl, ?_⟩⟩
            have u7 : Upto b H6 (upd H6 b (.lst xs7)) := Upto.at_
            have B7 : BagAt (upd H6 b (.lst xs7)) b := ⟨xs7, upd_same, hv7⟩
            have z7 := z6.upto B6 zb u7
            have hd7 := u7 _ _ hd6 hdb
            have U7 : ∀ a o, H a = some o → a ≠ b → a ≠ d → (upd H6 b (.lst xs7)) a = some o := fun a o e n1 n2 => u7 _ _ (U6 a o e n1 n2) n1
            generalize upd H6 b (.lst xs7) = H7 at u7 B7 z7 hd7 U7
            generalize decide (V.int r7 = V.int 0) = f0
            have hy7 := U7 _ _ hy yb hyd
            refine split_three (α := Bool) (β := Hp) (γ := Option V) (R := fun f H8 w9 => Gd L (one, oth) (if f = true then (one, oth) else (oth, one)) ∧ Same H7 H8) (C := ?C) ?use ?key
            case use =>
              intro key
              have none_in : ¬ (one ∈ L ∧ oth ∈ L) → Gd L (one, oth) (if f0 = true then (one, oth) else (oth, one)) := fun h => gd_of hL.nd hL3 fun a c => absurd ⟨a, c⟩ h
              refine ⟨_, rfl, _, rfl, y, _, rfl, .inl (.inl (.inl hy7)), rfl, flat_strs _, _, rfl, ?_⟩
              have i1 : inV (V.str one) (L.map V.str) = decide (one ∈ L) := inV_str _ _
              have i2 : inV (V.str oth) (L.map V.str) = decide (oth ∈ L) := inV_str _ _
              refine ite2 (fun h1 => ?_) (fun h1 => ?_)
              · have h1 : one ∈ L := by
                  have h9 : inV (V.str one) (L.map V.str) = true := h1
                  rw [i1] at h9
                  exact of_decide_eq_true h9
                refine ⟨_, rfl, _, rfl, y, _, rfl, .inl (.inl (.inl hy7)), rfl, flat_strs _, _, rfl, ?_⟩
                refine ite2 (fun h2 => ?_) (fun h2 => ?_)
                · have h2 : oth ∈ L := by
                    have h9 : inV (V.str oth) (L.map V.str) = true := h2
                    rw [i2] at h9
                    exact of_decide_eq_true h9
                  refine ⟨_, rfl, .inl ⟨rfl, _, .inl (.inl hy7)⟩, _, rfl, y, _, .str oth, _, .str oth, rfl, rfl, .inl (.inl hy7), rfl, flat_strs _, idx_hat h2, by rw [eqV_str]; exact decide_eq_true rfl, idx_fst, ?_⟩
                  refine ⟨_, rfl, .inl ⟨rfl, _, .inl (.inl hy7)⟩, _, rfl, y, _, .str one, _, .str one, rfl, rfl, .inl (.inl hy7), rfl, flat_strs _, idx_hat h1, by rw [eqV_str]; exact decide_eq_true rfl, idx_fst, ?_⟩
                  refine ⟨_, _, rfl, rfl, ?_⟩
                  refine .inl ⟨_, rfl, ?_⟩
                  refine ⟨_, rfl, _, _, rfl, rfl, by show (0 : Int) < (L.length : Nat); omega, ?_⟩
                  dsimp only
                  generalize est : ((L.idxOf oth : Int) - (L.idxOf one : Int)) % (L.length : Int) = st
                  refine ⟨_, rfl, _, rfl, _, _, rfl, rfl, by show 2 ≤ sizeLine; omega, fun p np => ?_⟩
                  have s8 : Same H7 (upd H7 p (.tup [.int 1, .int ((L.length : Int) - 1)])) := same_upd np
                  have hp8 : (upd H7 p (.tup [.int 1, .int ((L.length : Int) - 1)])) p = some (.tup [.int 1, .int ((L.length : Int) - 1)]) := upd_same
                  dsimp only
                  generalize upd H7 p (.tup [.int 1, .int ((L.length : Int) - 1)]) = H8 at s8 hp8
                  refine ⟨p, _, rfl, .inr (.inl (.inl hp8)), rfl, rfl, _, rfl, ?_⟩
                  have i3 := inV_two st 1 ((L.length : Int) - 1)
                  refine ite2 (fun h4 => ?_) (fun h4 => ?_)
                  · refine ⟨_, rfl, _, rfl, _, _, rfl, rfl, rfl, _, rfl, ?_⟩
                    refine ite2 (fun hs => ?_) (fun hs => ?_)
                    · have hs : ¬ st = (L.length : Int) - 1 := fun z => by
                        rw [z, decide_eq_true rfl] at hs
                        cases hs
                      refine ⟨_, rfl, _, rfl, _, _, rfl, rfl, ⟨by omega, by omega⟩, _, _, rfl, rfl, ?_⟩
                      dsimp only
                      have hG : Gd L (one, oth) (if (decide (st ≤ (L.length : Int) / 2)) = true then (one, oth) else (oth, one)) := gd_of hL.nd hL3 fun _ _ => ⟨fun e => decide_eq_true (by have := est.symm.trans e; omega), fun e => absurd (est.symm.trans e) hs⟩
                      generalize decide (st ≤ (L.length : Int) / 2) = f1 at hG ⊢
                      generalize some (V.int st) = w9
                      exact key f1 _ w9 ⟨hG, s8⟩
                    · have hs : st = (L.length : Int) - 1 := Decidable.not_not.mp fun z => hs (by
                        rw [decide_eq_false (fun q => z (V.int.inj q))]
                        rfl)
                      have hG : Gd L (one, oth) (if false = true then (one, oth) else (oth, one)) := gd_of hL.nd hL3 fun _ _ => ⟨fun e => absurd (est.symm.trans e) (by omega), fun _ => rfl⟩
                      generalize false = f1 at hG ⊢
                      generalize some (V.int st) = w9
                      exact key f1 _ w9 ⟨hG, s8⟩
                  · refine ⟨_, rfl, _, rfl, ?_⟩
                    refine ite2 (fun h5 => ?_) (fun h5 => ?_)
                    · refine ⟨_, rfl, _, rfl, _, _, rfl, rfl, rfl, _, rfl, ?_⟩
                      refine ite2 (fun hs => ?_) (fun hs => ?_)
                      · have hs : ¬ st = (L.length : Int) - 1 := fun z => by
                          rw [z, decide_eq_true rfl] at hs
                          cases hs
                        refine ⟨_, rfl, _, rfl, _, _, rfl, rfl, ⟨by omega, by omega⟩, _, _, rfl, rfl, ?_⟩
                        dsimp only
                        have hG : Gd L (one, oth) (if (decide (st ≤ (L.length : Int) / 2)) = true then (one, oth) else (oth, one)) := gd_of hL.nd hL3 fun _ _ => ⟨fun e => decide_eq_true (by have := est.symm.trans e; omega), fun e => absurd (est.symm.trans e) hs⟩
                        generalize decide (st ≤ (L.length : Int) / 2) = f1 at hG ⊢
                        generalize some (V.int st) = w9
                        exact key f1 _ w9 ⟨hG, s8⟩
                      · have hs : st = (L.length : Int) - 1 := Decidable.not_not.mp fun z => hs (by
                          rw [decide_eq_false (fun q => z (V.int.inj q))]
                          rfl)
                        have hG : Gd L (one, oth) (if false = true then (one, oth) else (oth, one)) := gd_of hL.nd hL3 fun _ _ => ⟨fun e => absurd (est.symm.trans e) (by omega), fun _ => rfl⟩
                        generalize false = f1 at hG ⊢
                        generalize some (V.int st) = w9
                        exact key f1 _ w9 ⟨hG, s8⟩
                    · have h4 : ¬ (st = 1 ∨ st = (L.length : Int) - 1) := fun z => h4 (by
                        show inV (V.int st) [V.int 1, V.int ((L.length : Int) - 1)] = true
                        rw [i3, decide_eq_true z])
                      have hG : Gd L (one, oth) (if f0 = true then (one, oth) else (oth, one)) := gd_of hL.nd hL3 fun _ _ => ⟨fun e => absurd (.inl (est.symm.trans e)) h4, fun e => absurd (.inr (est.symm.trans e)) h4⟩
                      generalize some (V.int st) = w9
                      exact key f0 H8 w9 ⟨hG, s8⟩
                · have hG := none_in fun z => h2 (by show inV (V.str oth) (L.map V.str) = true; rw [i2, decide_eq_true z.2])
                  exact key f0 H7 v9 ⟨hG, .refl _⟩
              · have hG := none_in fun z => h1 (by show inV (V.str one) (L.map V.str) = true; rw [i1, decide_eq_true z.1])
                exact key f0 H7 v9 ⟨hG, .refl _⟩
            rintro f1 H8 w9 ⟨hG, s8⟩
            have B8 := bagS B7 s8
            have z8 := z7.same s8
            have hd8 := s8 _ _ hd7
            have U8 : ∀ a o, H a = some o → a ≠ b → a ≠ d → H8 a = some o := fun a o e n1 n2 => s8 _ _ (U7 a o e n1 n2)
            have hFl : FP.length ≤ 1640 := by
              have e := T5.len
              rw [List.length_map, List.length_append] at e
              have q1 := prT_len (m := meetB R BB) (show (rnm BB).length ≤ 40 by omega) i
              have q2 := prB_len (m := meetB R BB) (show (rnm BB).length ≤ 40 by omega) one j
              omega
            have T6 := T5.snoc hG
            rw [List.append_assoc, ← eB] at T6
            have close : ∀ (r : Row) (t : Addr), H8 t = none → (if f1 = true then (one, oth) else (oth, one)) = r → H8 z = some (.lst (FP.map fun q => V.ref q.1)) ∧ (∀ a o, H a = some o → a ≠ b → a ≠ d → (upd (upd H8 t (.tup [.str r.1, .str r.2])) z (.lst ((FP.map fun q => V.ref q.1) ++ [.ref t]))) a = some o) ∧ (upd (upd H8 t (.tup [.str r.1, .str r.2])) z (.lst ((FP.map fun q => V.ref q.1) ++ [.ref t]))) d = some (.frz od (.dK (kmap (fun y => .ref (ta y)) (rnm BB)))) ∧ BagAt (upd (upd H8 t (.tup [.str r.1, .str r.2])) z (.lst ((FP.map fun q => V.ref q.1) ++ [.ref t]))) b ∧ RowsAt (upd (upd H8 t (.tup [.str r.1, .str r.2])) z (.lst ((FP.map fun q => V.ref q.1) ++ [.ref t]))) z (FP ++ [(t, r)]) ∧ RelOf (Gd L) (prT (meetB R BB) (rnm BB) i ++ prB (meetB R BB) (rnm BB) one (j + 1)) (rowsOf (FP ++ [(t, r)])) := fun r t nt er => by
              obtain ⟨bx, hbx, vbx⟩ := id B8
              refine ⟨z8.lst, fun a o e n1 n2 => ?_, ?_, ⟨bx, ?_, vbx⟩, (z8.more (r := r) (.refl _) nt).2, ?_⟩
              · rw [upd_ne (ne_of_none e nzH), upd_ne (ne_of_none (U8 a o e n1 n2) nt)]
                exact U8 a o e n1 n2
              · rw [upd_ne hzd.symm, upd_ne (ne_of_none hd8 nt)]
                exact hd8
              · rw [upd_ne zb.symm, upd_ne (ne_of_none hbx nt)]
                exact hbx
              · rw [show rowsOf (FP ++ [(t, r)]) = rowsOf FP ++ [r] from List.map_append, ← er]
                exact T6
            refine ⟨_, rfl, .inl ⟨rfl, _, .inl (.inl z8.lst)⟩, _, rfl, _, rfl, ?_⟩
            refine ite2 (fun hc => ?_) (fun hc => ?_)
            · have hc : f1 = true := hc
              refine ⟨_, rfl, _, rfl, by show 2 ≤ sizeLine; omega, fun t nt => ?_⟩
              obtain ⟨c1, c2, c3, c4, c5, c6⟩ := close (one, oth) t nt (by rw [if_pos hc])
              refine ⟨z, _, _, rfl, rfl, by rw [upd_ne (ne_of_none c1 nt)]; exact c1, by rw [List.length_map]; omega, ?_⟩
              exact ⟨_, _, _, FP ++ [(t, (one, oth))], rfl, c2, c3, c4, c5, c6⟩
            · have hc : f1 = false := Bool.eq_false_iff.mpr hc
              refine ⟨_, rfl, _, rfl, by show 2 ≤ sizeLine; omega, fun t nt => ?_⟩
              obtain ⟨c1, c2, c3, c4, c5, c6⟩ := close (oth, one) t nt (by rw [hc, if_neg Bool.false_ne_true])
              refine ⟨z, _, _, rfl, rfl, by rw [upd_ne (ne_of_none c1 nt)]; exact c1, by rw [List.length_map]; omega, ?_⟩
              exact ⟨_, _, _, FP ++ [(t, (oth, one))], rfl, c2, c3, c4, c5, c6⟩
          · have hme : meetB R BB one oth = false := Bool.eq_false_iff.mpr hme
            refine ⟨_, _, _, FP, rfl, fun a o e n1 n2 => s6 _ _ (U5 a o e n1 n2), s6 _ _ hd5, bagS B5 s6, z5.same s6, ?_⟩
            rw [skip (by rw [hme, Bool.and_false])]
            exact T5
        · have hlt : ltS one oth = false := Bool.eq_false_iff.mpr hlt
          refine ⟨_, _, _, FP, rfl, U5, hd5, B5, z5, ?_⟩
          rw [skip (by rw [hlt, Bool.false_and])]
          exact T5
      · rintro σ H5 ⟨v7, v8, v9, FP, rfl, U5, hd5, B5, z5, T5⟩
        refine ⟨_, _, _, _, FP, rfl, U5, hd5, B5, z5, ?_⟩
        rw [prT_succ hone]
        rw [kmap_len] at T5
        exact T5
    · rintro σ H4 ⟨v6, v7, v8, v9, FP, rfl, U4, hd4, B4, z4, T4⟩
      refine ⟨hd4, ?_⟩
      rw [kmap_len] at T4
      have T4 : RelOf (Gd L) (prL (meetB R BB) (rnm BB)) (rowsOf FP) := by
        have e : prT (meetB R BB) (rnm BB) (rnm BB).length = prL (meetB R BB) (rnm BB) := by
          unfold prT prL
          rw [List.take_length]
        rw [e] at T4
        exact T4
      have u5 : Upto b H (upd H4 d (.dK (kmap (fun y => .ref (ta y)) (rnm BB)))) := fun a o e n => by
        by_cases q : a = d
        · rw [q, upd_same]
          rw [q, w1] at e
          exact e
        · rw [upd_ne q]
          exact U4 a o e n q
      have B5 : BagAt (upd H4 d (.dK (kmap (fun y => .ref (ta y)) (rnm BB)))) b := by
        obtain ⟨x, hx, vx⟩ := B4
        exact ⟨x, by rw [upd_ne hdb.symm]; exact hx, vx⟩
      have z5 : RowsAt (upd H4 d (.dK (kmap (fun y => .ref (ta y)) (rnm BB)))) z FP := ⟨by rw [upd_ne hzd]; exact z4.lst, fun q hq => by rw [upd_ne (ne_of (z4.tup q hq) hd4 (fun z => by cases z))]; exact z4.tup q hq⟩
      generalize upd H4 d (.dK (kmap (fun y => .ref (ta y)) (rnm BB))) = H5 at u5 B5 z5
      have hFl : FP.length ≤ 800 := by
        have e := T4.len
        rw [List.length_map] at e
        have := prL_len (m := meetB R BB) (ns := rnm BB) hb.nd (by omega)
        omega
      refine ⟨_, rfl, _, rfl, b, z, _, rfl, B5, zb, .inl (.inl z5.lst), by rw [List.length_map]; omega, fun H6 l zs u6 B6 nl lb hl hp => ?_⟩
      obtain ⟨FP', ezs, hp'⟩ := perm_lift hp FP rfl
      subst ezs
      have z6 := z5.upto B5 zb u6
      have nlH : H l = none := by
        cases e : H l with
        | none => rfl
        | some o => rw [u5 _ _ e lb] at nl; cases nl
      exact k H6 l FP' (u5.trans u6) B6 nlH lb ⟨hl, fun q hq => z6.tup q (hp'.mem_iff.mp hq)⟩ (ahead_rel hb.nd T4 (hp'.map _)) (cyc_rel T4 (hp'.map _) hL) (by rw [hp'.length_eq]; omega)
end
end K0
end
section
set_option Elab.async false
set_option linter.all false
set_option maxRecDepth 100000
set_option maxHeartbeats 8000000
namespace K0
open PySem PySem.Spec PyProof.Rows L2 MN
/-! ### the bag is used while rights stand -/
theorem rivK {Cr : Addr} {H H' : Hp} {p : Addr} {AR : List (Addr × Row)} (k : ∀ a o, H a = some o → (∀ xs, o ≠ .lst xs) → H' a = some o) (r : RivAt Cr H p AR) : RivAt Cr H' p AR := by
  obtain ⟨dx, tw, tr, db, dc, da, du, o, h1, h2, h3, h4, h5, h6, h7, h8, h9⟩ := r.ex
  have tp : ∀ {c : Addr} {ns : List Str} {g : Str → List Str}, TupsAt H c ns g → TupsAt H' c ns g := fun t => by
    obtain ⟨ta, q1, q2⟩ := t.ex
    exact ⟨ta, k _ _ q1 (fun _ z => by cases z), fun x hx => (q2 x hx).to fun u e n1 _ _ _ _ => k _ _ e n1⟩
  exact ⟨dx, tw, tr, db, dc, da, du, o, k _ _ h1 (fun _ z => by cases z), k _ _ h2 (fun _ z => by cases z), k _ _ h3 (fun _ z => by cases z),
    fun q hq => k _ _ (h4 q hq) (fun _ z => by cases z), k _ _ h5 (fun _ z => by cases z), tp h6, tp h7, tp h8, h9.to fun _ e => k _ _ e (fun _ z => by cases z)⟩
theorem TxR.k {H H' : Hp} {t : Addr} {l : List Str} (k : ∀ a o, H a = some o → (∀ xs, o ≠ .lst xs) → H' a = some o) (h : TxR H t l) : TxR H' t l := by
  rcases h with e | ⟨o, e⟩
  · exact .inl (k _ _ e (fun _ z => by cases z))
  · exact .inr ⟨o, k _ _ e (fun _ z => by cases z)⟩
theorem TupsR.k {H H' : Hp} {c : Addr} {ns : List Str} {g : Str → List Str} (k : ∀ a o, H a = some o → (∀ xs, o ≠ .lst xs) → H' a = some o) (t : TupsR H c ns g) : TupsR H' c ns g := by
  obtain ⟨ta, q1, q2⟩ := t.ex
  exact ⟨ta, k _ _ q1 (fun _ z => by cases z), fun x hx => (q2 x hx).k k⟩
theorem FT.k {H H' : Hp} {t : Addr} {l : List Str} (k : ∀ a o, H a = some o → (∀ xs, o ≠ .lst xs) → H' a = some o) (h : FT H t l) : FT H' t l := by
  obtain ⟨o, po, h⟩ := h
  exact ⟨o, po, k _ _ h (fun _ z => by cases z)⟩
theorem rigUp {Cg Cr : Addr} {H H' : Hp} {b p q : Addr} {AR : List (Addr × Row)} {BR : List (Addr × RRow)} (hB : BagAt H b) (u : Upto b H H') (r : RigOk Cg Cr H p q AR BR) : RigOk Cg Cr H' p q AR BR := by
  obtain ⟨xs, hb, _⟩ := hB
  have k : ∀ a o, H a = some o → (∀ xs, o ≠ .lst xs) → H' a = some o := fun a o e n => u _ _ e (ne_of e hb (n xs))
  obtain ⟨dx, tn, tr, dw, dl, dp, h1, h2, h3, h4, h5, h6, h7⟩ := r.at_.ex
  exact ⟨⟨dx, tn, tr, dw, dl, dp, k _ _ h1 (fun _ z => by cases z), rivK k h2, h3.k k, k _ _ h4 (fun _ z => by cases z), fun z hz => k _ _ (h5 z hz) (fun _ z => by cases z), h6.k k, h7.k k⟩, r.g, r.b⟩
theorem goes_none {S : List Str} : goesL [] S = false := by
  cases h : goesL [] S with
  | false => rfl
  | true =>
    obtain ⟨a, _, c⟩ := goes_iff.mp h
    cases c 0 (by omega)
abbrev scLaw_N : List Str := ["_law_script", "_law_at", "_law_bag_here", "_law_rows", "_law_rights_here", "_law_ways", "_law_told", "_law_turn", "_law_names_here", "_law_ahead_here", "_law_right"]
abbrev scLaw_S : Stmt := sLaw
theorem scLaw : FnScope scLaw_N ["_law_script"] (defScope sLaw) := ⟨rfl, rfl, rfl, by decide +kernel, rfl, by decide +kernel, by decide +kernel⟩
def spLaw (K : PySem.W.Frag) : Sp := fun vs H Q _ => ∃ (a : Addr) (ns : List Int), vs = [.ref a] ∧ SqL K H a (ns.map V.int) ∧ ns.length ≤ 63 ∧ ∀ H', Q (.bl true) H'
/-- all functions of the text -/
structure All (P : Program) (w : World) (K : PySem.W.Frag) (mg : Str → Option Value) (base : Heap) (tS tM tL : Tok) (Cg Cr : Addr) : Prop where
  B : Bl mg
  C : Gc mg tS tM tL
  T : Rv K mg Cr
  TG : Rg K mg Cg
  hset : mg "set" = none
  made : ∃ f fd, FnM K "__init__" "River.__init__" sInit f fd ∧ Mk K Cr f
  madeG : ∃ f fd, FnM K "__init__" "Rights.__init__" sGInit f fd ∧ Mk K Cg f
  rowsG : ∃ f fd, FnM K "rows" "Rights.rows" sGRows f fd ∧ Meth K Cg "rows" f
  passG : ∃ f fd, FnM K "passing" "Rights.passing" sGPassing f fd ∧ Meth K Cg "passing" f
  Mf : Mf K mg
  G : Mg P w K mg base Cg Cr
  N : Ln K Cg
  GM : Gm K Cg
  GK : Gk K Cg Cr
  D : NdG P w K mg base Cg Cr
  diff : ∃ f fd, FnP K "need_different" sNeedDiff f fd ∧ mg "need_different" = some (.ref f)
  free : ∃ f fd, FnP K "_first_free" sFirstFree f fd ∧ mg "_first_free" = some (.ref f)
  line : ∃ f fd, FnP K "_line" sLine f fd ∧ mg "_line" = some (.ref f)
  turned : ∃ f fd, FnP K "turned" sTurned f fd ∧ mg "turned" = some (.ref f)
  ringAt : ∃ f fd, FnP K "_ring_at" sRingAt f fd ∧ mg "_ring_at" = some (.ref f)
  ring : ∃ f fd, FnP K "_first_ring" sFirstRing f fd ∧ mg "_first_ring" = some (.ref f)
  lineup : ∃ f fd, FnP K "line_up" sLineUp f fd ∧ mg "line_up" = some (.ref f)
  follow : ∃ f fd, FnP K "_all_follow" sAllFollow f fd ∧ mg "_all_follow" = some (.ref f)
  goes : ∃ f fd, FnP K "goes_round" sGoesRound f fd ∧ mg "goes_round" = some (.ref f)
  deepest : ∃ f fd, FnP K "_deepest" sDeepestN f fd ∧ mg "_deepest" = some (.ref f)
  once : ∃ f fd, FnP K "_shrunk_once" sShrunkOnce f fd ∧ mg "_shrunk_once" = some (.ref f)
  shrunk : ∃ f fd, FnP K "shrunk" sShrunk f fd ∧ mg "shrunk" = some (.ref f)
  bag : ∃ f fd, FnP K "_law_bag" sBag f fd ∧ mg "_law_bag" = some (.ref f)
  H : Hf K mg
  river : ∃ f fd, FnP K "_law_river" sLRiver f fd ∧ mg "_law_river" = some (.ref f)
  course : ∃ f fd, FnP K "_law_course" sLCourse f fd ∧ mg "_law_course" = some (.ref f)
  rnames : ∃ f fd, FnP K "_law_right_names" sRNames f fd ∧ mg "_law_right_names" = some (.ref f)
  rights : ∃ f fd, FnP K "_law_rights" sLRights f fd ∧ mg "_law_rights" = some (.ref f)
  way : ∃ f fd, FnP K "_law_way" sLWay f fd ∧ mg "_law_way" = some (.ref f)
  meets : ∃ f fd, FnP K "_law_meets" sLMeets f fd ∧ mg "_law_meets" = some (.ref f)
  drawn : ∃ f fd, FnP K "_law_drawn_round" sLDrawn f fd ∧ mg "_law_drawn_round" = some (.ref f)
  ahead : ∃ f fd, FnP K "_law_ahead" sLAhead f fd ∧ mg "_law_ahead" = some (.ref f)
  isround : ∃ f fd, FnP K "_law_is_round" sLIsRound f fd ∧ mg "_law_is_round" = some (.ref f)
  next : ∃ f fd, FnP K "_law_next" sLNext f fd ∧ mg "_law_next" = some (.ref f)
  shr : ∃ f fd, FnP K "_law_shrunk_right" sLShrunkR f fd ∧ mg "_law_shrunk_right" = some (.ref f)
  rounds : ∃ f fd, FnP K "_law_rounds_right" sLRounds f fd ∧ mg "_law_rounds_right" = some (.ref f)
section
variable {P : Program} {w : World} {K : PySem.W.Frag} {mg : Str → Option Value} {base : Heap} {tS tM tL : Tok}
theorem ok_law {f Cg Cr : Addr} {fd : FuncData} (F : FnP K "law" sLaw f fd) (L : All P w K mg base tS tM tL Cg Cr) : FnOk P w K mg base CX0 9 f fd ["_law_script"] (spLaw K) := by
  obtain ⟨B, C, T, TG, hset, ⟨fI, fdI, FI, MK⟩, ⟨fJ, fdJ, FJ, MKG⟩, ⟨fS, fdS, FS, MrowsG⟩, ⟨fp, fdp, Fpassing, Mpassing⟩, Mfr, G, LN, GM, GK, D, ⟨f_diff, d_diff, Fneed_different, gneed_different⟩, ⟨f_free, d_free, F_first_free, g_first_free⟩, ⟨f_line, d_line, F_line, g_line⟩, ⟨f_turned, d_turned, Fturned, gturned⟩, ⟨f_ringAt, d_ringAt, F_ring_at, g_ring_at⟩, ⟨f_ring, d_ring, F_first_ring, g_first_ring⟩, ⟨f_lineup, d_lineup, Fline_up, gline_up⟩, ⟨f_follow, d_follow, F_all_follow, g_all_follow⟩, ⟨f_goes, d_goes, Fgoes_round, ggoes_round⟩, ⟨f_deepest, d_deepest, F_deepest, g_deepest⟩, ⟨f_once, d_once, F_shrunk_once, g_shrunk_once⟩, ⟨f_shrunk, d_shrunk, Fshrunk, gshrunk⟩, ⟨f_bag, d_bag, F_law_bag, g_law_bag⟩, HF, ⟨f_river, d_river, F_law_river, g_law_river⟩, ⟨f_course, d_course, F_law_course, g_law_course⟩, ⟨f_rnames, d_rnames, F_law_right_names, g_law_right_names⟩, ⟨f_rights, d_rights, F_law_rights, g_law_rights⟩, ⟨f_way, d_way, F_law_way, g_law_way⟩, ⟨f_meets, d_meets, F_law_meets, g_law_meets⟩, ⟨f_drawn, d_drawn, F_law_drawn_round, g_law_drawn_round⟩, ⟨f_ahead, d_ahead, F_law_ahead, g_law_ahead⟩, ⟨f_isround, d_isround, F_law_is_round, g_law_is_round⟩, ⟨f_next, d_next, F_law_next, g_law_next⟩, ⟨f_shr, d_shr, F_law_shrunk_right, g_law_shrunk_right⟩, ⟨f_rounds, d_rounds, F_law_rounds_right, g_law_rounds_right⟩⟩ := L
  obtain ⟨f8, d8, F_law_take, g_law_take⟩ := HF.take
  obtain ⟨fO, dO, F_law_of, g_law_of⟩ := HF.of
  obtain ⟨fX, dX, F_law_mixed, g_law_mixed⟩ := HF.mixed
  have DW := G.D
  have GI : FnOk P w K mg base CX0 4 fI fdI ["self", "rows"] (spInit Cr) := ok_init FI Mfr T B C
  have bI : Binds K fdI ["self", "rows"] [] := FI.bindsN fun _ _ _ _ _ _ us hl => match us, hl with | [_, _], _ => rfl
  have GJ : FnOk P w K mg base CX0 5 fJ fdJ ["self", "river", "rows"] (spGInit Cg Cr) := ok_ginit FJ G TG T B C
  have bJ : Binds K fdJ ["self", "river", "rows"] [] := FJ.bindsN fun _ _ _ _ _ _ us hl => match us, hl with | [_, _, _], _ => rfl
  have GrowsG : FnOk P w K mg base CX0 1 fS fdS ["self"] (spRowsG Cg Cr) := ok_rowsG FS TG B
  have browsG : Binds K fdS ["self"] [] := FS.bindsN fun _ _ _ _ _ _ us hl => match us, hl with | [_], _ => rfl
  have G_law_take : FnOk P w K mg base CX0 1 f8 d8 ["_law_bag_here", "_law_many"] spTake := ok_take F_law_take B
  have b_law_take : Binds K d8 ["_law_bag_here", "_law_many"] [] := F_law_take.bindsN fun _ _ _ _ _ _ us hl => match us, hl with | [_, _], _ => rfl
  have Ggoes_round : FnOk P w K mg base CX0 2 f_goes d_goes ["names", "ahead"] (spGoes K) := ok_goes Fgoes_round F_all_follow g_all_follow hset B
  have bgoes_round : Binds K d_goes ["names", "ahead"] [] := Fgoes_round.bindsN fun _ _ _ _ _ _ us hl => match us, hl with | [_, _], _ => rfl
  have Gshrunk : FnOk P w K mg base CX0 7 f_shrunk d_shrunk ["rights", "names", "ahead"] (spShrunk Cg Cr) := ok_shrunk Fshrunk F_shrunk_once g_shrunk_once F_deepest g_deepest Fneed_different gneed_different GM GK D DW TG T B
  have bshrunk : Binds K d_shrunk ["rights", "names", "ahead"] [] := Fshrunk.bindsN fun _ _ _ _ _ _ us hl => match us, hl with | [_, _, _], _ => rfl
  have Gline_up : FnOk P w K mg base CX0 5 f_lineup d_lineup ["rights", "ahead"] (spLineUp Cg Cr) := ok_lineup Fline_up F_line g_line F_first_free g_first_free F_first_ring g_first_ring F_ring_at g_ring_at Fturned gturned Fpassing Mpassing LN DW TG T B
  have bline_up : Binds K d_lineup ["rights", "ahead"] [] := Fline_up.bindsN fun _ _ _ _ _ _ us hl => match us, hl with | [_, _], _ => rfl
  have G_law_bag : FnOk P w K mg base CX0 1 f_bag d_bag ["_law_script", "_law_at", "_law_salt"] (spBag K) := ok_bag F_law_bag B
  have b_law_bag : Binds K d_bag ["_law_script", "_law_at", "_law_salt"] [] := F_law_bag.bindsN fun _ _ _ _ _ _ us hl => match us, hl with | [_, _, _], _ => rfl
  have G_law_river : FnOk P w K mg base CX0 4 f_river d_river ["_law_bag_here", "_law_many"] spLRiver := ok_lriver F_law_river HF
  have b_law_river : Binds K d_river ["_law_bag_here", "_law_many"] [] := F_law_river.bindsN fun _ _ _ _ _ _ us hl => match us, hl with | [_, _], _ => rfl
  have G_law_rights : FnOk P w K mg base CX0 5 f_rights d_rights ["_law_bag_here", "_law_rows", "_law_many"] spLRights := ok_lrights F_law_rights F_law_right_names g_law_right_names F_law_course g_law_course HF
  have b_law_rights : Binds K d_rights ["_law_bag_here", "_law_rows", "_law_many"] [] := F_law_rights.bindsN fun _ _ _ _ _ _ us hl => match us, hl with | [_, _, _], _ => rfl
  have G_law_way : FnOk P w K mg base CX0 2 f_way d_way ["_law_rows", "_law_right"] spLWay := ok_lway F_law_way F_law_course g_law_course B
  have b_law_way : Binds K d_way ["_law_rows", "_law_right"] [] := F_law_way.bindsN fun _ _ _ _ _ _ us hl => match us, hl with | [_, _], _ => rfl
  have G_law_drawn_round : FnOk P w K mg base CX0 3 f_drawn d_drawn ["_law_bag_here", "_law_rows", "_law_ways"] spLDrawn := ok_ldrawn F_law_drawn_round F_law_take g_law_take F_law_mixed g_law_mixed F_law_of g_law_of F_law_meets g_law_meets B
  have b_law_drawn_round : Binds K d_drawn ["_law_bag_here", "_law_rows", "_law_ways"] [] := F_law_drawn_round.bindsN fun _ _ _ _ _ _ us hl => match us, hl with | [_, _, _], _ => rfl
  have G_law_ahead : FnOk P w K mg base CX0 3 f_ahead d_ahead ["_law_bag_here", "_law_ways", "_law_names_here"] spLAheadN := ok_laheadN F_law_ahead F_law_mixed g_law_mixed F_law_take g_law_take F_law_meets g_law_meets B
  have b_law_ahead : Binds K d_ahead ["_law_bag_here", "_law_ways", "_law_names_here"] [] := F_law_ahead.bindsN fun _ _ _ _ _ _ us hl => match us, hl with | [_, _, _], _ => rfl
  have G_law_rounds_right : FnOk P w K mg base CX0 3 f_rounds d_rounds ["_law_bag_here", "_law_ways", "_law_names_here", "_law_ahead_here"] spLRounds := ok_lrounds F_law_rounds_right F_law_take g_law_take F_law_mixed g_law_mixed F_law_of g_law_of F_law_is_round g_law_is_round Fgoes_round ggoes_round Ggoes_round hset B
  have b_law_rounds_right : Binds K d_rounds ["_law_bag_here", "_law_ways", "_law_names_here", "_law_ahead_here"] [] := F_law_rounds_right.bindsN fun _ _ _ _ _ _ us hl => match us, hl with | [_, _, _, _], _ => rfl
  have G_law_shrunk_right : FnOk P w K mg base CX0 8 f_shr d_shr ["_law_rows", "_law_told", "_law_ways", "_law_names_here", "_law_ahead_here"] (spLShR Cg Cr) := ok_lshr F_law_shrunk_right F_law_next g_law_next F_law_course g_law_course F_law_is_round g_law_is_round Fgoes_round ggoes_round Ggoes_round Fshrunk gshrunk Gshrunk Fline_up gline_up Gline_up hset B
  have b_law_shrunk_right : Binds K d_shr ["_law_rows", "_law_told", "_law_ways", "_law_names_here", "_law_ahead_here"] [] := F_law_shrunk_right.bindsN fun _ _ _ _ _ _ us hl => match us, hl with | [_, _, _, _, _], _ => rfl
  clear FI FJ FS G Mfr HF
  refine F.ok scLaw (fun vs H Q E h => ?_) (fun cdv A outer s H vs Q X0 hr h => ?_)
  · obtain ⟨a, ns, rfl, _⟩ := h
    rfl
  · obtain ⟨a, ns, rfl, hS, hns, k⟩ := h
    have hu64 := hr.units
    have hr_law_shrunk_right : Room 8 _ := hr
    have hr_law_rounds_right : Room 3 _ := hr.mono (by decide)
    have hr_law_drawn_round : Room 3 _ := hr.mono (by decide)
    have hr_law_ahead : Room 3 _ := hr.mono (by decide)
    have hrgoes_round : Room 2 _ := hr.mono (by decide)
    have hrI : Room 5 _ := hr.mono (by decide)
    have hrJ : Room 6 _ := hr.mono (by decide)
    have hrrows : Room 1 _ := hr.mono (by decide)
    have hr_law_bag : Room 1 _ := hr.mono (by decide)
    have hr_law_take : Room 1 _ := hr.mono (by decide)
    have hr_law_river : Room 4 _ := hr.mono (by decide)
    have hr_law_rights : Room 5 _ := hr.mono (by decide)
    have hr_law_way : Room 2 _ := hr.mono (by decide)
    refine ⟨_, PSs.nox (pss_cons
      (ps_for PassesOwn.never rfl (pi_range1 (by rfl) B.range (pa_cons (pe_callB (call_max2 rfl) (by rfl) B.max (by decide +kernel) (pa_cons pe_int (pa_cons (pe_callB (call_min2 rfl) (by rfl) B.min (by decide +kernel) (pa_cons pe_int (pa_cons (pe_callB (lenK (K := K)) (by rfl) B.len PySem.boot_len (pa_cons (pv 0) pa_nil)) pa_nil))) pa_nil))) pa_nil)) (pg_name (i := 1) scLaw.nd rfl (Or.inl rfl)) (pss_cons
      (ps_set (i := 2) scLaw.nd rfl (Or.inl rfl) (pe_call G_law_bag hr_law_bag (by rfl) g_law_bag F_law_bag.kp b_law_bag .nil pass0 (pa_cons (pv 0) (pa_cons (pv 1) (pa_cons pe_int pa_nil)))))
      (pss_cons
      (ps_set (i := 3) scLaw.nd rfl (Or.inr rfl) (pe_call G_law_river hr_law_river (by rfl) g_law_river F_law_river.kp b_law_river .nil pass0 (pa_cons (pv 2) (pa_cons (pe_op op_add pe_int (pe_call G_law_take hr_law_take (by rfl) g_law_take F_law_take.kp b_law_take .nil pass0 (pa_cons (pv 2) (pa_cons pe_int pa_nil)))) pa_nil))))
      (pss_cons
      (ps_set (i := 4) scLaw.nd rfl (Or.inl rfl) (pe_call G_law_rights hr_law_rights (by rfl) g_law_rights F_law_rights.kp b_law_rights .nil pass0 (pa_cons (pv 2) (pa_cons (pv 3) (pa_cons (pe_op op_add pe_int (pe_call G_law_take hr_law_take (by rfl) g_law_take F_law_take.kp b_law_take .nil pass0 (pa_cons (pv 2) (pa_cons (pe_ifExp (pt_cmpR op_eq (pe_call G_law_take hr_law_take (by rfl) g_law_take F_law_take.kp b_law_take .nil pass0 (pa_cons (pv 2) (pa_cons pe_int pa_nil))) pe_int (nomark _)) pe_int pe_int) pa_nil)))) pa_nil)))))
      (pss_cons
      (ps_set (i := 5) scLaw.nd rfl (Or.inl rfl) (pe_callTy (call_dictP rfl) (by rfl) B.dict (by decide +kernel) (pa_cons (pe_lc (own := [("_law_right", 10)]) (g := gName 10) (tt := tYes) (by rfl) scLaw.nd (pi_list (pv 4)) (blkOk_by (own := [("_law_right", 10)]) (N := scLaw_N) (sc := defScope scLaw_S) (by decide +kernel)) (fun _ _ _ _ _ => (pg_name (i := 10) scLaw.nd rfl (Or.inl rfl))) (fun _ _ _ _ _ => pts_nil) (fun _ _ _ _ _ => (pe_tup (pa_cons (pe_ix (ixTK (K := K)) (pv 10) pe_int (fun _ _ => rfl)) (pa_cons (pe_call G_law_way hr_law_way (by rfl) g_law_way F_law_way.kp b_law_way .nil pass0 (pa_cons (pv 3) (pa_cons (pv 10) pa_nil))) pa_nil))))) pa_nil)))
      (pss_cons
      (ps_set (i := 6) scLaw.nd rfl (Or.inl rfl) (pe_make MKG GJ hrJ (by rfl) TG.mgC bJ .nil pass0 (pa_cons (pe_make MK GI hrI (by rfl) T.mgC bI .nil pass0 (pa_cons (pv 3) pa_nil)) (pa_cons (pv 4) pa_nil))))
      (pss_cons
      (ps_for PassesOwn.never rfl (pi_range1 (by rfl) B.range (pa_cons pe_int pa_nil)) (pg_name (i := 7) scLaw.nd rfl (Or.inl rfl)) (pss_cons
      (ps_set (i := 8) scLaw.nd rfl (Or.inl rfl) (pe_call G_law_drawn_round hr_law_drawn_round (by rfl) g_law_drawn_round F_law_drawn_round.kp b_law_drawn_round .nil pass0 (pa_cons (pv 2) (pa_cons (pv 3) (pa_cons (pv 5) pa_nil)))))
      (pss_cons
      (ps_if (pt_cmpR (op_eqD hu64) (pv 8) (pe_lst pa_nil) (nomark _)) (pss_cons
      (ps_set (i := 8) scLaw.nd rfl (Or.inl rfl) (pe_lst (pa_cons (pe_ix (ixTK (K := K)) (pe_ix (ixLK (K := K)) (pv 3) pe_int (fun _ _ => rfl)) pe_int (fun _ _ => rfl)) (pa_cons (pe_ix (ixTK (K := K)) (pe_ix (ixLK (K := K)) (pv 4) pe_int (fun _ _ => rfl)) pe_int (fun _ _ => rfl)) (pa_cons (pe_ix (ixTK (K := K)) (pe_ix (ixLK (K := K)) (pv 4) (pe_un un_neg pe_int) (fun _ _ => rfl)) pe_int (fun _ _ => rfl)) pa_nil)))))
      (pss_cons
      (ps_if (pt_cmpR op_isnot_bl (pe_call Ggoes_round hrgoes_round (by rfl) ggoes_round Fgoes_round.kp bgoes_round .nil pass0 (pa_cons (pe_callTy (tupleF (K := K)) (by rfl) B.tuple (by decide +kernel) (pa_cons (pv 8) pa_nil)) (pa_cons (pe_lst pa_nil) pa_nil))) pe_bl (nomark _)) (pss_one
      (ps_ret pe_bl)) pss_nil)
      (pss_one
      ps_continue))) pss_nil)
      (pss_cons
      (ps_par (i := 9) (j := 8) (by rfl) scLaw.nd rfl rfl (by decide) rfl rfl (pa_cons (pe_call G_law_ahead hr_law_ahead (by rfl) g_law_ahead F_law_ahead.kp b_law_ahead .nil pass0 (pa_cons (pv 2) (pa_cons (pv 5) (pa_cons (pv 8) pa_nil)))) (pa_cons (pe_callTy (tupleF (K := K)) (by rfl) B.tuple (by decide +kernel) (pa_cons (pv 8) pa_nil)) pa_nil)) (by rfl))
      (pss_cons
      (ps_if (pt_not (pt_val (pe_call G_law_rounds_right hr_law_rounds_right (by rfl) g_law_rounds_right F_law_rounds_right.kp b_law_rounds_right .nil pass0 (pa_cons (pv 2) (pa_cons (pv 5) (pa_cons (pv 8) (pa_cons (pv 9) pa_nil))))))) (pss_one
      (ps_ret pe_bl)) pss_nil)
      (pss_one
      (ps_if (pt_not (pt_val (pe_call G_law_shrunk_right hr_law_shrunk_right (by rfl) g_law_shrunk_right F_law_shrunk_right.kp b_law_shrunk_right .nil pass0 (pa_cons (pv 3) (pa_cons (pv 6) (pa_cons (pv 5) (pa_cons (pv 8) (pa_cons (pv 9) pa_nil)))))))) (pss_one
      (ps_ret pe_bl)) pss_nil)))))))
      (pss_one
      (ps_if (pt_cmpR (op_neD hu64) (pe_meth0 (pv 6) TG.cl MrowsG GrowsG hrrows browsG .nil pass0) (pv 4) (nomark _)) (pss_one
      (ps_ret pe_bl)) pss_nil)))))))))
      (pss_one
      (ps_ret pe_bl))), ?_⟩
    refine ⟨_, rfl, a, _, rfl, .inl hS, _, _, rfl, _, _, rfl, _, rfl, ?_⟩
    have hN : ∃ N : Int, (if (if (((ns.map V.int).length : Nat) : Int) < 3 then (((ns.map V.int).length : Nat) : Int) else 3) > 1 then (if (((ns.map V.int).length : Nat) : Int) < 3 then (((ns.map V.int).length : Nat) : Int) else 3) else 1) = N ∧ 1 ≤ N ∧ N ≤ 3 := ⟨_, rfl, by split <;> split <;> omega, by split <;> split <;> omega⟩
    obtain ⟨N, eN, hN1, hN2⟩ := hN
    rw [eN]
    clear eN
    refine ⟨by omega, by omega, ?_⟩
    refine for_range (n := N.toNat) (lo := 0) (fun i σ H2 => ∃ v1 v2 v3 v4 v5 v6 v7 v8 v9 v10, σ = [some (.ref a), v1, v2, v3, v4, v5, v6, v7, v8, v9, v10] ∧ SqL K H2 a (ns.map V.int))
      ⟨_, _, _, _, _, _, _, _, _, _, rfl, hS⟩ ?_ ?_
    · rintro i σ H2 hi ⟨v1, v2, v3, v4, v5, v6, v7, v8, v9, v10, rfl, hS2⟩
      have hi3 : i < 3 := by omega
      refine ⟨_, rfl, _, rfl, a, ns, _, _, rfl, hS2, hns, by omega, by omega, by decide, by decide, fun H3 p s3 np B3 => ?_⟩
      have sq : ∀ H', Upto p H3 H' → SqL K H' a (ns.map V.int) := fun H' u => by
        rcases hS2 with (r | ⟨o, r⟩) | r
        · exact .inl (.inl (u _ _ (s3 _ _ r) (ne_of_none r np)))
        · exact .inl (.inr ⟨o, u _ _ (s3 _ _ r) (ne_of_none r np)⟩)
        · exact .inr r
      have u4 : Upto p H3 H3 := Upto.refl
      have B4 := B3
      refine ⟨_, rfl, _, rfl, p, 5, rfl, B4, by omega, by omega, fun r x4 hr0 hr1 hx4 => ⟨1, r, rfl, rfl, ?_⟩⟩
      obtain ⟨rn, rfl⟩ : ∃ rn : Nat, r = (rn : Int) := ⟨r.toNat, by omega⟩
      have u45 : Upto p H3 (upd H3 p (.lst x4)) := Upto.at_
      have B45 : BagAt (upd H3 p (.lst x4)) p := ⟨x4, upd_same, hx4⟩
      generalize upd H3 p (.lst x4) = H45 at u45 B45
      refine ⟨p, 1 + rn, by show [V.ref p, V.int ((1 : Int) + (rn : Int))] = [V.ref p, V.int ((1 + rn : Nat) : Int)]; rw [show ((1 : Int) + (rn : Int)) = ((1 + rn : Nat) : Int) by omega], B45, by omega, by omega, fun H5 l AR u5 B5 nl lp hR hG hlen => ?_⟩
      have u35 := u45.trans u5
      refine ⟨_, rfl, _, rfl, _, rfl, _, rfl, p, 8, rfl, B5, by decide, by decide, fun r9 x9 _ _ hx9 => ⟨rfl, _, rfl, ?_⟩⟩
      have u6 : Upto p H5 (upd H5 p (.lst x9)) := Upto.at_
      have B6 : BagAt (upd H5 p (.lst x9)) p := ⟨x9, upd_same, hx9⟩
      generalize upd H5 p (.lst x9) = H6 at u6 B6
      refine split_if' (α := Int) (R := fun c => 0 < c ∧ c ≤ 14) (C := ?C2) ?use2 ?key2
      case use2 =>
        intro key
        refine ite2 (fun _ => ?_) (fun _ => ?_)
        · generalize h40 : (14 : Int) = c40
          exact key c40 ⟨by omega, by omega⟩
        · exact key 7 ⟨by decide, by decide⟩
      case key2 =>
        rintro many2 ⟨hn1, hn2⟩
        refine ⟨p, many2, rfl, B6, hn1, by omega, fun r x10 hr20 hr21 hx10 => ?_⟩
        obtain ⟨rm, rfl⟩ : ∃ rm : Nat, r = (rm : Int) := ⟨r.toNat, by omega⟩
        have u57 : Upto p H5 (upd H6 p (.lst x10)) := u6.trans Upto.at_
        have B7 : BagAt (upd H6 p (.lst x10)) p := ⟨x10, upd_same, hx10⟩
        generalize upd H6 p (.lst x10) = H7 at u57 B7
        refine ⟨3, _, rfl, rfl, ?_⟩
        refine ⟨p, l, 3 + rm, AR, by show [V.ref p, V.ref l, V.int ((3 : Int) + (rm : Int))] = [V.ref p, V.ref l, V.int ((3 + rm : Nat) : Int)]; rw [show ((3 : Int) + (rm : Int)) = ((3 + rm : Nat) : Int) by omega], B7, lp, hR.upto B5 lp u57, hG, by omega, fun H8 z BR u78 B8 nz zp hB hb hBl => ?_⟩
        have u58 := u57.trans u78
        have hR8 := hR.upto B5 lp u58
        have hS8 := sq H8 (u35.trans u58)
        have hAl : (rowsOf AR).length = AR.length := List.length_map _
        have hln : (rnm (bOf BR)).length = (bOf BR).length := List.length_map _
        have hbl : (bOf BR).length = BR.length := List.length_map _
        have hnd := hb.nd
        -- the dict of ways
        refine ⟨_, rfl, z, rfl, ⟨_, .inl (.inl hB.lst)⟩, fun D hD => ?_⟩
        refine lc_list (K := K) (a := z) (xs := BR.map fun q => V.ref q.1) (fun i H9 => Same H8 H9 ∧ PairW H9 D ((rnm (bOf BR)).take i) (wyN AR BR)) ⟨same_upd hD, [], upd_same, by rw [List.take_zero]; rfl, fun k q n e => by cases e⟩ (fun i H9 hi h => .inl (.inl (h.1 _ _ hB.lst))) ?_ ?_
        · rintro j x H9 hx ⟨s9, hP⟩
          have hj : j < BR.length := by
            have := (List.getElem?_eq_some_iff.mp hx).1
            rw [List.length_map] at this
            exact this
          have ex := brow_at hx hj
          subst ex
          have hmem : BR[j] ∈ BR := List.getElem_mem hj
          have hmb : BR[j].2 ∈ bOf BR := List.mem_map.mpr ⟨_, hmem, rfl⟩
          have hnj : (rnm (bOf BR))[j]? = some BR[j].2.1 := by
            show ((BR.map (·.2)).map (·.1))[j]? = _
            rw [List.getElem?_map, List.getElem?_map, List.getElem?_eq_getElem hj]
            rfl
          have htup := s9 _ _ (hB.tup _ hmem)
          refine ⟨rfl, ?_⟩
          unfold tYes
          refine iteT ?_
          refine ⟨_, rfl, BR[j].1, _, _, .str BR[j].2.1, rfl, rfl, .inl (.inl htup), atI_nat (j := 0) rfl, _, rfl, _, rfl, l, BR[j].1, AR, BR[j].2, rfl, hR8.same s9, hG, htup, hb.inn _ hmb, hb.last _ hmb, fun H10 c s10 hc0 hc => ?_⟩
          refine ⟨by show 2 ≤ sizeLine; decide, fun t nt => ?_⟩
          rw [← way_of hnd hmb] at hc
          obtain ⟨acc, y1, y2, y3⟩ := hP.more (n := BR[j].2.1) s10 hc0 hc nt
          refine ⟨_, y1, by rw [y2, List.length_take]; exact small1000 (by omega), fun b o hb => ?_, ?_⟩
          · rw [upd_ne (ne_of_none hb hD), upd_ne (ne_of_none (s10 _ _ (s9 _ _ hb)) nt)]
            exact s10 _ _ (s9 _ _ hb)
          · rw [List.take_add_one, hnj]
            exact y3
        rintro H9 ⟨s9, hP⟩
        have hPl : (BR.map fun q => V.ref q.1).length = (rnm (bOf BR)).length := by rw [List.length_map, hln, hbl]
        rw [hPl, List.take_length] at hP
        obtain ⟨ps, ta, y1, y2, y3⟩ := hP.dict hnd
        refine ⟨D, ps, _, rfl, .inl (.inl y1), y2, fun d nd => ?_⟩
        have em : mergeK [] (kmap (fun y => V.ref (ta y)) (rnm (bOf BR))) = kmap (fun y => V.ref (ta y)) (rnm (bOf BR)) := merge_kmap (ns := []) (by simpa using hnd)
        rw [em]
        have s10 : Same H9 (upd H9 d (.dK (kmap (fun y => V.ref (ta y)) (rnm (bOf BR))))) := same_upd nd
        have W10 : WaysL (upd H9 d (.dK (kmap (fun y => V.ref (ta y)) (rnm (bOf BR))))) d (rnm (bOf BR)) (wyN AR BR) := ⟨ta, upd_same, fun y hy => s10 _ _ (y3 y hy)⟩
        generalize upd H9 d (.dK (kmap (fun y => V.ref (ta y)) (rnm (bOf BR)))) = H10 at s10 W10
        have s810 := s9.trans s10
        have hR10 := hR8.same s810
        have hB10 := hB.same s810
        -- the river, the rights
        refine ⟨_, rfl, fun q dx nx ndx hne => ?_⟩
        have sN : Same H10 (upd (upd H10 dx (.own q)) q (.ins Cr dx [])) := (same_upd ndx).trans (same_upd (by rw [upd_ne hne.symm]; exact nx))
        refine ⟨q, l, dx, AR, rfl, upd_same, hR10.same sN, hG, fun H11 u11 R11 => ⟨rfl, ?_⟩⟩
        have s11 : Same H10 H11 := fun b o hb => u11 b o (sN b o hb) (ne_of_none hb nx)
        have hB11 := hB10.same s11
        refine ⟨_, rfl, fun g dg ng ndg hgne => ?_⟩
        have sG : Same H11 (upd (upd H11 dg (.own g)) g (.ins Cg dg [])) := (same_upd ndg).trans (same_upd (by rw [upd_ne hgne.symm]; exact ng))
        refine ⟨g, q, z, dg, AR, BR, rfl, upd_same, Same.riv sG R11, hG, hB11.same sG, hb, fun H12 u12 R12 => ⟨rfl, ?_⟩⟩
        have s12 : Same H11 H12 := fun b o hb => u12 b o (sG b o hb) (ne_of_none hb ng)
        have s812 := s810.trans (s11.trans s12)
        have hK12 : RigOk Cg Cr H12 g q AR BR := ⟨R12, hG, hb⟩
        have hR12 := hR8.same s812
        have hB12 := hB.same s812
        have W12 := W10.same (s11.trans s12)
        have hS12 := s812.seq hS8
        have B12 : BagAt H12 p := bagS B8 s812
        have z40 : 40000 ≤ sizeLine := by rw [sizeLine_eq]; omega
        have zb12 : z ≠ p := zp
        have hm := hb.most
        -- twice
        refine ⟨_, rfl, by decide, by decide, ?_⟩
        refine for_range (n := 2) (lo := 0) (fun k σ H13 => ∃ v7 v8 v9, σ = [some (.ref a), some (.int (0 + (i : Int))), some (.ref p), some (.ref l), some (.ref z), some (.ref d), some (.ref g), v7, v8, v9, v10] ∧ Upto p H12 H13 ∧ BagAt H13 p) ⟨_, _, _, rfl, .refl, B12⟩ ?_ ?_
        · rintro k' σ H13 hk' ⟨v7', v8', v9', rfl, u13, B13⟩
          have K13 := rigUp B12 u13 hK12
          have hR13 := hR12.upto B12 lp u13
          have W13 := W12.up B12 u13
          have hB13 := hB12.upto B12 zp u13
          refine ⟨_, rfl, _, rfl, _, rfl, p, l, d, AR, bOf BR, rfl, B13, hR13, lp, hG, hb, W13, fun H14 zz L u14 B14 nzz zzp hzz hL => ?_⟩
          have u1214 := u13.trans u14
          refine ⟨_, rfl, by show 0 ≤ sizeLine; omega, fun e0 ne0 => ?_⟩
          have s15 : Same H14 (upd H14 e0 (.lst [])) := same_upd ne0
          have he15 : (upd H14 e0 (.lst [])) e0 = some (.lst []) := upd_same
          generalize upd H14 e0 (.lst []) = H15 at s15 he15
          have hLp : ∀ y ∈ L, Plain y := fun y hy => by
            rcases hL with e | h
            · rw [e] at hy; cases hy
            · exact name_pl hb (h.mem y hy)
          refine ⟨_, _, .lst (.inl (.inl (s15 _ _ hzz))) (dp_strs L), .lst (.inl (.inl he15)) .nil, shaped_lst hLp, by decide +kernel, _, rfl, ?_⟩
          rw [eqv_nilL]
          have B15 := bagS B14 s15
          have u1215 := u1214.trans (.of s15)
          have hR15 := hR12.upto B12 lp u1215
          have hB15 := hB12.upto B12 zp u1215
          refine ite2 (fun hh => ?_) (fun hh => ?_)
          · -- none drawn
            obtain ⟨q0, AR', eAR⟩ : ∃ q0 AR', AR = q0 :: AR' := by
              cases hc : AR with
              | nil => exact absurd (show 1 + rn = 0 from hlen.symm.trans (by rw [hc]; rfl)) (by omega)
              | cons q0 AR' => exact ⟨q0, AR', rfl⟩
            obtain ⟨b0, BR', eBR⟩ : ∃ b0 BR', BR = b0 :: BR' := by
              cases hc : BR with
              | nil => exact absurd (show 3 + rm = 0 from hBl.symm.trans (by rw [hc]; rfl)) (by omega)
              | cons q0 AR' => exact ⟨q0, AR', rfl⟩
            obtain ⟨ini, bl, eBl⟩ : ∃ ini bl, BR = ini ++ [bl] := by
              rcases List.eq_nil_or_concat BR with e | ⟨ini, t, e⟩
              · rw [e] at eBR; cases eBR
              · exact ⟨ini, t, by rw [e, List.concat_eq_append]⟩
            have t1 := hR15.tup q0 (by rw [eAR]; exact List.mem_cons_self)
            have t2 := hB15.tup b0 (by rw [eBR]; exact List.mem_cons_self)
            have t3 := hB15.tup bl (by rw [eBl]; exact List.mem_append_right _ List.mem_cons_self)
            have a1 : atI (AR.map fun q => V.ref q.1) ((0 : Nat) : Int) = some (.ref q0.1) := atI_nat (by rw [eAR]; rfl)
            have a2 : atI (BR.map fun q => V.ref q.1) ((0 : Nat) : Int) = some (.ref b0.1) := atI_nat (by rw [eBR]; rfl)
            have a3 : atI (BR.map fun q => V.ref q.1) (-1) = some (.ref bl.1) := by rw [eBl, List.map_append]; exact at_last _ _
            refine ⟨_, rfl, l, _, _, _, rfl, rfl, .inl (.inl hR15.lst), a1, q0.1, _, _, _, rfl, rfl, .inl (.inl t1), atI_nat (j := 0) rfl, ?_⟩
            refine ⟨_, rfl, z, _, _, _, rfl, rfl, .inl (.inl hB15.lst), a2, b0.1, _, _, _, rfl, rfl, .inl (.inl t2), atI_nat (j := 0) rfl, ?_⟩
            refine ⟨_, rfl, _, rfl, z, _, _, _, rfl, rfl, .inl (.inl hB15.lst), a3, bl.1, _, _, _, rfl, rfl, .inl (.inl t3), atI_nat (j := 0) rfl, ?_⟩
            refine ⟨by show 3 ≤ sizeLine; omega, fun nl nnl => ?_⟩
            have s16 : Same H15 (upd H15 nl (.lst [.str q0.2.1, .str b0.2.1, .str bl.2.1])) := same_upd nnl
            have hn16 : (upd H15 nl (.lst [.str q0.2.1, .str b0.2.1, .str bl.2.1])) nl = some (.lst [.str q0.2.1, .str b0.2.1, .str bl.2.1]) := upd_same
            generalize upd H15 nl (.lst [.str q0.2.1, .str b0.2.1, .str bl.2.1]) = H16 at s16 hn16
            refine ⟨_, rfl, nl, _, rfl, .inl (.inl hn16), fun t o nt po => ?_⟩
            have s17 : Same H16 (upd H16 t (.frz o (.tup [.str q0.2.1, .str b0.2.1, .str bl.2.1]))) := same_upd nt
            have ht17 : TxR (upd H16 t (.frz o (.tup [.str q0.2.1, .str b0.2.1, .str bl.2.1]))) t [q0.2.1, b0.2.1, bl.2.1] := .inr ⟨o, upd_same⟩
            generalize upd H16 t (.frz o (.tup [.str q0.2.1, .str b0.2.1, .str bl.2.1])) = H17 at s17 ht17
            refine ⟨by show 0 ≤ sizeLine; omega, fun e1 ne1 => ?_⟩
            have s18 : Same H17 (upd H17 e1 (.lst [])) := same_upd ne1
            have he18 : RowsAt (upd H17 e1 (.lst [])) e1 [] := ⟨upd_same, fun q hq => by cases hq⟩
            generalize upd H17 e1 (.lst []) = H18 at s18 he18
            have gk : GoK K H18 (rowsOf ([] : List (Addr × Row))) (.ref t) false := by
              have := GoK.txt (K := K) (A := rowsOf ([] : List (Addr × Row))) (ht17.same s18) (by show 3 ≤ 900; omega)
              rw [show goesL (rowsOf ([] : List (Addr × Row))) [q0.2.1, b0.2.1, bl.2.1] = false from goes_none] at this
              exact this
            refine ⟨.ref t, e1, [], false, rfl, he18, by show 0 ≤ 1640; omega, gk, fun H19 s19 => ?_⟩
            refine ⟨_, _, rfl, rfl, _, rfl, ?_⟩
            refine iteF ?_
            have sA := ((s16.trans s17).trans s18).trans s19
            exact ⟨_, _, _, rfl, u1215.trans (.of sA), bagS B15 sA⟩
          · have hDr : DrOk (rowsOf AR) (bOf BR) L := hL.resolve_left fun e => hh (decide_eq_true e)
            have W15 := W12.up B12 u1215
            have hzz15 := s15 _ _ hzz
            refine ⟨_, rfl, _, rfl, _, rfl, p, d, zz, rowsOf AR, bOf BR, L, rfl, B15, W15, hG, hb, hzz15, hDr, fun H16 h AP u16 B16 nh hp hA T0 hRd hAPl => ?_⟩
            have u1216 := u1215.trans u16
            have hzz16 := u16 _ _ hzz15 zzp
            refine ⟨_, rfl, zz, _, rfl, .inl (.inl hzz16), fun t o nt po => ?_⟩
            have s17 : Same H16 (upd H16 t (.frz o (.tup (L.map V.str)))) := same_upd nt
            have ht17 : FT (upd H16 t (.frz o (.tup (L.map V.str)))) t L := ⟨o, po, upd_same⟩
            generalize upd H16 t (.frz o (.tup (L.map V.str))) = H17 at s17 ht17
            have B17 := bagS B16 s17
            have u1217 := u1216.trans (.of s17)
            have W17 := W12.up B12 u1217
            have hA17 := hA.same s17
            have hpl : ∀ r ∈ rowsOf AP, Plain r.1 ∧ Plain r.2 := fun r hr => by
              obtain ⟨x1, x2, _, _⟩ := T0.sub r.1 r.2 hr
              exact ⟨name_pl hb x1, name_pl hb x2⟩
            refine ⟨_, _, rfl, ?_⟩
            refine ⟨_, rfl, _, rfl, _, rfl, _, rfl, p, d, t, h, L, AP, rowsOf AR, bOf BR, rfl, B17, W17, hb, ht17, hRd, hA17, hp, hAPl, hpl, fun H18 u18 B18 => ⟨_, rfl, iteF ?_⟩⟩
            have u1218 := u1217.trans u18
            refine ⟨_, rfl, _, rfl, _, rfl, _, rfl, _, rfl, l, g, d, t, h, q, L, AR, AP, AR, BR, rfl, hR12.upto B12 lp u1218, rfl, rigUp B12 u1218 hK12, W12.up B12 u1218, ht17.up B17 u18, hRd, hA17.upto B17 hp u18, T0, hAPl, fun H19 s19 => ⟨_, rfl, iteF ?_⟩⟩
            exact ⟨_, _, _, rfl, u1218.trans (.of s19), bagS B18 s19⟩
        · rintro σ H13 ⟨v7', v8', v9', rfl, u13, B13⟩
          have K13 := rigUp B12 u13 hK12
          have hB13 := hB12.upto B12 zp u13
          obtain ⟨dgx, tn, tr, dw, dl, dp, i1, i2, i3, i4, i5, i6, i7⟩ := id K13.at_.ex
          refine ⟨_, rfl, g, dgx, _, rfl, i1, rr6no _ _ _ _ _ _ (by decide +kernel), g, q, AR, BR, rfl, K13, fun l9 nl9 => ?_⟩
          have s14 : Same H13 (upd H13 l9 (.lst (BR.map fun q => V.ref q.1))) := same_upd nl9
          have hl9 : (upd H13 l9 (.lst (BR.map fun q => V.ref q.1))) l9 = some (.lst (BR.map fun q => V.ref q.1)) := upd_same
          generalize upd H13 l9 (.lst (BR.map fun q => V.ref q.1)) = H14 at s14 hl9
          have hB14 := hB13.same s14
          have shb := shaped_rr (rr_plain hG hb)
          have eqb : PyData.eqv (.list ((bOf BR).map rrD)) (.list ((bOf BR).map rrD)) = true := by
            simp only [PyData.eqv]
            exact eqv_rr _
          refine ⟨_, rfl, _, _, .lst (.inl (.inl hl9)) (dp_rr hB14.tup), .lst (.inl (.inl hB14.lst)) (dp_rr hB14.tup), shb, shb, _, rfl, ?_⟩
          rw [eqb]
          refine iteF ?_
          exact ⟨_, _, _, _, _, _, _, _, _, _, rfl, sq H14 ((u35.trans u58).trans ((Upto.of s812).trans (u13.trans (.of s14))))⟩
    · rintro σ H2 ⟨v1, v2, v3, v4, v5, v6, v7, v8, v9, v10, rfl, _⟩
      exact k _
end
end K0
end
section
set_option Elab.async false
set_option linter.all false
set_option maxRecDepth 100000
set_option maxHeartbeats 0
namespace K0H
open PySem PySem.Spec PyProof.Rows L2 K0
open PySem.W (Frag)
/-! ### the defs, as data -/
def dD (x : Str) (st : Stmt) : He.DefD := ⟨(x, none), x, x, defArgs st, defBody st, defScope st, [], []⟩
def dA (al x : Str) (st : Stmt) : He.DefD := ⟨(al, none), x, x, defArgs st, defBody st, defScope st, [], []⟩
def dM (c m q : Str) (st : Stmt) : He.DefD := ⟨(c, some m), m, q, defArgs st, defBody st, defScope st, [], []⟩
def fn : List He.DefD := [dD "need_weir" sNeed, dD "need_right" sNeedR, dD "need_different" sNeedDiff, dD "_first_free" sFirstFree, dD "_line" sLine, dD "turned" sTurned, dD "_ring_at" sRingAt, dD "_first_ring" sFirstRing, dD "line_up" sLineUp, dD "_all_follow" sAllFollow, dD "goes_round" sGoesRound, dD "_deepest" sDeepestN, dD "_shrunk_once" sShrunkOnce, dD "shrunk" sShrunk, dD "is_name" sIsName, dD "_course" sCourse, dD "_find_courses" sFind, dD "_directly_above" sAbove, dD "_find_upstream" sUp, dD "_order_by_depth" sOrder, dA "is_row_rivers" "_is_row" sIsRow, dA "need_rows_rivers" "_need_rows" sNeedRows, dA "is_row_rights" "_is_row" sIsRowR, dA "need_rows_rights" "_need_rows" sNeedRowsR, dM "River" "__init__" "River.__init__" sInit, dM "River" "__contains__" "River.__contains__" sContains, dM "River" "is_down" "River.is_down" sIsDown, dM "River" "way" "River.way" sWay, dM "River" "depth" "River.depth" sDepth, dM "River" "course" "River.course" sCourseM, dM "Rights" "__init__" "Rights.__init__" sGInit, dM "Rights" "__contains__" "Rights.__contains__" sGContains, dM "Rights" "__len__" "Rights.__len__" sGLen, dM "Rights" "rows" "Rights.rows" sGRows, dM "Rights" "_those_over" "Rights._those_over" sThose, dM "Rights" "last" "Rights.last" sGLast, dM "Rights" "way" "Rights.way" sGWay, dM "Rights" "passing" "Rights.passing" sGPassing, dD "_law_bag" sBag, dD "_law_take" sTake, dD "_law_of" sOf, dD "_law_mixed" sMixed, dD "_law_names" sNames, dD "_law_river" sLRiver, dD "_law_course" sLCourse, dD "_law_right_names" sRNames, dD "_law_rights" sLRights, dD "_law_way" sLWay, dD "_law_meets" sLMeets, dD "_law_drawn_round" sLDrawn, dD "_law_ahead" sLAhead, dD "_law_is_round" sLIsRound, dD "_law_next" sLNext, dD "_law_shrunk_right" sLShrunkR, dD "_law_rounds_right" sLRounds, dD "law" sLaw]
def fa0 : List He.Fa := [.glo "need_weir", .glo "need_right", .glo "need_different", .glo "_first_free", .glo "_line", .glo "turned", .glo "_ring_at", .glo "_first_ring", .glo "line_up", .glo "_all_follow", .glo "goes_round", .glo "_deepest", .glo "_shrunk_once", .glo "shrunk", .glo "is_name", .glo "is_row_rivers", .glo "need_rows_rivers", .glo "_course", .glo "_find_courses", .glo "_directly_above", .glo "_find_upstream", .glo "_order_by_depth", .glo "River", .glo "is_row_rights", .glo "need_rows_rights", .glo "Rights", .glo "_law_bag", .glo "_law_take", .glo "_law_of", .glo "_law_mixed"]
def fa1 : List He.Fa := [.glo "_law_names", .glo "_law_river", .glo "_law_course", .glo "_law_right_names", .glo "_law_rights", .glo "_law_way", .glo "_law_meets", .glo "_law_drawn_round", .glo "_law_ahead", .glo "_law_is_round", .glo "_law_next", .glo "_law_shrunk_right", .glo "_law_rounds_right", .glo "law", .free "len", .free "enumerate", .free "int", .free "abs", .free "list", .free "range", .free "dict", .free "tuple", .free "isinstance", .free "str", .free "all", .free "any", .free "bool", .free "sorted", .free "max", .free "min"]
def fa2 : List He.Fa := [.free "iter", .free "super", .free "ValueError", .free "set", .str "SEA" "sea", .int "MOST_ROWS" 40, .int "LONGEST_NAME" 8, .cls "River", .mkr "River", .cls "Rights", .mkr "Rights", .noat "River" "weirs", .noat "River" "_rows", .noat "River" "_below", .noat "River" "_courses", .noat "River" "_above", .noat "River" "_upstream", .noat "River" "_deepest_first", .noat "Rights" "river", .noat "Rights" "names", .noat "Rights" "_rows", .noat "Rights" "_ways", .noat "Rights" "_lasts", .noat "Rights" "_passing", .meth "River" "is_down", .meth "River" "way", .meth "River" "depth", .meth "River" "course", .meth "Rights" "rows", .meth "Rights" "_those_over"]
def fa3 : List He.Fa := [.meth "Rights" "last", .meth "Rights" "way", .meth "Rights" "passing"]
def fa : List He.Fa := fa0 ++ fa1 ++ fa2 ++ fa3
/-! ### more facts, as a Bool -/
def spB (K : Frag) (c m : Str) : Bool := He.eqO (PySem.W.findIn K (.ref (He.ga K c)) m) (some (some (.ref (He.ma K (He.ga K c) m)))) && PySem.W.isFn K (.ref (He.ma K (He.ga K c) m))
def ex (K : Frag) : Bool := spB K "River" "__contains__" && (spB K "Rights" "__contains__" && spB K "Rights" "__len__")
abbrev AlY : Type := He.AlD × Bool
def frY (n : Nat) (g : Addr → Option Obj) : Frag := He.frG g (He.asD g n)
def obsY (n : Nat) (g : Addr → Option Obj) : AlY := (He.obsD fa fn (frY n g), ex (frY n g))
abbrev R : PySem.W.OpenRow := PySem.W.OpenLaw.row PySem.Challenge.rw_weirkeepers_k10_whole_rounds_shrunk
structure SaysY (K : Frag) : Prop where
  d : He.SaysD fa fn K
  more : ex K = true
theorem saysY_of {n : Nat} {h : Heap} (e : obsY n h.get? = (He.valD fn, true)) : SaysY (frY n h.get?) :=
  ⟨congrArg (fun z : AlY => z.1) e, congrArg (fun z : AlY => z.2) e⟩
def hk (n : Nat) : PySem.W.Hook where
  α := AlY
  obs := fun s => obsY n s.heap.get?
  val := fun _ => (He.valD fn, true)
  says := fun _ h => ∃ K : Frag, K.In h ∧ SaysY K
  of := fun _ _ e => ⟨_, He.frG_in, saysY_of e⟩
  keeps := fun _ _ _ ⟨K, hK, c⟩ k => ⟨K, PySem.W.Frag.In.keeps hK k, c⟩
def ob (s : PySem.W.SharedT) : AlY := obsY 4 (HandSHeadRun.getT s)
theorem ob_eq (s : PySem.W.SharedT) : ob s = (hk 4).obs s.abs := by
  have e : HandSHeadRun.getT s = s.abs.heap.get? := funext (HandSHeadRun.getT_eq s)
  unfold ob
  rw [e] <;> rfl
end K0H
end
section
set_option Elab.async false
set_option linter.all false
set_option maxRecDepth 100000
set_option maxHeartbeats 0
namespace K0H
open PySem PySem.Spec PyProof.Rows L2 K0
def loose0 : List Str := ["_wall", "__name__", "WeirError", "NotRiver", "NotRights", "NoWeir", "NoRight", "NotDown", "need_weir", "need_right", "need_different", "_first_free", "_line", "turned", "_ring_at", "_first_ring", "line_up", "_all_follow", "goes_round", "_deepest", "_shrunk_once", "shrunk", "SEA", "MOST_ROWS", "LONGEST_NAME", "is_name", "_is_row", "is_row_rivers", "_need_rows", "need_rows_rivers"]
def loose1 : List Str := ["_course", "_find_courses", "_directly_above", "_find_upstream", "_order_by_depth", "River", "is_row_rights", "need_rows_rights", "Rights", "_law_bag", "_law_take", "_law_of", "_law_mixed", "_law_names", "_law_river", "_law_course", "_law_right_names", "_law_rights", "_law_way", "_law_meets", "_law_drawn_round", "_law_ahead", "_law_is_round", "_law_next", "_law_shrunk_right", "_law_rounds_right"]
def loose : List Str := loose0 ++ loose1
noncomputable def endR (w : World) (os : OsState) : Option PySem.W.SharedT := HandSHeadRun.endF (HandSHeadRun.stepQ (HandSHeadRun.denQ HandSHeadRun.tabQ) R.prog w) 6000 R.prog w os
theorem runA (w : World) (os : OsState) : (endR w os).map (fun s => HandSHeadRun.looksF R.prog (PySem.W.boot_heap w.params) s.abs) = some true := by
  kernel_rfl
theorem runB (w : World) (os : OsState) : (endR w os).map (fun s => HandSHeadRun.seenQ (PySem.W.view R.prog [63]) loose (importedModules R.prog.main.body) (fun s => PySem.W.xlAt (PySem.W.view R.prog [63]) [] s && PySem.W.recOk R.records s) s.abs) = some (PySem.W.openGood (PySem.W.view R.prog [63]) loose) := by
  kernel_rfl
theorem runC (w : World) (os : OsState) : (endR w os).map ob = some ((hk 4).val w) := by
  kernel_rfl
theorem three {S A B C : Type} {o : Option S} {f : S → A} {g : S → B} {h : S → C} {a : A} {b : B} {c : C} (x : o.map f = some a) (y : o.map g = some b) (z : o.map h = some c) : o.map (fun s => (f s, g s, h s)) = some (a, b, c) := by
  cases o with
  | none => cases x
  | some s =>
    cases x
    cases y
    cases z
    rfl
theorem run (w : World) : HandSHeadRun.RunEq R (PySem.W.view R.prog [63]) (hk 4) ob 6000 loose w := fun os => three (runA w os) (runB w os) (runC w os)
end K0H
end
section
set_option Elab.async false
set_option linter.all false
set_option maxRecDepth 100000
set_option maxHeartbeats 0
namespace K0H
open PySem PySem.Spec PyProof.Rows L2 K0
open PySem.W (Frag)
abbrev PP : Program := PySem.Challenge.pw_weirkeepers_k10_whole_rounds_shrunk
theorem spB_ok {K : Frag} {c m : Str} (h : spB K c m = true) : PySem.W.findIn K (.ref (He.ga K c)) m = some (some (.ref (He.ma K (He.ga K c) m))) ∧ PySem.W.isFn K (.ref (He.ma K (He.ga K c) m)) = true := by
  obtain ⟨h1, h2⟩ := He.ba h
  exact ⟨He.eqO_ok h1, h2⟩
theorem all_ok {w : World} {K : Frag} {h base : Heap} {mg : Str → Option Value} (X : K.In h) (G : h.Ns mainGlobals mg) (c : SaysY K) :
    ∃ tS tM tL, All PP w K mg base tS tM tL (He.ga K "Rights") (He.ga K "River") := by
  obtain ⟨d0, f0⟩ := c.d.def_ 0 (d := dD "need_weir" sNeed) rfl
  have F0 : FnP K "need_weir" sNeed (He.ga K "need_weir") d0 := f0
  obtain ⟨d1, f1⟩ := c.d.def_ 1 (d := dD "need_right" sNeedR) rfl
  have F1 : FnP K "need_right" sNeedR (He.ga K "need_right") d1 := f1
  obtain ⟨d2, f2⟩ := c.d.def_ 2 (d := dD "need_different" sNeedDiff) rfl
  have F2 : FnP K "need_different" sNeedDiff (He.ga K "need_different") d2 := f2
  obtain ⟨d3, f3⟩ := c.d.def_ 3 (d := dD "_first_free" sFirstFree) rfl
  have F3 : FnP K "_first_free" sFirstFree (He.ga K "_first_free") d3 := f3
  obtain ⟨d4, f4⟩ := c.d.def_ 4 (d := dD "_line" sLine) rfl
  have F4 : FnP K "_line" sLine (He.ga K "_line") d4 := f4
  obtain ⟨d5, f5⟩ := c.d.def_ 5 (d := dD "turned" sTurned) rfl
  have F5 : FnP K "turned" sTurned (He.ga K "turned") d5 := f5
  obtain ⟨d6, f6⟩ := c.d.def_ 6 (d := dD "_ring_at" sRingAt) rfl
  have F6 : FnP K "_ring_at" sRingAt (He.ga K "_ring_at") d6 := f6
  obtain ⟨d7, f7⟩ := c.d.def_ 7 (d := dD "_first_ring" sFirstRing) rfl
  have F7 : FnP K "_first_ring" sFirstRing (He.ga K "_first_ring") d7 := f7
  obtain ⟨d8, f8⟩ := c.d.def_ 8 (d := dD "line_up" sLineUp) rfl
  have F8 : FnP K "line_up" sLineUp (He.ga K "line_up") d8 := f8
  obtain ⟨d9, f9⟩ := c.d.def_ 9 (d := dD "_all_follow" sAllFollow) rfl
  have F9 : FnP K "_all_follow" sAllFollow (He.ga K "_all_follow") d9 := f9
  obtain ⟨d10, f10⟩ := c.d.def_ 10 (d := dD "goes_round" sGoesRound) rfl
  have F10 : FnP K "goes_round" sGoesRound (He.ga K "goes_round") d10 := f10
  obtain ⟨d11, f11⟩ := c.d.def_ 11 (d := dD "_deepest" sDeepestN) rfl
  have F11 : FnP K "_deepest" sDeepestN (He.ga K "_deepest") d11 := f11
  obtain ⟨d12, f12⟩ := c.d.def_ 12 (d := dD "_shrunk_once" sShrunkOnce) rfl
  have F12 : FnP K "_shrunk_once" sShrunkOnce (He.ga K "_shrunk_once") d12 := f12
  obtain ⟨d13, f13⟩ := c.d.def_ 13 (d := dD "shrunk" sShrunk) rfl
  have F13 : FnP K "shrunk" sShrunk (He.ga K "shrunk") d13 := f13
  obtain ⟨d14, f14⟩ := c.d.def_ 14 (d := dD "is_name" sIsName) rfl
  have F14 : FnP K "is_name" sIsName (He.ga K "is_name") d14 := f14
  obtain ⟨d15, f15⟩ := c.d.def_ 15 (d := dD "_course" sCourse) rfl
  have F15 : FnP K "_course" sCourse (He.ga K "_course") d15 := f15
  obtain ⟨d16, f16⟩ := c.d.def_ 16 (d := dD "_find_courses" sFind) rfl
  have F16 : FnP K "_find_courses" sFind (He.ga K "_find_courses") d16 := f16
  obtain ⟨d17, f17⟩ := c.d.def_ 17 (d := dD "_directly_above" sAbove) rfl
  have F17 : FnP K "_directly_above" sAbove (He.ga K "_directly_above") d17 := f17
  obtain ⟨d18, f18⟩ := c.d.def_ 18 (d := dD "_find_upstream" sUp) rfl
  have F18 : FnP K "_find_upstream" sUp (He.ga K "_find_upstream") d18 := f18
  obtain ⟨d19, f19⟩ := c.d.def_ 19 (d := dD "_order_by_depth" sOrder) rfl
  have F19 : FnP K "_order_by_depth" sOrder (He.ga K "_order_by_depth") d19 := f19
  obtain ⟨d20, f20⟩ := c.d.def_ 20 (d := dA "is_row_rivers" "_is_row" sIsRow) rfl
  have F20 : FnP K "_is_row" sIsRow (He.ga K "is_row_rivers") d20 := f20
  obtain ⟨d21, f21⟩ := c.d.def_ 21 (d := dA "need_rows_rivers" "_need_rows" sNeedRows) rfl
  have F21 : FnP K "_need_rows" sNeedRows (He.ga K "need_rows_rivers") d21 := f21
  obtain ⟨d22, f22⟩ := c.d.def_ 22 (d := dA "is_row_rights" "_is_row" sIsRowR) rfl
  have F22 : FnP K "_is_row" sIsRowR (He.ga K "is_row_rights") d22 := f22
  obtain ⟨d23, f23⟩ := c.d.def_ 23 (d := dA "need_rows_rights" "_need_rows" sNeedRowsR) rfl
  have F23 : FnP K "_need_rows" sNeedRowsR (He.ga K "need_rows_rights") d23 := f23
  obtain ⟨d24, f24⟩ := c.d.def_ 24 (d := dM "River" "__init__" "River.__init__" sInit) rfl
  have F24 : FnM K "__init__" "River.__init__" sInit (He.ma K (He.ga K "River") "__init__") d24 := f24
  obtain ⟨d25, f25⟩ := c.d.def_ 25 (d := dM "River" "__contains__" "River.__contains__" sContains) rfl
  have F25 : FnM K "__contains__" "River.__contains__" sContains (He.ma K (He.ga K "River") "__contains__") d25 := f25
  obtain ⟨d26, f26⟩ := c.d.def_ 26 (d := dM "River" "is_down" "River.is_down" sIsDown) rfl
  have F26 : FnM K "is_down" "River.is_down" sIsDown (He.ma K (He.ga K "River") "is_down") d26 := f26
  obtain ⟨d27, f27⟩ := c.d.def_ 27 (d := dM "River" "way" "River.way" sWay) rfl
  have F27 : FnM K "way" "River.way" sWay (He.ma K (He.ga K "River") "way") d27 := f27
  obtain ⟨d28, f28⟩ := c.d.def_ 28 (d := dM "River" "depth" "River.depth" sDepth) rfl
  have F28 : FnM K "depth" "River.depth" sDepth (He.ma K (He.ga K "River") "depth") d28 := f28
  obtain ⟨d29, f29⟩ := c.d.def_ 29 (d := dM "River" "course" "River.course" sCourseM) rfl
  have F29 : FnM K "course" "River.course" sCourseM (He.ma K (He.ga K "River") "course") d29 := f29
  obtain ⟨d30, f30⟩ := c.d.def_ 30 (d := dM "Rights" "__init__" "Rights.__init__" sGInit) rfl
  have F30 : FnM K "__init__" "Rights.__init__" sGInit (He.ma K (He.ga K "Rights") "__init__") d30 := f30
  obtain ⟨d31, f31⟩ := c.d.def_ 31 (d := dM "Rights" "__contains__" "Rights.__contains__" sGContains) rfl
  have F31 : FnM K "__contains__" "Rights.__contains__" sGContains (He.ma K (He.ga K "Rights") "__contains__") d31 := f31
  obtain ⟨d32, f32⟩ := c.d.def_ 32 (d := dM "Rights" "__len__" "Rights.__len__" sGLen) rfl
  have F32 : FnM K "__len__" "Rights.__len__" sGLen (He.ma K (He.ga K "Rights") "__len__") d32 := f32
  obtain ⟨d33, f33⟩ := c.d.def_ 33 (d := dM "Rights" "rows" "Rights.rows" sGRows) rfl
  have F33 : FnM K "rows" "Rights.rows" sGRows (He.ma K (He.ga K "Rights") "rows") d33 := f33
  obtain ⟨d34, f34⟩ := c.d.def_ 34 (d := dM "Rights" "_those_over" "Rights._those_over" sThose) rfl
  have F34 : FnM K "_those_over" "Rights._those_over" sThose (He.ma K (He.ga K "Rights") "_those_over") d34 := f34
  obtain ⟨d35, f35⟩ := c.d.def_ 35 (d := dM "Rights" "last" "Rights.last" sGLast) rfl
  have F35 : FnM K "last" "Rights.last" sGLast (He.ma K (He.ga K "Rights") "last") d35 := f35
  obtain ⟨d36, f36⟩ := c.d.def_ 36 (d := dM "Rights" "way" "Rights.way" sGWay) rfl
  have F36 : FnM K "way" "Rights.way" sGWay (He.ma K (He.ga K "Rights") "way") d36 := f36
  obtain ⟨d37, f37⟩ := c.d.def_ 37 (d := dM "Rights" "passing" "Rights.passing" sGPassing) rfl
  have F37 : FnM K "passing" "Rights.passing" sGPassing (He.ma K (He.ga K "Rights") "passing") d37 := f37
  obtain ⟨d38, f38⟩ := c.d.def_ 38 (d := dD "_law_bag" sBag) rfl
  have F38 : FnP K "_law_bag" sBag (He.ga K "_law_bag") d38 := f38
  obtain ⟨d39, f39⟩ := c.d.def_ 39 (d := dD "_law_take" sTake) rfl
  have F39 : FnP K "_law_take" sTake (He.ga K "_law_take") d39 := f39
  obtain ⟨d40, f40⟩ := c.d.def_ 40 (d := dD "_law_of" sOf) rfl
  have F40 : FnP K "_law_of" sOf (He.ga K "_law_of") d40 := f40
  obtain ⟨d41, f41⟩ := c.d.def_ 41 (d := dD "_law_mixed" sMixed) rfl
  have F41 : FnP K "_law_mixed" sMixed (He.ga K "_law_mixed") d41 := f41
  obtain ⟨d42, f42⟩ := c.d.def_ 42 (d := dD "_law_names" sNames) rfl
  have F42 : FnP K "_law_names" sNames (He.ga K "_law_names") d42 := f42
  obtain ⟨d43, f43⟩ := c.d.def_ 43 (d := dD "_law_river" sLRiver) rfl
  have F43 : FnP K "_law_river" sLRiver (He.ga K "_law_river") d43 := f43
  obtain ⟨d44, f44⟩ := c.d.def_ 44 (d := dD "_law_course" sLCourse) rfl
  have F44 : FnP K "_law_course" sLCourse (He.ga K "_law_course") d44 := f44
  obtain ⟨d45, f45⟩ := c.d.def_ 45 (d := dD "_law_right_names" sRNames) rfl
  have F45 : FnP K "_law_right_names" sRNames (He.ga K "_law_right_names") d45 := f45
  obtain ⟨d46, f46⟩ := c.d.def_ 46 (d := dD "_law_rights" sLRights) rfl
  have F46 : FnP K "_law_rights" sLRights (He.ga K "_law_rights") d46 := f46
  obtain ⟨d47, f47⟩ := c.d.def_ 47 (d := dD "_law_way" sLWay) rfl
  have F47 : FnP K "_law_way" sLWay (He.ga K "_law_way") d47 := f47
  obtain ⟨d48, f48⟩ := c.d.def_ 48 (d := dD "_law_meets" sLMeets) rfl
  have F48 : FnP K "_law_meets" sLMeets (He.ga K "_law_meets") d48 := f48
  obtain ⟨d49, f49⟩ := c.d.def_ 49 (d := dD "_law_drawn_round" sLDrawn) rfl
  have F49 : FnP K "_law_drawn_round" sLDrawn (He.ga K "_law_drawn_round") d49 := f49
  obtain ⟨d50, f50⟩ := c.d.def_ 50 (d := dD "_law_ahead" sLAhead) rfl
  have F50 : FnP K "_law_ahead" sLAhead (He.ga K "_law_ahead") d50 := f50
  obtain ⟨d51, f51⟩ := c.d.def_ 51 (d := dD "_law_is_round" sLIsRound) rfl
  have F51 : FnP K "_law_is_round" sLIsRound (He.ga K "_law_is_round") d51 := f51
  obtain ⟨d52, f52⟩ := c.d.def_ 52 (d := dD "_law_next" sLNext) rfl
  have F52 : FnP K "_law_next" sLNext (He.ga K "_law_next") d52 := f52
  obtain ⟨d53, f53⟩ := c.d.def_ 53 (d := dD "_law_shrunk_right" sLShrunkR) rfl
  have F53 : FnP K "_law_shrunk_right" sLShrunkR (He.ga K "_law_shrunk_right") d53 := f53
  obtain ⟨d54, f54⟩ := c.d.def_ 54 (d := dD "_law_rounds_right" sLRounds) rfl
  have F54 : FnP K "_law_rounds_right" sLRounds (He.ga K "_law_rounds_right") d54 := f54
  obtain ⟨d55, f55⟩ := c.d.def_ 55 (d := dD "law" sLaw) rfl
  have F55 : FnP K "law" sLaw (He.ga K "law") d55 := f55
  obtain ⟨tS, eS⟩ := He.str_ok X G (c.d.fact 64 (f := .str "SEA" "sea") rfl)
  obtain ⟨tM, eM⟩ := He.int_ok X G (c.d.fact 65 (f := .int "MOST_ROWS" 40) rfl)
  obtain ⟨tL, eL⟩ := He.int_ok X G (c.d.fact 66 (f := .int "LONGEST_NAME" 8) rfl)
  obtain ⟨hR, hx⟩ := He.ba c.more
  obtain ⟨hG, hLn⟩ := He.ba hx
  obtain ⟨s3, s3'⟩ := spB_ok hLn
  obtain ⟨s1, s1'⟩ := spB_ok hR
  obtain ⟨s2, s2'⟩ := spB_ok hG
  have B : Bl mg := ⟨(He.free_ok X G (c.d.fact 44 (f := .free "len") rfl)), (He.free_ok X G (c.d.fact 45 (f := .free "enumerate") rfl)), (He.free_ok X G (c.d.fact 46 (f := .free "int") rfl)), (He.free_ok X G (c.d.fact 47 (f := .free "abs") rfl)), (He.free_ok X G (c.d.fact 48 (f := .free "list") rfl)), (He.free_ok X G (c.d.fact 49 (f := .free "range") rfl)), (He.free_ok X G (c.d.fact 50 (f := .free "dict") rfl)), (He.free_ok X G (c.d.fact 51 (f := .free "tuple") rfl)), (He.free_ok X G (c.d.fact 52 (f := .free "isinstance") rfl)), (He.free_ok X G (c.d.fact 53 (f := .free "str") rfl)), (He.free_ok X G (c.d.fact 54 (f := .free "all") rfl)), (He.free_ok X G (c.d.fact 55 (f := .free "any") rfl)), (He.free_ok X G (c.d.fact 56 (f := .free "bool") rfl)), (He.free_ok X G (c.d.fact 57 (f := .free "sorted") rfl)), (He.free_ok X G (c.d.fact 58 (f := .free "max") rfl)), (He.free_ok X G (c.d.fact 59 (f := .free "min") rfl)), (He.free_ok X G (c.d.fact 60 (f := .free "iter") rfl)), (He.free_ok X G (c.d.fact 61 (f := .free "super") rfl)), (He.free_ok X G (c.d.fact 62 (f := .free "ValueError") rfl))⟩
  have C : Gc mg tS tM tL := ⟨eS, eM, eL⟩
  have T : Rv K mg (He.ga K "River") := ⟨He.cls_ok (c.d.fact 67 (f := .cls "River") rfl), He.noat_ok (c.d.fact 71 (f := .noat "River" "weirs") rfl), He.noat_ok (c.d.fact 72 (f := .noat "River" "_rows") rfl), He.noat_ok (c.d.fact 73 (f := .noat "River" "_below") rfl), He.noat_ok (c.d.fact 74 (f := .noat "River" "_courses") rfl), He.noat_ok (c.d.fact 75 (f := .noat "River" "_above") rfl), He.noat_ok (c.d.fact 76 (f := .noat "River" "_upstream") rfl), He.noat_ok (c.d.fact 77 (f := .noat "River" "_deepest_first") rfl), (He.glo_ok X G (c.d.fact 22 (f := .glo "River") rfl))⟩
  have TG : Rg K mg (He.ga K "Rights") := ⟨He.cls_ok (c.d.fact 69 (f := .cls "Rights") rfl), He.noat_ok (c.d.fact 78 (f := .noat "Rights" "river") rfl), He.noat_ok (c.d.fact 79 (f := .noat "Rights" "names") rfl), He.noat_ok (c.d.fact 80 (f := .noat "Rights" "_rows") rfl), He.noat_ok (c.d.fact 81 (f := .noat "Rights" "_ways") rfl), He.noat_ok (c.d.fact 82 (f := .noat "Rights" "_lasts") rfl), He.noat_ok (c.d.fact 83 (f := .noat "Rights" "_passing") rfl), (He.glo_ok X G (c.d.fact 25 (f := .glo "Rights") rfl))⟩
  have S : Sc K (He.ga K "River") := ⟨⟨_, _, F25, s1, s1'⟩⟩
  have SG : Gm K (He.ga K "Rights") := ⟨⟨_, _, F31, s2, s2'⟩⟩
  have DW : NdS PP w K mg base (He.ga K "River") := ⟨⟨_, _, F0, (He.glo_ok X G (c.d.fact 0 (f := .glo "need_weir") rfl)), ok_needS F0 S T B⟩⟩
  have D : NdG PP w K mg base (He.ga K "Rights") (He.ga K "River") := ⟨⟨_, _, F1, (He.glo_ok X G (c.d.fact 1 (f := .glo "need_right") rfl)), ok_needG F1 SG TG B⟩⟩
  have Mfr : Mf K mg := ⟨⟨_, _, F14, (He.glo_ok X G (c.d.fact 14 (f := .glo "is_name") rfl))⟩, ⟨_, _, F20, (He.glo_ok X G (c.d.fact 15 (f := .glo "is_row_rivers") rfl))⟩, ⟨_, _, F21, (He.glo_ok X G (c.d.fact 16 (f := .glo "need_rows_rivers") rfl))⟩, ⟨_, _, F15, (He.glo_ok X G (c.d.fact 17 (f := .glo "_course") rfl))⟩, ⟨_, _, F16, (He.glo_ok X G (c.d.fact 18 (f := .glo "_find_courses") rfl))⟩, ⟨_, _, F17, (He.glo_ok X G (c.d.fact 19 (f := .glo "_directly_above") rfl))⟩, ⟨_, _, F18, (He.glo_ok X G (c.d.fact 20 (f := .glo "_find_upstream") rfl))⟩, ⟨_, _, F19, (He.glo_ok X G (c.d.fact 21 (f := .glo "_order_by_depth") rfl))⟩⟩
  have Gg : Mg PP w K mg base (He.ga K "Rights") (He.ga K "River") := ⟨⟨_, _, F14, (He.glo_ok X G (c.d.fact 14 (f := .glo "is_name") rfl))⟩, ⟨_, _, F22, (He.glo_ok X G (c.d.fact 23 (f := .glo "is_row_rights") rfl))⟩, ⟨_, _, F23, (He.glo_ok X G (c.d.fact 24 (f := .glo "need_rows_rights") rfl))⟩, ⟨_, _, F26, He.meth_ok (c.d.fact 84 (f := .meth "River" "is_down") rfl)⟩, ⟨_, _, F27, He.meth_ok (c.d.fact 85 (f := .meth "River" "way") rfl)⟩, ⟨_, _, F34, He.meth_ok (c.d.fact 89 (f := .meth "Rights" "_those_over") rfl)⟩, DW, S⟩
  have M : Gk K (He.ga K "Rights") (He.ga K "River") := ⟨⟨_, _, F35, He.meth_ok (c.d.fact 90 (f := .meth "Rights" "last") rfl)⟩, ⟨_, _, F36, He.meth_ok (c.d.fact 91 (f := .meth "Rights" "way") rfl)⟩, ⟨_, _, F37, He.meth_ok (c.d.fact 92 (f := .meth "Rights" "passing") rfl)⟩, ⟨_, _, F28, He.meth_ok (c.d.fact 86 (f := .meth "River" "depth") rfl)⟩, ⟨_, _, F29, He.meth_ok (c.d.fact 87 (f := .meth "River" "course") rfl)⟩⟩
  have HH : Hf K mg := ⟨B, ⟨_, _, F39, (He.glo_ok X G (c.d.fact 27 (f := .glo "_law_take") rfl))⟩, ⟨_, _, F40, (He.glo_ok X G (c.d.fact 28 (f := .glo "_law_of") rfl))⟩, ⟨_, _, F41, (He.glo_ok X G (c.d.fact 29 (f := .glo "_law_mixed") rfl))⟩, ⟨_, _, F42, (He.glo_ok X G (c.d.fact 30 (f := .glo "_law_names") rfl))⟩⟩
  have LN : Ln K (He.ga K "Rights") := ⟨⟨_, _, F32, s3, s3'⟩⟩
  exact ⟨tS, tM, tL, B, C, T, TG, (He.free_ok X G (c.d.fact 63 (f := .free "set") rfl)), ⟨_, _, F24, He.mkr_ok (c.d.fact 68 (f := .mkr "River") rfl)⟩, ⟨_, _, F30, He.mkr_ok (c.d.fact 70 (f := .mkr "Rights") rfl)⟩, ⟨_, _, F33, He.meth_ok (c.d.fact 88 (f := .meth "Rights" "rows") rfl)⟩, ⟨_, _, F37, He.meth_ok (c.d.fact 92 (f := .meth "Rights" "passing") rfl)⟩, Mfr, Gg, LN, SG, M, D, ⟨_, _, F2, (He.glo_ok X G (c.d.fact 2 (f := .glo "need_different") rfl))⟩, ⟨_, _, F3, (He.glo_ok X G (c.d.fact 3 (f := .glo "_first_free") rfl))⟩, ⟨_, _, F4, (He.glo_ok X G (c.d.fact 4 (f := .glo "_line") rfl))⟩, ⟨_, _, F5, (He.glo_ok X G (c.d.fact 5 (f := .glo "turned") rfl))⟩, ⟨_, _, F6, (He.glo_ok X G (c.d.fact 6 (f := .glo "_ring_at") rfl))⟩, ⟨_, _, F7, (He.glo_ok X G (c.d.fact 7 (f := .glo "_first_ring") rfl))⟩, ⟨_, _, F8, (He.glo_ok X G (c.d.fact 8 (f := .glo "line_up") rfl))⟩, ⟨_, _, F9, (He.glo_ok X G (c.d.fact 9 (f := .glo "_all_follow") rfl))⟩, ⟨_, _, F10, (He.glo_ok X G (c.d.fact 10 (f := .glo "goes_round") rfl))⟩, ⟨_, _, F11, (He.glo_ok X G (c.d.fact 11 (f := .glo "_deepest") rfl))⟩, ⟨_, _, F12, (He.glo_ok X G (c.d.fact 12 (f := .glo "_shrunk_once") rfl))⟩, ⟨_, _, F13, (He.glo_ok X G (c.d.fact 13 (f := .glo "shrunk") rfl))⟩, ⟨_, _, F38, (He.glo_ok X G (c.d.fact 26 (f := .glo "_law_bag") rfl))⟩, HH, ⟨_, _, F43, (He.glo_ok X G (c.d.fact 31 (f := .glo "_law_river") rfl))⟩, ⟨_, _, F44, (He.glo_ok X G (c.d.fact 32 (f := .glo "_law_course") rfl))⟩, ⟨_, _, F45, (He.glo_ok X G (c.d.fact 33 (f := .glo "_law_right_names") rfl))⟩, ⟨_, _, F46, (He.glo_ok X G (c.d.fact 34 (f := .glo "_law_rights") rfl))⟩, ⟨_, _, F47, (He.glo_ok X G (c.d.fact 35 (f := .glo "_law_way") rfl))⟩, ⟨_, _, F48, (He.glo_ok X G (c.d.fact 36 (f := .glo "_law_meets") rfl))⟩, ⟨_, _, F49, (He.glo_ok X G (c.d.fact 37 (f := .glo "_law_drawn_round") rfl))⟩, ⟨_, _, F50, (He.glo_ok X G (c.d.fact 38 (f := .glo "_law_ahead") rfl))⟩, ⟨_, _, F51, (He.glo_ok X G (c.d.fact 39 (f := .glo "_law_is_round") rfl))⟩, ⟨_, _, F52, (He.glo_ok X G (c.d.fact 40 (f := .glo "_law_next") rfl))⟩, ⟨_, _, F53, (He.glo_ok X G (c.d.fact 41 (f := .glo "_law_shrunk_right") rfl))⟩, ⟨_, _, F54, (He.glo_ok X G (c.d.fact 42 (f := .glo "_law_rounds_right") rfl))⟩⟩
theorem facts {w : World} {K : Frag} {h : Heap} {mg : Str → Option Value} {f : Addr} (X : K.In h) (G : h.Ns mainGlobals mg) (hfa : mg ("law" : Str) = some (.ref f)) (c : SaysY K) :
    ∃ fd : FuncData, (∀ (s : Shared) (v : Value), BindsTo s fd ⟨[v], []⟩ [("_law_script", v)]) ∧ ∀ base : Heap, K.In base → base.Ns mainGlobals mg → FnOk PP w K mg base CX0 9 f fd ["_law_script"] (spLaw K) := by
  obtain ⟨fd, fL⟩ := c.d.def_ 55 (d := dD "law" sLaw) rfl
  have e := hfa.symm.trans (He.glo_ok X G (c.d.fact 43 (f := .glo "law") rfl))
  cases e
  have F : FnP K "law" sLaw (He.ga K "law") fd := fL
  have b := FunD.bindsA (ps := ["_law_script"]) F fun _ _ _ _ _ _ us hl => match us, hl with | [_], _ => rfl
  exact ⟨fd, fun s v => b s [v] rfl, fun base _ _ => by
    obtain ⟨tS, tM, tL, hA⟩ := all_ok (w := w) (base := base) X G c
    exact ok_law F hA⟩
end K0H
open PySem PySem.W PySem.Calls PyProof.Rows
theorem PySem.Challenge.cw_weirkeepers_k10_whole_rounds_shrunk_holds : PySem.Challenge.rw_weirkeepers_k10_whole_rounds_shrunk.Holds := by
  w_on; o_law
  refine HandSHeadRun.head_any (r := OpenLaw.row PySem.Challenge.rw_weirkeepers_k10_whole_rounds_shrunk) (q := view (OpenLaw.row PySem.Challenge.rw_weirkeepers_k10_whole_rounds_shrunk).prog [63]) (H := K0H.hk 4) (ob := K0H.ob) (M := 6000) (loose := K0H.loose) (d := HandSHeadRun.topDef (OpenLaw.row PySem.Challenge.rw_weirkeepers_k10_whole_rounds_shrunk).prog 63) (kwd := []) K0H.ob_eq
    (by kernel_rfl) (fun s => by kernel_rfl) K0H.run (by kernel_rfl) (by kernel_rfl) (by kernel_rfl) (by rfl) (by first | assumption | decide +kernel) (by decide +kernel) ⟨rfl, rfl, rfl, rfl, rfl, by decide +kernel⟩ ?hw ?hc
  case hw => w_witness2
  case hc =>
    refine L2.walk_ofE (l := PySem.Challenge.rw_weirkeepers_k10_whole_rounds_shrunk) (n := 63) (k := 9) (x := "_law_script") (CX := L2.CX0) rfl (by decide) (by kernel_rfl) ⟨rfl, by decide, by decide⟩ ?F (fun _ _ _ _ z => z)
    intro w mg fa h Y G hmg0
    obtain ⟨K, KX, c⟩ := Y
    have hmg : mg ("law" : PySem.Str) = some (.ref fa) := by
      have e : (HandSHeadRun.topDef (OpenLaw.row PySem.Challenge.rw_weirkeepers_k10_whole_rounds_shrunk).prog 63).name = ("law" : PySem.Str) := by kernel_rfl
      rw [← e]
      exact hmg0
    obtain ⟨fd, hb, hF⟩ := K0H.facts (w := w) KX G hmg c
    exact ⟨K, fd, K0.spLaw K, KX, hb, fun H a ns hl _ hS => ⟨a, ns, rfl, hS, hl, fun _ => rfl⟩, hF⟩
end
