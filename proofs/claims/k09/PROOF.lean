import PyProof.Rows.All
import Wide.All
import OpenK.AllK
import Wide.FinOn
import HandS.ForMost
import HandS.Defaults
import HandS.Walk
import PySem.Challenge.RW_weirkeepers_k09_whole_line_or_ring
import PySem.Str
import HandS.DictComp
import HandS.IsInst
import HandS.Flow
import KE.GoesEnum
import HandS.TupSets
import HandS.IterVal
import HandS.OwnEq
import KE.KOwnIter
import HandS.TupAny
import HandS.Strs
import KE.GoesMore
import PyProof.FString
import PyProof.FString4
import HandS.FStr
import HandS.FStrTup
import PyProof.ReprHeadsEmpty
import PyProof.ReprLen
import HandS.ExcInit
import HandS.Nested
import KE.KSuper
import KE.KExcSuper
import HandS.ExcIs
import HandS.ExcField
import HandS.TryOnly
import KE.KExcIs
import HandS.TryMany
import HandS.GenList
import KE.KDictPairs
import HandS.SetFor
import PyProof.SeqRoads2
import HandS.Text
import KE.KStateDown
import Lean
import HandS.Ends
import HandS.More
import HandS.Words
import HandS.WordsExc
import HandS.Head0
import HandS.Head1
import HandS.Head2
import HandS.HeadEnd
import HandS.HeadHook1
import HandS.HeadHook2
import HandS.HeadHook3
import HandS.HeadHook4
import HandS.HeadWalk

section
set_option Elab.async false
set_option linter.all false
set_option maxRecDepth 100000
namespace K0
open PySem PySem.Spec PyProof.Rows L2
/-! ### the text by places -/
def top (i : Nat) : Stmt := PySem.Challenge.pw_weirkeepers_k09_whole_line_or_ring.main.body.getD i (.Pass ⟨0, 0, 0, 0⟩)
abbrev sNeed : Stmt := top 9
abbrev sNeedR : Stmt := top 10
abbrev sNeedDiff : Stmt := top 11
abbrev sMeet : Stmt := top 13
abbrev sPairsG : Stmt := top 14
abbrev sLinePairs : Stmt := top 16
abbrev sFirstFree : Stmt := top 17
abbrev sLine : Stmt := top 18
abbrev sTurned : Stmt := top 19
abbrev sRingAt : Stmt := top 20
abbrev sFirstRing : Stmt := top 21
abbrev sLineUp : Stmt := top 22
abbrev sIsName : Stmt := top 27
abbrev sIsRow : Stmt := top 28
abbrev sNeedRows : Stmt := top 30
abbrev sCourse : Stmt := top 32
abbrev sFind : Stmt := top 33
abbrev sAbove : Stmt := top 34
abbrev sUp : Stmt := top 35
abbrev sOrder : Stmt := top 36
abbrev sRiver : Stmt := top 37
abbrev sIsRowR : Stmt := top 39
abbrev sNeedRowsR : Stmt := top 41
abbrev sRights : Stmt := top 43
abbrev sBag : Stmt := top 45
abbrev sTake : Stmt := top 46
abbrev sOf : Stmt := top 47
abbrev sMixed : Stmt := top 48
abbrev sNames : Stmt := top 49
abbrev sLRiver : Stmt := top 50
abbrev sLCourse : Stmt := top 51
abbrev sRNames : Stmt := top 52
abbrev sLRights : Stmt := top 53
abbrev sLWay : Stmt := top 54
abbrev sLPairs : Stmt := top 55
abbrev sLAhead : Stmt := top 56
abbrev sLRing : Stmt := top 57
abbrev sLLine : Stmt := top 58
abbrev sLUp : Stmt := top 59
abbrev sLRefused : Stmt := top 60
abbrev sLPairsR : Stmt := top 61
abbrev sLaw : Stmt := top 62
abbrev FnP (K : PySem.W.Frag) (x : Str) (st : Stmt) (f : Addr) (fd : FuncData) : Prop := FunD K x x (defArgs st) (defBody st) (defScope st) [] [] f fd
abbrev FnM (K : PySem.W.Frag) (x q : Str) (st : Stmt) (f : Addr) (fd : FuncData) : Prop := FunD K x q (defArgs st) (defBody st) (defScope st) [] [] f fd
/-! ### heaps -/
/-- all that was tracked is as it was, but what stands at p -/
def Upto (p : Addr) (H H' : Hp) : Prop := ∀ b o, H b = some o → b ≠ p → H' b = some o
theorem Upto.refl {p : Addr} {H : Hp} : Upto p H H := fun _ _ h _ => h
theorem Upto.trans {p : Addr} {H H1 H2 : Hp} (a : Upto p H H1) (b : Upto p H1 H2) : Upto p H H2 := fun c o h n => b c o (a c o h n) n
theorem Upto.of {p : Addr} {H H' : Hp} (s : Same H H') : Upto p H H' := fun b o h _ => s b o h
theorem Upto.at_ {p : Addr} {H : Hp} {o : HO} : Upto p H (upd H p o) := fun b u h n => by rw [upd_ne n]; exact h
theorem same_upd {H : Hp} {p : Addr} {o : HO} (h : H p = none) : Same H (upd H p o) := fun b x e => by
  rw [upd_ne (ne_of_none e h)]
  exact e
theorem Upto.seq {K : PySem.W.Frag} {p : Addr} {H H' : Hp} {a : Addr} {xs : List V} (e : Upto p H H') (n : a ≠ p) (h : SqL K H a xs) : SqL K H' a xs := by
  rcases h with (h | ⟨o, h⟩) | h
  · exact .inl (.inl (e _ _ h n))
  · exact .inl (.inr ⟨o, e _ _ h n⟩)
  · exact .inr h
/-- the bag: two whole numbers from 0 on -/
def BagV (xs : List V) : Prop := ∃ x y : Int, xs = [.int x, .int y] ∧ 0 ≤ x ∧ 0 ≤ y ∧ y < 2147483648
def BagAt (H : Hp) (p : Addr) : Prop := ∃ xs, H p = some (.lst xs) ∧ BagV xs
/-! ### promises of the law's own helpers -/
def spBag (K : PySem.W.Frag) : Sp := fun vs H Q _ => ∃ (a : Addr) (ns : List Int) (i z : Int), vs = [.ref a, .int i, .int z] ∧ SqL K H a (ns.map V.int) ∧ ns.length ≤ 63 ∧ 0 ≤ i ∧ i ≤ 100 ∧ 0 ≤ z ∧ z ≤ 100000000 ∧
  ∀ H' p, Same H H' → H p = none → BagAt H' p → Q (.ref p) H'
def spTake : Sp := fun vs H Q _ => ∃ (p : Addr) (m : Int), vs = [.ref p, .int m] ∧ BagAt H p ∧ 0 < m ∧ m < 1000000 ∧
  ∀ (r : Int) (xs : List V), 0 ≤ r → r < m → BagV xs → Q (.int r) (upd H p (.lst xs))
def spOf (K : PySem.W.Frag) : Sp := fun vs H Q _ => ∃ (p a : Addr) (ys : List V), vs = [.ref p, .ref a] ∧ BagAt H p ∧ a ≠ p ∧ SqL K H a ys ∧ 0 < ys.length ∧ ys.length ≤ 1000 ∧
  ∀ (i : Nat) (v : V) (xs : List V), ys[i]? = some v → BagV xs → Q v (upd H p (.lst xs))
def spMixed (K : PySem.W.Frag) : Sp := fun vs H Q _ => ∃ (p a : Addr) (ys : List V), vs = [.ref p, .ref a] ∧ BagAt H p ∧ a ≠ p ∧ SqL K H a ys ∧ ys.length ≤ 1000 ∧
  ∀ (H' : Hp) (l : Addr) (zs : List V), Upto p H H' → BagAt H' p → H l = none → l ≠ p → H' l = some (.lst zs) → zs.Perm ys → Q (.ref l) H'
section
variable {P : Program} {w : World} {K : PySem.W.Frag} {mg : Str → Option Value} {base : Heap}
theorem scBag : FnScope ["_law_script", "_law_at", "_law_salt", "_law_cell", "_law_blend", "_law_k", "_law_each"] ["_law_script", "_law_at", "_law_salt"] (defScope sBag) := ⟨rfl, rfl, rfl, by decide +kernel, rfl, by decide +kernel, by decide +kernel⟩
theorem scTake : FnScope ["_law_bag_here", "_law_many", "_law_digit"] ["_law_bag_here", "_law_many"] (defScope sTake) := ⟨rfl, rfl, rfl, by decide +kernel, rfl, by decide +kernel, by decide +kernel⟩
theorem scOf : FnScope ["_law_bag_here", "_law_some"] ["_law_bag_here", "_law_some"] (defScope sOf) := ⟨rfl, rfl, rfl, by decide +kernel, rfl, by decide +kernel, by decide +kernel⟩
theorem scMixed : FnScope ["_law_bag_here", "_law_some", "_law_rest", "_law_found", "_law_k"] ["_law_bag_here", "_law_some"] (defScope sMixed) := ⟨rfl, rfl, rfl, by decide +kernel, rfl, by decide +kernel, by decide +kernel⟩
/-- built-in names that the module leaves alone -/
structure Bl (mg : Str → Option Value) : Prop where
  len : mg "len" = none
  enumerate : mg "enumerate" = none
  int : mg "int" = none
  abs : mg "abs" = none
  list : mg "list" = none
  range : mg "range" = none
  dict : mg "dict" = none
  tuple : mg "tuple" = none
  isinstance : mg "isinstance" = none
  str : mg "str" = none
  all : mg "all" = none
  any : mg "any" = none
  bool : mg "bool" = none
  sorted : mg "sorted" = none
  max : mg "max" = none
  min : mg "min" = none
  iter : mg "iter" = none
  super : mg "super" = none
  valueError : mg "ValueError" = none
end
end K0
end
section
set_option Elab.async false
set_option linter.all false
set_option maxRecDepth 100000
namespace K0
open PySem PySem.Spec PyProof.Rows L2
section
variable {P : Program} {w : World} {K : PySem.W.Frag} {mg : Str → Option Value} {base : Heap}
theorem mod_ok (x : Int) {m : Int} (h : 0 < m) : 0 ≤ x % m ∧ x % m < m := ⟨Int.emod_nonneg _ (by omega), Int.emod_lt_of_pos _ h⟩
theorem perm_move {α : Type} {rs fs : List α} {j : Nat} (hj : j < rs.length) : (rs.eraseIdx j ++ (fs ++ [rs[j]])).Perm (rs ++ fs) := by
  have h1 : (rs[j] :: rs.eraseIdx j).Perm rs := by
    have e : rs = rs.take j ++ rs[j] :: rs.drop (j + 1) := by
      rw [List.getElem_cons_drop, List.take_append_drop]
    rw [List.eraseIdx_eq_take_drop_succ]
    refine List.Perm.trans List.perm_middle.symm ?_
    rw [← e]
  have h2 : (rs.eraseIdx j ++ (fs ++ [rs[j]])).Perm ([rs[j]] ++ (rs.eraseIdx j ++ fs)) := by
    rw [← List.append_assoc]
    exact List.perm_append_comm
  exact h2.trans ((h1.append_right fs))
theorem ok_take {f : Addr} {fd : FuncData} (F : FnP K "_law_take" sTake f fd) (B : Bl mg) : FnOk P w K mg base CX0 1 f fd ["_law_bag_here", "_law_many"] spTake := by
  refine F.ok scTake (fun vs H Q E h => ?_) (fun cdv A outer s H vs Q E hr h => ?_)
  · obtain ⟨p, m, rfl, _⟩ := h
    rfl
  · obtain ⟨p, m, rfl, ⟨xs, hp, x, y, rfl, hx, hy, hy2⟩, hm, hm2, k⟩ := h
    refine ⟨_, PSs.nox (pss_cons (ps_if (pt_cmpR op_gt (pe_ix ix_list (pv 0) pe_int (fun _ _ => rfl)) pe_int (nomark _))
        (pss_cons (ps_set (i := 2) scTake.nd rfl (Or.inl rfl) (pe_op op_mod (pe_callTy call_int1 (by rfl) B.int (by decide +kernel) (pa_cons (pe_ix ix_list (pv 0) pe_int (fun _ _ => rfl)) pa_nil)) (pv 1)))
        (pss_cons (ps_asg (pe_op op_fdiv (pe_ix ix_list (pv 0) pe_int (fun _ _ => rfl)) (pv 1)) (pg_sub (pv 0) pe_int set_list))
        (pss_one (ps_ret (pv 2))))) pss_nil)
      (pss_cons (ps_asg (pe_op op_mod (pe_callTy call_int1 (by rfl) B.int (by decide +kernel) (pa_cons (pe_op op_add (pe_op op_mul (pe_ix ix_list (pv 0) pe_int (fun _ _ => rfl)) pe_int) pe_int) pa_nil)) pe_int) (pg_sub (pv 0) pe_int set_list))
      (pss_one (ps_ret (pe_op op_mod (pe_op op_fdiv (pe_op op_mod (pe_callTy call_int1 (by rfl) B.int (by decide +kernel) (pa_cons (pe_op op_mul (pe_op op_fdiv (pe_ix ix_list (pv 0) pe_int (fun _ _ => rfl)) pe_int) pe_int) pa_nil)) pe_int) pe_int) (pv 1)))))), ?_⟩
    have g0 : SqL K H p [.int x, .int y] := .inl (.inl hp)
    refine ⟨_, rfl, p, _, _, _, rfl, rfl, g0, atI_nat (j := 0) rfl, x, 0, rfl, rfl, _, rfl, ?_⟩
    refine ite2 (fun hx0 => ?_) (fun hx0 => ?_)
    · have r1 := mod_ok x hm
      refine ⟨_, rfl, p, _, _, _, rfl, rfl, g0, atI_nat (j := 0) rfl, .inl ⟨x, rfl, _, rfl, x, m, rfl, rfl, hm, ?_⟩⟩
      refine ⟨_, rfl, p, _, _, _, rfl, rfl, g0, atI_nat (j := 0) rfl, _, rfl, x, m, rfl, rfl, ⟨hm, by omega⟩, _, rfl, p, _, 0, 0, rfl, rfl, hp, rfl, ?_⟩
      refine ⟨_, rfl, ?_⟩
      exact k (x % m) [.int (x / m), .int y] r1.1 r1.2 ⟨x / m, y, rfl, Int.ediv_nonneg hx (by omega), hy, hy2⟩
    · have r1 := mod_ok (y * 38177 + 4001) (m := 2147483587) (by decide)
      refine ⟨_, rfl, p, _, _, _, rfl, rfl, g0, atI_nat (j := 1) rfl, y, 38177, rfl, rfl, .inl ⟨by omega, by omega⟩, _, _, rfl, rfl, .inl ⟨_, rfl, _, _, rfl, rfl, (by show (0 : Int) < 2147483587; decide), _, rfl, p, _, 1, 1, rfl, rfl, hp, rfl, ?_⟩⟩
      have gz : (upd H p (.lst (([V.int x, .int y] : List V).set 1 (.int ((y * 38177 + 4001) % 2147483587))))) p = some (.lst [.int x, .int ((y * 38177 + 4001) % 2147483587)]) := upd_same
      refine ⟨_, rfl, p, _, _, _, rfl, rfl, .inl (.inl gz), atI_nat (j := 1) rfl, _, 11, rfl, rfl, ⟨by decide, by decide⟩, _, 52817, rfl, rfl, .inl ⟨by omega, by omega⟩, .inl ⟨_, rfl, _, _, rfl, rfl, (by show (0 : Int) < 2147483629; decide), _, _, rfl, rfl, ⟨by decide, by decide⟩, _, rfl, _, m, rfl, rfl, hm, ?_⟩⟩
      have r2 := mod_ok ((y * 38177 + 4001) % 2147483587 / 11 * 52817 % 2147483629 / 32) hm
      exact k _ _ r2.1 r2.2 ⟨x, _, rfl, hx, r1.1, by omega⟩
theorem ok_of {f fT : Addr} {fd fdT : FuncData} (F : FnP K "_law_of" sOf f fd) (FT : FnP K "_law_take" sTake fT fdT) (B : Bl mg) (gT : mg "_law_take" = some (.ref fT)) : FnOk P w K mg base CX0 2 f fd ["_law_bag_here", "_law_some"] (spOf K) := by
  have GT : FnOk P w K mg base CX0 1 fT fdT ["_law_bag_here", "_law_many"] spTake := ok_take FT B
  have bT : Binds K fdT ["_law_bag_here", "_law_many"] [] := FT.bindsN fun _ _ _ _ _ _ us hl => match us, hl with | [_, _], _ => rfl
  refine F.ok scOf (fun vs H Q E h => ?_) (fun cdv A outer s H vs Q E hr h => ?_)
  · obtain ⟨p, a, ys, rfl, _⟩ := h
    rfl
  · obtain ⟨p, a, ys, rfl, hB, hne, hS, h0, h1, k⟩ := h
    refine ⟨_, PSs.nox (pss_one (ps_ret (pe_ix ix_list (pv 1) (pe_call GT hr (by rfl) gT FT.kp bT .nil pass0 (pa_cons (pv 0) (pa_cons (pe_callB call_len_seq (by rfl) B.len PySem.boot_len (pa_cons (pv 1) pa_nil)) pa_nil))) (fun _ _ => rfl)))), ?_⟩
    refine ⟨_, rfl, _, rfl, _, rfl, a, ys, rfl, .inl hS, p, (ys.length : Int), rfl, hB, by omega, by omega, fun r xs hr0 hr1 hx => ?_⟩
    obtain ⟨j, rfl⟩ : ∃ j : Nat, r = (j : Int) := ⟨r.toNat, by omega⟩
    have hj : j < ys.length := by omega
    refine ⟨a, ys, _, ys[j], rfl, rfl, ?_, atI_nat (j := j) (List.getElem?_eq_getElem hj), k j _ xs (List.getElem?_eq_getElem hj) hx⟩
    exact (Upto.at_ (p := p)).seq hne hS
theorem ok_mixed {f fT : Addr} {fd fdT : FuncData} (F : FnP K "_law_mixed" sMixed f fd) (FT : FnP K "_law_take" sTake fT fdT) (B : Bl mg) (gT : mg "_law_take" = some (.ref fT)) : FnOk P w K mg base CX0 2 f fd ["_law_bag_here", "_law_some"] (spMixed K) := by
  have GT : FnOk P w K mg base CX0 1 fT fdT ["_law_bag_here", "_law_many"] spTake := ok_take FT B
  have bT : Binds K fdT ["_law_bag_here", "_law_many"] [] := FT.bindsN fun _ _ _ _ _ _ us hl => match us, hl with | [_, _], _ => rfl
  refine F.ok scMixed (fun vs H Q E h => ?_) (fun cdv A outer s H vs Q E hr h => ?_)
  · obtain ⟨p, a, ys, rfl, _⟩ := h
    rfl
  · obtain ⟨p, a, ys, rfl, hB, hne, hS, h1, k⟩ := h
    refine ⟨_, PSs.nox (pss_cons (ps_par (i := 2) (j := 3) (by rfl) scMixed.nd rfl rfl (by decide) rfl rfl (pa_cons (pe_callTy call_list_of (by rfl) B.list (by decide +kernel) (pa_cons (pv 1) pa_nil)) (pa_cons (pe_lst pa_nil) pa_nil)) (by rfl))
      (pss_cons (ps_for PassesOwn.never rfl (pi_range1 (by rfl) B.range (pa_cons (pe_callB call_len_seq (by rfl) B.len PySem.boot_len (pa_cons (pv 1) pa_nil)) pa_nil)) (pg_name (i := 4) scMixed.nd rfl (Or.inl rfl))
        (pss_one (ps_expr (pe_bm PySem.F.plainAttrs_list PySem.F.slot_list_append PySem.F.type_list_append mt_append (pv 3)
          (pa_cons (pe_bm PySem.F.plainAttrs_list PySem.F.slot_list_pop PySem.F.type_list_pop mt_popAt (pv 2)
            (pa_cons (pe_call GT hr (by rfl) gT FT.kp bT .nil pass0 (pa_cons (pv 0) (pa_cons (pe_callB call_len_seq (by rfl) B.len PySem.boot_len (pa_cons (pv 2) pa_nil)) pa_nil))) pa_nil)) pa_nil)))))
      (pss_one (ps_ret (pv 3))))), ?_⟩
    refine ⟨_, rfl, a, ys, rfl, .inl hS, fun r nr => ⟨Nat.zero_le _, fun l nl => ?_⟩⟩
    have nrl : r ≠ l := ne_of_none upd_same nl
    have nl0 : H l = none := by
      rw [upd_ne nrl.symm] at nl
      exact nl
    obtain ⟨b0, hb0, hv0⟩ := id hB
    have npr : p ≠ r := ne_of_none hb0 nr
    have npl : p ≠ l := ne_of_none hb0 nl0
    have s1 : Same H (upd (upd H r (.lst ys)) l (.lst [])) := (same_upd nr).trans (same_upd nl)
    refine ⟨_, _, rfl, ?_⟩
    refine ⟨_, rfl, a, ys, rfl, .inl (s1.seq hS), (ys.length : Int), rfl, by omega, by omega, ?_⟩
    refine for_range (n := ys.length) (lo := 0) (fun i σ H2 => ∃ (v : Option V) (rs fs : List V), σ = [some (.ref p), some (.ref a), some (.ref r), some (.ref l), v] ∧ Upto p H H2 ∧ BagAt H2 p ∧ H2 r = some (.lst rs) ∧ H2 l = some (.lst fs) ∧ fs.length = i ∧ (rs ++ fs).Perm ys)
      ⟨none, ys, [], rfl, .of s1, ⟨b0, by rw [upd_ne npl, upd_ne npr]; exact hb0, hv0⟩, by rw [upd_ne nrl, upd_same], upd_same, rfl, by rw [List.append_nil]⟩ ?_ ?_
    · rintro i σ H2 hi ⟨v, rs, fs, rfl, u2, B2, hr2, hl2, hlen, hp⟩
      have hlr : rs.length + fs.length = ys.length := by
        have := hp.length_eq
        rw [List.length_append] at this
        exact this
      refine ⟨_, rfl, .inl ⟨rfl, _, .inl (.inl hl2)⟩, _, rfl, .inl ⟨rfl, _, .inl (.inl hr2)⟩, _, rfl, _, rfl, r, rs, rfl, .inl (.inl (.inl hr2)), p, (rs.length : Int), rfl, B2, by omega, by omega, fun d xs hd0 hd1 hx => ?_⟩
      obtain ⟨j, rfl⟩ : ∃ j : Nat, d = (j : Int) := ⟨d.toNat, by omega⟩
      have hj : j < rs.length := by omega
      refine ⟨r, rs, j, j, rs[j], rfl, rfl, by rw [upd_ne npr.symm]; exact hr2, by omega, by omega, ?_, List.getElem?_eq_getElem hj, ?_⟩
      · rw [seqIndex_of (by omega) (by omega)]
        rfl
      · refine ⟨l, fs, rs[j], rfl, rfl, by rw [upd_ne nrl.symm, upd_ne npl.symm]; exact hl2, small1000 (by omega), ?_⟩
        refine ⟨_, rs.eraseIdx j, fs ++ [rs[j]], rfl, ?_, ⟨xs, by rw [upd_ne npl, upd_ne npr, upd_same], hx⟩, by rw [upd_ne nrl, upd_same], upd_same, by simp [hlen], ?_⟩
        · intro b o hb hn
          rw [upd_ne (ne_of_none hb nl0), upd_ne (ne_of_none hb nr), upd_ne hn]
          exact u2 b o hb hn
        · refine List.Perm.trans ?_ hp
          exact perm_move hj
    · rintro σ H2 ⟨v, rs, fs, rfl, u2, B2, hr2, hl2, hlen, hp⟩
      have hlr : rs.length + fs.length = ys.length := by
        have := hp.length_eq
        rw [List.length_append] at this
        exact this
      have e : rs = [] := List.eq_nil_of_length_eq_zero (by omega)
      subst e
      exact ⟨_, rfl, k H2 l fs u2 B2 nl0 npl.symm hl2 hp⟩
end
end K0
end
section
set_option Elab.async false
set_option linter.all false
set_option maxRecDepth 100000
namespace K0
open PySem PySem.Spec PyProof.Rows L2
theorem split_if {α : Type} {C : α → Prop} {G : Prop} (use : (∀ c, C c) → G) (key : ∀ c, C c) : G := use key
section
variable {P : Program} {w : World} {K : PySem.W.Frag} {mg : Str → Option Value} {base : Heap}
theorem cutV_sub {xs : List V} {a b : Option Int} {v : V} (h : v ∈ cutV xs a b) : v ∈ xs := by
  unfold cutV at h
  exact List.mem_of_mem_drop (List.mem_of_mem_take h)
theorem cutV_len {xs : List V} {a b : Option Int} : (cutV xs a b).length ≤ xs.length := by
  unfold cutV
  rw [List.length_take, List.length_drop]
  omega
theorem ok_bag {f : Addr} {fd : FuncData} (F : FnP K "_law_bag" sBag f fd) (B : Bl mg) : FnOk P w K mg base CX0 1 f fd ["_law_script", "_law_at", "_law_salt"] (spBag K) := by
  refine F.ok scBag (fun vs H Q E h => ?_) (fun cdv A outer s H vs Q E hr h => ?_)
  · obtain ⟨a, ns, i, z, rfl, _⟩ := h
    rfl
  · obtain ⟨a, ns, i, z, rfl, hS, hl, hi, hi2, hz, hz2, k⟩ := h
    refine ⟨_, PSs.nox (pss_cons
      (ps_set (i := 3) scBag.nd rfl (Or.inl rfl) (pe_ifExp (pt_cmpR op_lt (pv 1) (pe_callB call_len_seq (by rfl) B.len PySem.boot_len (pa_cons (pv 0) pa_nil)) (nomark _)) (pe_ix ix_list (pv 0) (pv 1) (fun _ _ => rfl)) pe_int))
      (pss_cons
      (ps_set (i := 4) scBag.nd rfl (Or.inl rfl) (pe_op op_add (pv 2) (pe_op op_mul pe_int (pv 1))))
      (pss_cons
      (ps_for PassesOwn.never rfl (pi_enum (by rfl) B.enumerate (pa_cons (pe_slice sl_list (pv 0) po_none (po_some pe_int)) pa_nil)) (pg_tup (by rfl) (pgs_cons (pg_name (i := 5) scBag.nd rfl (Or.inl rfl)) (pgs_cons (pg_name (i := 6) scBag.nd rfl (Or.inl rfl)) pgs_nil))) (pss_one
      (ps_set (i := 4) scBag.nd rfl (Or.inl rfl) (pe_op op_mod (pe_callTy call_int1 (by rfl) B.int (by decide +kernel) (pa_cons (pe_op op_add (pe_op op_add (pe_op op_add (pe_op op_mul (pv 4) pe_int) (pe_op op_mod (pe_callTy call_int1 (by rfl) B.int (by decide +kernel) (pa_cons (pv 6) pa_nil)) pe_int)) (pe_op op_mul pe_int (pv 5))) pe_int) pa_nil)) pe_int))))
      (pss_one
      (ps_ret (pe_lst (pa_cons (pe_ifExp (pt_cmpR op_ge (pe_callB call_abs (by rfl) B.abs (by decide +kernel) (pa_cons (pv 3) pa_nil)) (pe_op op_pow pe_int pe_int) (nomark _)) (pe_callB call_abs (by rfl) B.abs (by decide +kernel) (pa_cons (pv 3) pa_nil)) pe_int) (pa_cons (pv 4) pa_nil)))))))), ?_⟩
    refine ⟨_, rfl, _, rfl, a, _, rfl, .inl hS, i, (((ns.map V.int).length : Nat) : Int), rfl, rfl, _, rfl, ?_⟩
    refine split_if (α := Int) (C := ?C) ?use ?key
    case use =>
      intro key
      refine ite2 (fun hc => ?_) (fun hc => ?_)
      · have hc := of_decide_eq_true hc
        obtain ⟨j, ej⟩ : ∃ j : Nat, i = (j : Int) := ⟨i.toNat, by omega⟩
        rw [List.length_map] at hc
        have hj : j < ns.length := by omega
        obtain ⟨c, hcv⟩ : ∃ c : Int, (ns.map V.int)[j]? = some (.int c) := ⟨ns[j], by rw [List.getElem?_map, List.getElem?_eq_getElem hj]; rfl⟩
        refine ⟨_, rfl, _, rfl, a, _, _, _, rfl, rfl, hS, at_of ej hcv, ?_⟩
        exact key c
      · exact key 0
    case key =>
      intro c
      refine ⟨_, rfl, _, rfl, 1009, i, rfl, rfl, .inl ⟨by decide, by decide⟩, z, _, rfl, rfl, ?_⟩
      refine ⟨_, rfl, 63, rfl, a, _, rfl, hS, fun q nq => ⟨q, _, rfl, .inl (.inl upd_same), ?_⟩⟩
      refine for_it (walk_enum (xs := cutV (ns.map V.int) none (some 63))) (fun t σ H2 => ∃ (b : Int) (v1 v2 : Option V), σ = [some (.ref a), some (.int i), some (.int z), some (.int c), some (.int b), v1, v2] ∧ 0 ≤ b ∧ b < 2147483648 ∧ Same H H2 ∧ H2 q = some (.lst (cutV (ns.map V.int) none (some 63))))
        ⟨_, none, none, rfl, by omega, by omega, same_upd nq, upd_same⟩ (fun _ _ _ _ h => by obtain ⟨_, _, _, _, _, _, _, e⟩ := h; exact .inl (.inl e)) ?_ ?_
      · rintro t x σ H2 H3 ht ⟨b, v1, v2, rfl, hb0, hb1, sm, hq⟩ ⟨T, x1, x2, rfl, hT, rfl, e1, e2⟩
        have nq2 : q ≠ T := ne_of_none hq hT
        have ex1 : x1 = .int (t : Int) := (Option.some.inj e1).symm
        have hx2 : ∃ y : Int, x2 = .int y := by
          obtain ⟨y, _, ey⟩ := List.mem_map.mp (cutV_sub (List.mem_of_getElem? e2))
          exact ⟨y, ey.symm⟩
        obtain ⟨y, rfl⟩ := hx2
        subst ex1
        have ht' : t < 63 := by
          have h1 := cutV_len (xs := ns.map V.int) (a := none) (b := some 63)
          rw [List.length_map] at h1
          omega
        have r1 := mod_ok y (m := 2147483549) (by decide)
        have r2 := mod_ok (b * 44497 + y % 2147483549 + 71 * (t : Int) + 9) (m := 2147483549) (by decide)
        refine ⟨T, _, rfl, .inl (.inl upd_same), rfl, _, _, rfl, _, _, rfl, rfl, ?_⟩
        refine ⟨_, rfl, b, 44497, rfl, rfl, .inl ⟨by omega, by omega⟩, _, rfl, .inl ⟨y, rfl, _, _, rfl, rfl, (by show (0 : Int) < 2147483549; decide), _, _, rfl, rfl, ?_⟩⟩
        refine ⟨_, rfl, 71, (t : Int), rfl, rfl, .inl ⟨by decide, by decide⟩, _, _, rfl, rfl, _, _, rfl, rfl, .inl ⟨_, rfl, _, _, rfl, rfl, (by show (0 : Int) < 2147483549; decide), ?_⟩⟩
        refine ⟨_, _, _, rfl, r2.1, by omega, sm.trans (same_upd hT), ?_⟩
        rw [upd_ne nq2]
        exact hq
      · rintro σ H2 ⟨b, v1, v2, rfl, hb0, hb1, sm, hq⟩
        refine ⟨_, rfl, c, rfl, 10, 18, rfl, rfl, ⟨by decide, by decide, by decide⟩, _, _, rfl, rfl, _, rfl, ?_⟩
        have fin : ∀ (g : Int) (p : Addr), 0 ≤ g → H2 p = none → Q (.ref p) (upd H2 p (.lst [.int g, .int b])) := fun g p hg np =>
          k _ p (sm.trans (same_upd np)) (sm.free np) ⟨_, upd_same, g, b, rfl, hg, hb0, hb1⟩
        refine ite2 (fun _ => ?_) (fun _ => ?_)
        · refine ⟨_, rfl, c, rfl, _, rfl, by show 2 ≤ sizeLine; decide, fun p np => ?_⟩
          exact fin _ p (by split <;> omega) np
        · refine ⟨_, rfl, by show 2 ≤ sizeLine; decide, fun p np => ?_⟩
          exact fin 0 p (by omega) np
end
end K0
end
section
set_option linter.all false
namespace K0
open PySem
/-! ### names -/
def Low (c : Nat) : Prop := 97 ≤ c ∧ c ≤ 122
structure NameOk (x : Str) : Prop where
  one : 1 ≤ x.cps.toList.length
  most : x.cps.toList.length ≤ 8
  low : ∀ c ∈ x.cps.toList, Low c
theorem str_ext {x y : Str} (h : x.cps.toList = y.cps.toList) : x = y := by
  cases x with | mk a => cases y with | mk b =>
  have e : a = b := Array.ext' h
  rw [e]
theorem app_list (x y : Str) : (x ++ y).cps.toList = x.cps.toList ++ y.cps.toList := Array.toList_append
/-- the k-th mark, many names being asked for -/
def markL (many start k : Nat) : List Nat := [97 + (start + 5 * k) % 26] ++ (if 26 < many then [97 + k / 26] else [])
def shapeL (base mark : List Nat) (k : Nat) : Nat → List Nat
  | 0 => base ++ mark
  | 1 => mark ++ base
  | 2 => mark ++ base.take (k % (base.length + 1))
  | _ => base.take 1 ++ mark ++ base.drop 1
def seaL : List Nat := [115, 101, 97]
def seasL : List Nat := [115, 101, 97, 115]
def fixL (l : List Nat) : List Nat := if l = seaL then seasL else l
theorem markL_len (many start k : Nat) : (markL many start k).length = if 26 < many then 2 else 1 := by
  unfold markL
  split <;> rfl
theorem markL_inj {many start k j : Nat} (hm : many ≤ 52) (hk : k < many) (hj : j < many) (h : markL many start k = markL many start j) : k = j := by
  unfold markL at h
  have h1 := (List.cons_eq_cons.mp h).1
  by_cases c : 26 < many
  · have h2 := (List.cons_eq_cons.mp h).2
    rw [if_pos c, if_pos c] at h2
    have h3 := (List.cons_eq_cons.mp h2).1
    omega
  · omega
theorem markL_low {many start k : Nat} (hm : many ≤ 52) (hk : k < many) : ∀ c ∈ markL many start k, Low c := by
  intro c hc
  unfold markL at hc
  rcases List.mem_append.mp hc with h | h
  · rw [List.mem_singleton.mp h]
    constructor <;> omega
  · split at h
    · rw [List.mem_singleton.mp h]
      constructor <;> omega
    · cases h
theorem shape_mark {base m1 m2 : List Nat} {k j : Nat} {s : Nat} (hl : m1.length = m2.length) (h : shapeL base m1 k s = shapeL base m2 j s) : m1 = m2 := by
  match s, h with
  | 0, h => exact List.append_cancel_left h
  | 1, h => exact List.append_cancel_right h
  | 2, h => exact List.append_inj_left h hl
  | s + 3, h =>
    have h : base.take 1 ++ m1 ++ base.drop 1 = base.take 1 ++ m2 ++ base.drop 1 := h
    exact List.append_cancel_left (List.append_cancel_right h)
theorem shape_len {base m1 m2 : List Nat} {k j : Nat} {s : Nat} (hl : m1.length = m2.length) (hs : s ≠ 2) : (shapeL base m1 k s).length = (shapeL base m2 j s).length := by
  match s, hs with
  | 0, _ => simp [shapeL, hl]
  | 1, _ => simp [shapeL, hl]
  | s + 3, _ => simp [shapeL, hl]
theorem fix_mark {base : List Nat} {many start k j s : Nat} (h : fixL (shapeL base (markL many start k) k s) = fixL (shapeL base (markL many start j) j s)) : markL many start k = markL many start j := by
  have hl : (markL many start k).length = (markL many start j).length := by rw [markL_len, markL_len]
  have mixed : ∀ {k j : Nat}, shapeL base (markL many start k) k s = seaL → shapeL base (markL many start j) j s = seasL → markL many start k = markL many start j := by
    intro k j e1 e2
    have hl : (markL many start k).length = (markL many start j).length := by rw [markL_len, markL_len]
    by_cases hs : s = 2
    · subst hs
      have e1 : markL many start k ++ base.take (k % (base.length + 1)) = seaL := e1
      have e2 : markL many start j ++ base.take (j % (base.length + 1)) = seasL := e2
      have t1 : markL many start k = seaL.take (markL many start k).length := by rw [← e1, List.take_left']; rfl
      have t2 : markL many start j = seasL.take (markL many start j).length := by rw [← e2, List.take_left']; rfl
      rw [t1, t2, ← hl, markL_len]
      split <;> rfl
    · have q := shape_len (base := base) (k := k) (j := j) hl hs
      rw [e1, e2] at q
      exact absurd q (by decide)
  unfold fixL at h
  by_cases c1 : shapeL base (markL many start k) k s = seaL
  · rw [if_pos c1] at h
    by_cases c2 : shapeL base (markL many start j) j s = seaL
    · exact shape_mark hl (c1.trans c2.symm)
    · rw [if_neg c2] at h
      exact mixed c1 h.symm
  · rw [if_neg c1] at h
    by_cases c2 : shapeL base (markL many start j) j s = seaL
    · rw [if_pos c2] at h
      exact (mixed c2 h).symm
    · rw [if_neg c2] at h
      exact shape_mark hl h
theorem fix_inj {base : List Nat} {many start k j s : Nat} (hm : many ≤ 52) (hk : k < many) (hj : j < many) (h : fixL (shapeL base (markL many start k) k s) = fixL (shapeL base (markL many start j) j s)) : k = j :=
  markL_inj hm hk hj (fix_mark h)
theorem fix_ne (l : List Nat) : fixL l ≠ seaL := by
  unfold fixL
  split
  · decide
  · assumption
theorem shape_low {base mark : List Nat} {k s : Nat} (hb : ∀ c ∈ base, Low c) (hm : ∀ c ∈ mark, Low c) : ∀ c ∈ shapeL base mark k s, Low c := by
  have app : ∀ {a b : List Nat}, (∀ c ∈ a, Low c) → (∀ c ∈ b, Low c) → ∀ c ∈ a ++ b, Low c := fun h1 h2 c hc => (List.mem_append.mp hc).elim (h1 c) (h2 c)
  match s with
  | 0 => exact app hb hm
  | 1 => exact app hm hb
  | 2 => exact app hm fun c hc => hb c (List.mem_of_mem_take hc)
  | s + 3 => exact app (app (fun c hc => hb c (List.mem_of_mem_take hc)) hm) fun c hc => hb c (List.mem_of_mem_drop hc)
theorem shape_size {base mark : List Nat} {k s : Nat} (hb : base.length ≤ 6) (hm : 1 ≤ mark.length ∧ mark.length ≤ 2) : 1 ≤ (shapeL base mark k s).length ∧ (shapeL base mark k s).length ≤ 8 := by
  match s with
  | 0 => simp only [shapeL, List.length_append]; omega
  | 1 => simp only [shapeL, List.length_append]; omega
  | 2 => simp only [shapeL, List.length_append, List.length_take]; omega
  | s + 3 => simp only [shapeL, List.length_append, List.length_take, List.length_drop]; omega
theorem fix_low {l : List Nat} (h : ∀ c ∈ l, Low c) : ∀ c ∈ fixL l, Low c := by
  unfold fixL
  split
  · intro c hc
    have : c = 115 ∨ c = 101 ∨ c = 97 ∨ c = 115 := by simpa [seasL] using hc
    constructor <;> omega
  · exact h
theorem fix_size {l : List Nat} (h : 1 ≤ l.length ∧ l.length ≤ 8) : 1 ≤ (fixL l).length ∧ (fixL l).length ≤ 8 := by
  unfold fixL
  split
  · decide
  · exact h
/-! ### no name goes on from another one -/
theorem fix_take {l : List Nat} {n : Nat} (h : n ≤ 2) : (fixL l).take n = l.take n := by
  unfold fixL
  split
  · rename_i e
    subst e
    match n, h with
    | 0, _ => rfl
    | 1, _ => rfl
    | 2, _ => rfl
  · rfl
theorem fix_len (l : List Nat) : l.length ≤ (fixL l).length := by
  unfold fixL
  split
  · rename_i e
    subst e
    decide
  · exact Nat.le_refl _
theorem fix_on {base t : List Nat} {many start i j s : Nat} (hm : many ≤ 52) (hi : i < many) (hj : j < many) (ht : t ≠ []) (h1 : ∀ l, seasL = l ++ t → l.length = 3 → False)
    (h : fixL (shapeL base (markL many start j) j s) = fixL (shapeL base (markL many start i) i s) ++ t) : False := by
  have hl : (markL many start i).length = (markL many start j).length := by rw [markL_len, markL_len]
  have hmu : 1 ≤ (markL many start i).length ∧ (markL many start i).length ≤ 2 := by
    rw [markL_len]
    split <;> omega
  by_cases hs : s = 2
  · subst hs
    have e1 : (fixL (shapeL base (markL many start j) j 2)).take (markL many start j).length = markL many start j := by
      rw [fix_take (by omega)]
      exact List.take_left
    have e2 : (fixL (shapeL base (markL many start i) i 2)).take (markL many start i).length = markL many start i := by
      rw [fix_take (by omega)]
      exact List.take_left
    have hz : (markL many start i).length ≤ (fixL (shapeL base (markL many start i) i 2)).length := by
      refine Nat.le_trans ?_ (fix_len _)
      show _ ≤ (markL many start i ++ base.take (i % (base.length + 1))).length
      rw [List.length_append]
      omega
    have e3 : markL many start j = markL many start i := by
      rw [← e1, h, ← hl, List.take_append_of_le_length hz, e2]
    have e4 := markL_inj hm hj hi e3
    subst e4
    have := congrArg List.length h
    rw [List.length_append] at this
    exact ht (List.eq_nil_of_length_eq_zero (by omega))
  · have q := shape_len (base := base) (k := i) (j := j) hl hs
    have ht1 : 1 ≤ t.length := by
      cases t with
      | nil => exact absurd rfl ht
      | cons _ _ => rw [List.length_cons]; omega
    have hL := congrArg List.length h
    rw [List.length_append] at hL
    have hi2 := fix_len (shapeL base (markL many start i) i s)
    by_cases c : shapeL base (markL many start j) j s = seaL
    · have e1 : fixL (shapeL base (markL many start j) j s) = seasL := by unfold fixL; rw [if_pos c]
      rw [c] at q
      rw [e1] at hL h
      have q3 : seaL.length = 3 := rfl
      have q4 : seasL.length = 4 := rfl
      exact h1 _ h (by omega)
    · have e1 : fixL (shapeL base (markL many start j) j s) = shapeL base (markL many start j) j s := by unfold fixL; rw [if_neg c]
      rw [e1] at hL
      omega
theorem fix_gen {base t : List Nat} {many start i j s : Nat} (hm : many ≤ 52) (hi : i < many) (hj : j < many) (ht : t ≠ []) (hl : t.getLast? ≠ some 115) : fixL (shapeL base (markL many start j) j s) ≠ fixL (shapeL base (markL many start i) i s) ++ t := fun h =>
  fix_on hm hi hj ht (fun l e _ => by
    have := congrArg List.getLast? e
    rw [List.getLast?_append] at this
    cases q : t.getLast? with
    | none => exact ht (List.getLast?_eq_none_iff.mp q)
    | some c =>
      rw [q] at this
      have h2 : seasL.getLast? = some c := this
      have h3 : seasL.getLast? = some 115 := rfl
      rw [h3] at h2
      exact hl (by rw [q, ← h2])) h
theorem fix_q {base : List Nat} {many start i j s : Nat} (hm : many ≤ 52) (hi : i < many) (hj : j < many) : fixL (shapeL base (markL many start j) j s) ≠ fixL (shapeL base (markL many start i) i s) ++ [113] := fun h =>
  fix_on hm hi hj (by decide) (fun l e _ => by
    have := congrArg List.getLast? e
    rw [List.getLast?_append] at this
    have h2 : seasL.getLast? = some 113 := by rw [this]; rfl
    exact absurd h2 (by decide)) h
theorem fix_dd {base : List Nat} {many start i j s : Nat} (hm : many ≤ 52) (hi : i < many) (hj : j < many) : fixL (shapeL base (markL many start j) j s) ≠ fixL (shapeL base (markL many start i) i s) ++ fixL (shapeL base (markL many start i) i s) := fun h => by
  have hmu : 1 ≤ (markL many start i).length := by
    rw [markL_len]
    split <;> omega
  have hge : ∀ k, 1 ≤ (markL many start k).length → 1 ≤ (shapeL base (markL many start k) k s).length := fun k hk => by
    match s with
    | 0 => simp only [shapeL, List.length_append]; omega
    | 1 => simp only [shapeL, List.length_append]; omega
    | 2 => simp only [shapeL, List.length_append, List.length_take]; omega
    | s + 3 => simp only [shapeL, List.length_append, List.length_take, List.length_drop]; omega
  have h1 := Nat.le_trans (hge i hmu) (fix_len _)
  refine fix_on hm hi hj (fun z => by rw [z] at h1; exact absurd h1 (by decide)) (fun l e hl => ?_) h
  have e1 := congrArg List.length e
  rw [List.length_append, hl] at e1
  have q4 : seasL.length = 4 := rfl
  rw [q4] at e1
  have e2 := congrArg List.length h
  rw [List.length_append] at e2
  have e3 : (fixL (shapeL base (markL many start i) i s)).length = 1 := by omega
  have e4 : (fixL (shapeL base (markL many start j) j s)).length = 2 := by omega
  have hl2 : (markL many start i).length = (markL many start j).length := by rw [markL_len, markL_len]
  by_cases hs : s = 2
  · subst hs
    have f1 : (fixL (shapeL base (markL many start j) j 2)).take (markL many start j).length = markL many start j := by
      rw [fix_take (by rw [markL_len]; split <;> omega)]
      exact List.take_left
    have f2 : (fixL (shapeL base (markL many start i) i 2)).take (markL many start i).length = markL many start i := by
      rw [fix_take (by rw [markL_len]; split <;> omega)]
      exact List.take_left
    have hz : (markL many start i).length ≤ (fixL (shapeL base (markL many start i) i 2)).length := by
      refine Nat.le_trans ?_ (fix_len _)
      show _ ≤ (markL many start i ++ base.take (i % (base.length + 1))).length
      rw [List.length_append]
      omega
    have f3 : markL many start j = markL many start i := by
      rw [← f1, h, ← hl2, List.take_append_of_le_length hz, f2]
    have f4 := markL_inj hm hj hi f3
    subst f4
    omega
  · have q := shape_len (base := base) (k := i) (j := j) hl2 hs
    have g1 := fix_len (shapeL base (markL many start i) i s)
    unfold fixL at e4
    split at e4
    · revert e4
      decide
    · omega
end K0
end
section
set_option Elab.async false
set_option linter.all false
set_option maxRecDepth 100000
namespace K0
open PySem PySem.Spec PyProof.Rows L2
abbrev scNames_N : List Str := ["_law_bag_here", "_law_many", "_law_letters", "_law_base", "_law_start", "_law_shape", "_law_found", "_law_k", "_law_mark", "_law_some"]
abbrev scNames_S : Stmt := sNames
theorem scNames : FnScope scNames_N ["_law_bag_here", "_law_many"] (defScope sNames) := ⟨rfl, rfl, rfl, by decide +kernel, rfl, by decide +kernel, by decide +kernel⟩
/-- a list of unlike good names -/
structure NamesOk (ns : List Str) : Prop where
  ok : ∀ x ∈ ns, NameOk x
  sea : ∀ x ∈ ns, x ≠ "sea"
  nd : ns.Nodup
  qq : ∀ x ∈ ns, (x ++ ("q" : Str)) ∉ ns
  dd : ∀ x ∈ ns, (x ++ x) ∉ ns
  on : ∀ x ∈ ns, ∀ t : Str, t.cps.toList ≠ [] → t.cps.toList.getLast? ≠ some 115 → (x ++ t) ∉ ns
def spNames : Sp := fun vs H Q _ => ∃ (p : Addr) (m : Nat), vs = [.ref p, .int (m : Int)] ∧ BagAt H p ∧ m ≤ 52 ∧
  ∀ (H' : Hp) (l : Addr) (ns : List Str), Upto p H H' → BagAt H' p → H l = none → l ≠ p → H' l = some (.lst (ns.map V.str)) → ns.length = m → NamesOk ns → Q (.ref l) H'
theorem split_if' {α : Type} {R C : α → Prop} {G : Prop} (use : (∀ c, R c → C c) → G) (key : ∀ c, R c → C c) : G := use key
/-! ### texts -/
abbrev lettersT : Str := "abcdefghijklmnopqrstuvwxyz"
theorem letters_at : ∀ i : Nat, i < 26 → lettersT.cps[i]? = some (97 + i) := by decide +kernel
theorem letters_len : lettersT.length = 26 := by decide +kernel
theorem sea_list : ("sea" : Str).cps.toList = seaL := by decide +kernel
theorem seas_list : ("seas" : Str).cps.toList = seasL := by decide +kernel
theorem empty_list : ("" : Str).cps.toList = [] := by decide +kernel
def ofL (l : List Nat) : Str := ⟨l.toArray⟩
theorem ofL_list (l : List Nat) : (ofL l).cps.toList = l := rfl
theorem len_list (x : Str) : x.length = x.cps.toList.length := Array.length_toList.symm
theorem ofL_of (x : Str) : ofL x.cps.toList = x := str_ext rfl
theorem join_empty : ∀ cs : List Nat, (Str.join "" (cs.map fun c => ofL [c])).cps.toList = cs
  | [] => by decide +kernel
  | [c] => rfl
  | c :: d :: r => by
    have ih := join_empty (d :: r)
    show (ofL [c] ++ ("" : Str) ++ Str.join "" ((d :: r).map fun c => ofL [c])).cps.toList = c :: d :: r
    rw [app_list, app_list, empty_list, ih]
    rfl
theorem sum_ones (cs : List Nat) : ((cs.map fun c => ofL [c]).map (·.length)).sum = cs.length := by
  induction cs with
  | nil => rfl
  | cons c r ih =>
    rw [List.map_cons, List.map_cons, List.sum_cons, ih, List.length_cons]
    show 1 + r.length = r.length + 1
    omega
theorem cutS_take (z : Str) (n : Nat) : (cutS z none (some (n : Int))).cps.toList = z.cps.toList.take n := by
  unfold cutS
  rw [HT.sIx_none, HT.sIx_nat]
  show (z.cps.toList.drop 0).take (min n z.length - 0) = z.cps.toList.take n
  rw [List.drop_zero, Nat.sub_zero, len_list]
  exact (List.take_eq_take_min ..).symm
theorem cutS_drop (z : Str) (n : Nat) : (cutS z (some (n : Int)) none).cps.toList = z.cps.toList.drop n := by
  unfold cutS
  rw [HT.sIx_none, HT.sIx_nat]
  show (z.cps.toList.drop (min n z.length)).take (z.length - min n z.length) = z.cps.toList.drop n
  rw [len_list]
  by_cases h : n ≤ z.cps.toList.length
  · rw [Nat.min_eq_left h]
    exact List.take_of_length_le (by rw [List.length_drop]; omega)
  · rw [Nat.min_eq_right (by omega), Nat.sub_self, List.drop_of_length_le (Nat.le_refl _), List.drop_of_length_le (by omega)]
    rfl
theorem nodup_range {α : Type} (f : Nat → α) (m : Nat) (h : ∀ i j, i < m → j < m → f i = f j → i = j) : ((List.range m).map f).Nodup := by
  rw [List.Nodup, List.pairwise_map]
  refine List.Pairwise.imp_of_mem (fun {a b} ha hb hab e => hab (h a b (List.mem_range.mp ha) (List.mem_range.mp hb) e)) (List.nodup_range (n := m))
theorem ofL_inj {a b : List Nat} (h : ofL a = ofL b) : a = b := by
  have := congrArg (fun z : Str => z.cps.toList) h
  exact this
theorem names_ok {base : List Nat} {m st sh : Nat} (hb1 : ∀ c ∈ base, Low c) (hb2 : base.length ≤ 6) (hm2 : m ≤ 52) : NamesOk ((List.range m).map fun k => ofL (fixL (shapeL base (markL m st k) k sh))) := by
  refine ⟨?_, ?_, ?_, ?_, ?_, fun x hx t ht hl hq => ?_⟩
  rotate_left 5
  · obtain ⟨i, hi, rfl⟩ := List.mem_map.mp hx
    obtain ⟨j, hj, e⟩ := List.mem_map.mp hq
    have e2 := congrArg (fun z : Str => z.cps.toList) e
    have e3 : (ofL (fixL (shapeL base (markL m st i) i sh)) ++ t).cps.toList = fixL (shapeL base (markL m st i) i sh) ++ t.cps.toList := by
      rw [app_list]
      rfl
    exact fix_gen hm2 (List.mem_range.mp hi) (List.mem_range.mp hj) ht hl (e2.trans e3)
  · intro x hx
    obtain ⟨j, hj, rfl⟩ := List.mem_map.mp hx
    have hj := List.mem_range.mp hj
    have h1 := markL_low (start := st) hm2 hj
    have h2 : 1 ≤ (markL m st j).length ∧ (markL m st j).length ≤ 2 := by
      rw [markL_len]
      split <;> omega
    have h3 := fix_size (shape_size (k := j) (s := sh) hb2 h2)
    exact ⟨h3.1, h3.2, fix_low (shape_low hb1 h1)⟩
  · intro x hx e
    obtain ⟨j, hj, rfl⟩ := List.mem_map.mp hx
    have q : (ofL (fixL (shapeL base (markL m st j) j sh))).cps.toList = seaL := by rw [e]; exact sea_list
    exact fix_ne _ q
  · refine nodup_range _ _ fun i j hi hj e => ?_
    exact fix_inj hm2 hi hj (ofL_inj e)
  · intro x hx hq
    obtain ⟨i, hi, rfl⟩ := List.mem_map.mp hx
    obtain ⟨j, hj, e⟩ := List.mem_map.mp hq
    have e2 := congrArg (fun z : Str => z.cps.toList) e
    have e3 : (ofL (fixL (shapeL base (markL m st i) i sh)) ++ ("q" : Str)).cps.toList = fixL (shapeL base (markL m st i) i sh) ++ [113] := by
      rw [app_list]
      rfl
    exact fix_q hm2 (List.mem_range.mp hi) (List.mem_range.mp hj) (e2.trans e3)
  · intro x hx hq
    obtain ⟨i, hi, rfl⟩ := List.mem_map.mp hx
    obtain ⟨j, hj, e⟩ := List.mem_map.mp hq
    have e2 := congrArg (fun z : Str => z.cps.toList) e
    have e3 : (ofL (fixL (shapeL base (markL m st i) i sh)) ++ ofL (fixL (shapeL base (markL m st i) i sh))).cps.toList = fixL (shapeL base (markL m st i) i sh) ++ fixL (shapeL base (markL m st i) i sh) := by
      rw [app_list]
      rfl
    exact fix_dd hm2 (List.mem_range.mp hi) (List.mem_range.mp hj) (e2.trans e3)
section
variable {P : Program} {w : World} {K : PySem.W.Frag} {mg : Str → Option Value} {base : Heap}
theorem ok_names {f fT fO : Addr} {fd fdT fdO : FuncData} (F : FnP K "_law_names" sNames f fd) (F_law_take : FnP K "_law_take" sTake fT fdT) (F_law_of : FnP K "_law_of" sOf fO fdO) (B : Bl mg) (g_law_take : mg "_law_take" = some (.ref fT)) (g_law_of : mg "_law_of" = some (.ref fO)) :
    FnOk P w K mg base CX0 3 f fd ["_law_bag_here", "_law_many"] spNames := by
  have G_law_take : FnOk P w K mg base CX0 1 fT fdT ["_law_bag_here", "_law_many"] spTake := ok_take F_law_take B
  have b_law_take : Binds K fdT ["_law_bag_here", "_law_many"] [] := F_law_take.bindsN fun _ _ _ _ _ _ us hl => match us, hl with | [_, _], _ => rfl
  have G_law_of : FnOk P w K mg base CX0 2 fO fdO ["_law_bag_here", "_law_some"] (spOf K) := ok_of F_law_of F_law_take B g_law_take
  have b_law_of : Binds K fdO ["_law_bag_here", "_law_some"] [] := F_law_of.bindsN fun _ _ _ _ _ _ us hl => match us, hl with | [_, _], _ => rfl
  refine F.ok scNames (fun vs H Q E h => ?_) (fun cdv A outer s H vs Q E hr h => ?_)
  · obtain ⟨p, m, rfl, _⟩ := h
    rfl
  · obtain ⟨p, m, rfl, hB, hm2, k⟩ := h
    have hr_law_take : Room 1 _ := hr.mono (by decide)
    have hr_law_of : Room 2 _ := hr.mono (by decide)
    refine ⟨_, PSs.nox (pss_cons
      (ps_set (i := 2) scNames.nd rfl (Or.inr rfl) pe_str)
      (pss_cons
      (ps_set (i := 3) scNames.nd rfl (Or.inl rfl) (pe_join pe_str (pe_lc (own := [("_law_k", 7)]) (g := gName 7) (tt := tYes) (by rfl) scNames.nd (pi_range1 (by rfl) B.range (pa_cons (pe_call G_law_of hr_law_of (by rfl) g_law_of F_law_of.kp b_law_of .nil pass0 (pa_cons (pv 0) (pa_cons (pe_lst (pa_cons pe_int (pa_cons pe_int (pa_cons pe_int (pa_cons pe_int (pa_cons pe_int pa_nil)))))) pa_nil))) pa_nil)) (blkOk_by (own := [("_law_k", 7)]) (N := scNames_N) (sc := defScope scNames_S) (by decide +kernel)) (fun _ _ _ _ _ => (pg_name (i := 7) scNames.nd rfl (Or.inl rfl))) (fun _ _ _ _ _ => pts_nil) (fun _ _ _ _ _ => (pe_item_str (pv 2) (pe_call G_law_take hr_law_take (by rfl) g_law_take F_law_take.kp b_law_take .nil pass0 (pa_cons (pv 0) (pa_cons pe_int pa_nil))) (fun _ _ => rfl))))))
      (pss_cons
      (ps_par (i := 4) (j := 5) (by rfl) scNames.nd rfl rfl (by decide) rfl rfl (pa_cons (pe_call G_law_take hr_law_take (by rfl) g_law_take F_law_take.kp b_law_take .nil pass0 (pa_cons (pv 0) (pa_cons pe_int pa_nil))) (pa_cons (pe_call G_law_take hr_law_take (by rfl) g_law_take F_law_take.kp b_law_take .nil pass0 (pa_cons (pv 0) (pa_cons pe_int pa_nil))) pa_nil)) (by rfl))
      (pss_cons
      (ps_set (i := 6) scNames.nd rfl (Or.inl rfl) (pe_lst pa_nil))
      (pss_cons
      (ps_for PassesOwn.never rfl (pi_range1 (by rfl) B.range (pa_cons (pv 1) pa_nil)) (pg_name (i := 7) scNames.nd rfl (Or.inl rfl)) (pss_cons
      (ps_set (i := 8) scNames.nd rfl (Or.inl rfl) (pe_op op_add_str (pe_item_str (pv 2) (pe_op op_mod (pe_op op_add (pv 4) (pe_op op_mul pe_int (pv 7))) pe_int) (fun _ _ => rfl)) (pe_ifExp (pt_cmpR op_gt (pv 1) pe_int (nomark _)) (pe_item_str (pv 2) (pe_op op_fdiv (pv 7) pe_int) (fun _ _ => rfl)) pe_str)))
      (pss_cons
      (ps_set (i := 9) scNames.nd rfl (Or.inl rfl) (pe_lst (pa_cons (pe_op op_add_str (pv 3) (pv 8)) (pa_cons (pe_op op_add_str (pv 8) (pv 3)) (pa_cons (pe_op op_add_str (pv 8) (pe_slice sl_str (pv 3) po_none (po_some (pe_op op_mod (pv 7) (pe_op op_add (pe_callB call_len_str (by rfl) B.len PySem.boot_len (pa_cons (pv 3) pa_nil)) pe_int))))) (pa_cons (pe_op op_add_str (pe_op op_add_str (pe_slice sl_str (pv 3) po_none (po_some pe_int)) (pv 8)) (pe_slice sl_str (pv 3) (po_some pe_int) po_none)) pa_nil))))))
      (pss_one
      (ps_expr (pe_bm PySem.F.plainAttrs_list PySem.F.slot_list_append PySem.F.type_list_append mt_append (pv 6) (pa_cons (pe_ifExp (pt_cmpR op_eq (pe_ix ix_list (pv 9) (pv 5) (fun _ _ => rfl)) pe_str (nomark _)) pe_str (pe_ix ix_list (pv 9) (pv 5) (fun _ _ => rfl))) pa_nil)))))))
      (pss_one
      (ps_ret (pv 6)))))))), ?_⟩
    obtain ⟨b0, hb0, hv0⟩ := id hB
    refine ⟨⟨_, rfl⟩, _, rfl, by show 5 ≤ sizeLine; decide, fun q nq => ?_⟩
    have npq : p ≠ q := ne_of_none hb0 nq
    refine ⟨p, q, [.int 0, .int 0, .int 1, .int 2, .int 6], rfl, ⟨b0, by rw [upd_ne npq]; exact hb0, hv0⟩, npq.symm, .inl (.inl upd_same), by decide, by decide, fun i0 v b1 hv hx1 => ?_⟩
    obtain ⟨n, hn6, rfl⟩ : ∃ n : Nat, n ≤ 6 ∧ v = V.int (n : Int) := by
      have hm : v ∈ ([.int 0, .int 0, .int 1, .int 2, .int 6] : List V) := List.mem_of_getElem? hv
      simp only [List.mem_cons, List.not_mem_nil, or_false] at hm
      rcases hm with rfl | rfl | rfl | rfl | rfl
      · exact ⟨0, by omega, rfl⟩
      · exact ⟨0, by omega, rfl⟩
      · exact ⟨1, by omega, rfl⟩
      · exact ⟨2, by omega, rfl⟩
      · exact ⟨6, by omega, rfl⟩
    refine ⟨(n : Int), rfl, by omega, by omega, fun D hD => ?_⟩
    have u1 : Upto p H (upd (upd H q (.lst [.int 0, .int 0, .int 1, .int 2, .int 6])) p (.lst b1)) := (Upto.of (same_upd nq)).trans Upto.at_
    have npD : p ≠ D := fun e => by
      rw [← e, upd_same] at hD
      cases hD
    refine lc_range (lo := 0) (n := ((n : Int) - 0).toNat) (fun i H2 => Upto p H H2 ∧ BagAt H2 p ∧ ∃ cs : List Nat, cs.length = i ∧ (∀ c ∈ cs, Low c) ∧ H2 D = some (.lst (cs.map fun c => V.str (ofL [c])))) ?_ ?_ ?_
    · exact ⟨u1.trans (Upto.of (same_upd hD)), ⟨b1, by rw [upd_ne npD, upd_same], hx1⟩, [], rfl, (fun c hc => nomatch hc), upd_same⟩
    · rintro i H2 hi ⟨u2, B2, cs, hl, hlow, hD2⟩
      have nlp : p ≠ D := npD
      refine ⟨rfl, ?_⟩
      unfold tYes
      refine iteT ?_
      refine ⟨_, rfl, _, rfl, p, 26, rfl, B2, by decide, by decide, fun r xs hr0 hr1 hx => ?_⟩
      have hrn : r.toNat < 26 := by omega
      refine ⟨lettersT, r, 97 + r.toNat, rfl, rfl, hr0, by omega, by rw [letters_len]; omega, letters_at _ hrn, ?_⟩
      refine ⟨cs.map fun c => V.str (ofL [c]), by rw [upd_ne npD.symm]; exact hD2, ?_, ?_, ?_, cs ++ [97 + r.toNat], ?_, ?_, ?_⟩
      · rw [List.length_map]
        exact small1000 (by omega)
      · intro b o hb hn
        have hbD : b ≠ D := by
          intro e
          have hh : (upd (upd H q (.lst [.int 0, .int 0, .int 1, .int 2, .int 6])) p (.lst b1)) b = some o := u1 b o hb hn
          rw [e, hD] at hh
          cases hh
        rw [upd_ne hbD, upd_ne hn]
        exact u2 b o hb hn
      · exact ⟨xs, by rw [upd_ne npD, upd_same], hx⟩
      · rw [List.length_append, hl]
        rfl
      · intro c hc
        rcases List.mem_append.mp hc with h | h
        · exact hlow c h
        · rw [List.mem_singleton.mp h]
          constructor <;> omega
      · rw [upd_same, List.map_append]
        rfl
    · rintro H2 ⟨u2, B2, cs, hl, hlow, hD2⟩
      have hl6 : cs.length ≤ 6 := by omega
      have hmap : (cs.map fun c => V.str (ofL [c])) = (cs.map fun c => ofL [c]).map V.str := by
        rw [List.map_map]
        rfl
      refine ⟨"", D, cs.map fun c => ofL [c], rfl, rfl, .inl (.inl (.inl (by rw [← hmap]; exact hD2))), ?_, ?_⟩
      · rw [sum_ones, List.length_map, show ("" : Str).length = 0 from rfl]
        omega
      · rw [TL.join_eq]
        generalize hbase : Str.join "" (cs.map fun c => ofL [c]) = base
        have hbl : base.cps.toList = cs := by rw [← hbase]; exact join_empty cs
        have hb1 : ∀ c ∈ base.cps.toList, Low c := by rw [hbl]; exact hlow
        have hb2 : base.cps.toList.length ≤ 6 := by rw [hbl]; exact hl6
        have hbz : base.length ≤ 6 := by rw [len_list]; exact hb2
        clear hbase hmap hbl hl6 hlow hl hD2 cs
        -- start, shape
        refine ⟨_, rfl, p, 26, rfl, B2, by decide, by decide, fun r1 xs1 hr10 hr11 hx1 => ?_⟩
        refine ⟨_, rfl, p, 4, rfl, ⟨xs1, upd_same, hx1⟩, by decide, by decide, fun r2 xs2 hr20 hr21 hx2 => ?_⟩
        obtain ⟨st, rfl⟩ : ∃ st : Nat, r1 = (st : Int) := ⟨r1.toNat, by omega⟩
        obtain ⟨sh, rfl⟩ : ∃ sh : Nat, r2 = (sh : Int) := ⟨r2.toNat, by omega⟩
        have hsh : sh < 4 := by omega
        refine ⟨_, _, rfl, Nat.zero_le _, fun l nl => ?_⟩
        have npl : p ≠ l := fun e => by
          rw [← e, upd_same] at nl
          cases nl
        have u3 : Upto p H (upd (upd H2 p (.lst xs1)) p (.lst xs2)) := (u2.trans Upto.at_).trans Upto.at_
        have nlH : H l = none := by
          cases e : H l with
          | none => rfl
          | some o =>
            rw [u3 l o e npl.symm] at nl
            cases nl
        refine ⟨_, rfl, (m : Int), rfl, by omega, by omega, ?_⟩
        refine for_range (lo := 0) (n := ((m : Int) - 0).toNat) (fun i σ H3 => ∃ (v7 v8 v9 : Option V), σ = [some (.ref p), some (.int (m : Int)), some (.str lettersT), some (.str base), some (.int (st : Int)), some (.int (sh : Int)), some (.ref l), v7, v8, v9] ∧
            Upto p H H3 ∧ BagAt H3 p ∧ H3 l = some (.lst (((List.range i).map fun k => ofL (fixL (shapeL base.cps.toList (markL m st k) k sh))).map V.str))) ?_ ?_ ?_
        · refine ⟨_, _, _, rfl, u3.trans (Upto.of (same_upd nl)), ⟨xs2, by rw [upd_ne npl, upd_same], hx2⟩, upd_same⟩
        · rintro i σ H3 hi ⟨v7, v8, v9, rfl, u4, B4, hl4⟩
          have him : i < m := by omega
          have hmod : (st + 5 * i) % 26 < 26 := Nat.mod_lt _ (by decide)
          refine ⟨_, rfl, _, rfl, _, rfl, 5, _, rfl, rfl, .inl ⟨by decide, by decide⟩, _, _, rfl, rfl, _, _, rfl, rfl, (by show (0 : Int) < 26; decide), ?_⟩
          refine ⟨lettersT, _, 97 + (st + 5 * i) % 26, rfl, rfl, by omega, by omega, by rw [letters_len]; omega, ?_, ?_⟩
          · rw [show (((st : Int) + 5 * (0 + (i : Int))) % 26).toNat = (st + 5 * i) % 26 by omega]
            exact letters_at _ hmod
          refine ⟨_, rfl, (m : Int), 26, rfl, rfl, _, rfl, ?_⟩
          refine split_if' (α := Str) (R := fun t => t.cps.toList = if 26 < m then [97 + i / 26] else []) (C := ?C) ?use ?key
          case use =>
            intro key
            refine ite2 (fun hc => ?_) (fun hc => ?_)
            · have hc := of_decide_eq_true hc
              have hc' : 26 < m := by omega
              refine ⟨_, rfl, _, rfl, _, 26, rfl, rfl, ⟨by decide, by decide⟩, ?_⟩
              refine ⟨lettersT, _, 97 + i / 26, rfl, rfl, by omega, by omega, by rw [letters_len]; omega, ?_, ?_⟩
              · rw [show ((0 + (i : Int)) / 26).toNat = i / 26 by omega]
                exact letters_at _ (by omega)
              · have hh : (⟨#[97 + i / 26]⟩ : Str).cps.toList = if 26 < m then [97 + i / 26] else [] := by rw [if_pos hc']
                generalize (⟨#[97 + i / 26]⟩ : Str) = t at hh
                exact key t hh
            · have hc' : ¬ 26 < m := fun z => hc (decide_eq_true (by omega))
              exact key "" (by rw [if_neg hc', empty_list])
          case key =>
            intro t ht
            have hml : ((⟨#[97 + (st + 5 * i) % 26]⟩ : Str) ++ t).cps.toList = markL m st i := by
              rw [app_list, ht]
              rfl
            have htl : t.length ≤ 1 := by
              rw [len_list, ht]
              split <;> simp
            refine ⟨_, _, rfl, rfl, ?_, ?_⟩
            · show 1 + t.length ≤ sizeLine
              exact Nat.le_of_lt (small1000 (by omega))
            generalize (⟨#[97 + (st + 5 * i) % 26]⟩ : Str) ++ t = mark at hml
            have hmz : mark.length ≤ 2 := by
              rw [len_list, hml, markL_len]
              split <;> omega
            -- the four texts
            have z1 : base.length + mark.length ≤ sizeLine := Nat.le_of_lt (small1000 (by omega))
            have z2 : mark.length + base.length ≤ sizeLine := Nat.le_of_lt (small1000 (by omega))
            have ek : (0 + (i : Int)) % ((base.length : Int) + 1) = ((i % (base.length + 1) : Nat) : Int) := by
              rw [Int.zero_add]
              exact (Int.natCast_emod i (base.length + 1)).symm
            have zc : ∀ a b : Option Int, (cutS base a b).length ≤ 6 := fun a b => Nat.le_trans (cutS_length base a b) hbz
            refine ⟨_, rfl, _, rfl, _, _, rfl, rfl, z1, _, rfl, _, rfl, _, _, rfl, rfl, z2, ?_⟩
            refine ⟨_, rfl, _, rfl, _, rfl, _, rfl, _, rfl, Nat.le_of_lt (small1000 (by omega)), _, _, rfl, rfl, _, _, rfl, rfl, (by show (0 : Int) < (base.length : Int) + 1; omega), _, rfl, base, rfl, Nat.le_of_lt (small1000 (by omega)), _, _, rfl, rfl, ?_, ?_⟩
            · have := zc none (some ((0 + (i : Int)) % ((base.length : Int) + 1)))
              exact Nat.le_of_lt (small1000 (by omega))
            have c1 := zc none (some 1)
            have c2 := zc (some 1) none
            have c3 : (cutS base none (some 1) ++ mark).length ≤ 8 := by
              rw [strLen_append]
              omega
            refine ⟨_, rfl, 1, rfl, base, rfl, Nat.le_of_lt (small1000 (by omega)), _, rfl, _, _, rfl, rfl, Nat.le_of_lt (small1000 (by omega)), _, rfl, 1, rfl, base, rfl, Nat.le_of_lt (small1000 (by omega)), _, _, rfl, rfl, Nat.le_of_lt (small1000 (by omega)), by show 4 ≤ sizeLine; decide, fun q2 nq2 => ?_⟩
            have e0 : base ++ mark = ofL (shapeL base.cps.toList mark.cps.toList i 0) := str_ext (by rw [app_list, ofL_list]; rfl)
            have e1 : mark ++ base = ofL (shapeL base.cps.toList mark.cps.toList i 1) := str_ext (by rw [app_list, ofL_list]; rfl)
            have e2 : mark ++ cutS base none (some ((0 + (i : Int)) % ((base.length : Int) + 1))) = ofL (shapeL base.cps.toList mark.cps.toList i 2) := str_ext (by
              rw [app_list, ofL_list, ek, cutS_take, len_list]
              rfl)
            have e3 : cutS base none (some 1) ++ mark ++ cutS base (some 1) none = ofL (shapeL base.cps.toList mark.cps.toList i 3) := str_ext (by
              rw [app_list, app_list, ofL_list, show (1 : Int) = ((1 : Nat) : Int) from rfl, cutS_take, cutS_drop]
              rfl)
            have hat : ([V.str (base ++ mark), V.str (mark ++ base), V.str (mark ++ cutS base none (some ((0 + (i : Int)) % ((base.length : Int) + 1)))), V.str (cutS base none (some 1) ++ mark ++ cutS base (some 1) none)] : List V)[sh]? = some (V.str (ofL (shapeL base.cps.toList mark.cps.toList i sh))) := by
              rw [e0, e1, e2, e3]
              match sh, hsh with
              | 0, _ => rfl
              | 1, _ => rfl
              | 2, _ => rfl
              | 3, _ => rfl
            have nlq : l ≠ q2 := ne_of_none hl4 nq2
            generalize ([V.str (base ++ mark), V.str (mark ++ base), V.str (mark ++ cutS base none (some ((0 + (i : Int)) % ((base.length : Int) + 1)))), V.str (cutS base none (some 1) ++ mark ++ cutS base (some 1) none)] : List V) = four at hat
            rw [hml] at hat
            have hl5 : (upd H3 q2 (.lst four)) l = some (.lst (((List.range i).map fun k => ofL (fixL (shapeL base.cps.toList (markL m st k) k sh))).map V.str)) := by
              rw [upd_ne nlq]
              exact hl4
            have u5 : Upto p H (upd H3 q2 (.lst four)) := u4.trans (Upto.of (same_upd nq2))
            have B5 : BagAt (upd H3 q2 (.lst four)) p := by
              obtain ⟨b, hb, hv⟩ := B4
              exact ⟨b, by rw [upd_ne (ne_of_none hb nq2)]; exact hb, hv⟩
            refine ⟨_, rfl, .inl ⟨rfl, _, .inl (.inl hl5)⟩, ?_⟩
            refine ⟨_, rfl, _, rfl, q2, _, _, _, rfl, rfl, .inl (.inl upd_same), atI_nat hat, rfl, _, rfl, ?_⟩
            have more : (((List.range i).map fun k => ofL (fixL (shapeL base.cps.toList (markL m st k) k sh))).map V.str) ++ [V.str (ofL (fixL (shapeL base.cps.toList (markL m st i) i sh)))] = ((List.range (i + 1)).map fun k => ofL (fixL (shapeL base.cps.toList (markL m st k) k sh))).map V.str := by
              rw [List.range_succ, List.map_append, List.map_append]
              rfl
            have fin : ∀ y : Str, y = ofL (fixL (shapeL base.cps.toList (markL m st i) i sh)) → Upto p H (upd (upd H3 q2 (.lst four)) l (.lst ((((List.range i).map fun k => ofL (fixL (shapeL base.cps.toList (markL m st k) k sh))).map V.str) ++ [V.str y]))) ∧
                BagAt (upd (upd H3 q2 (.lst four)) l (.lst ((((List.range i).map fun k => ofL (fixL (shapeL base.cps.toList (markL m st k) k sh))).map V.str) ++ [V.str y]))) p ∧
                (upd (upd H3 q2 (.lst four)) l (.lst ((((List.range i).map fun k => ofL (fixL (shapeL base.cps.toList (markL m st k) k sh))).map V.str) ++ [V.str y]))) l = some (.lst (((List.range (i + 1)).map fun k => ofL (fixL (shapeL base.cps.toList (markL m st k) k sh))).map V.str)) := by
              rintro y rfl
              refine ⟨?_, ?_, ?_⟩
              · intro b o hb hn
                rw [upd_ne (ne_of_none hb nlH)]
                exact u5 b o hb hn
              · obtain ⟨b, hb, hv⟩ := B5
                exact ⟨b, by rw [upd_ne npl]; exact hb, hv⟩
              · rw [upd_same, more]
            have sz : (((List.range i).map fun k => ofL (fixL (shapeL base.cps.toList (markL m st k) k sh))).map V.str).length < sizeLine := by
              rw [List.length_map, List.length_map, List.length_range]
              exact small1000 (by omega)
            refine ite2 (fun hc => ?_) (fun hc => ?_)
            · have hc := of_decide_eq_true hc
              have hc : ofL (shapeL base.cps.toList (markL m st i) i sh) = "sea" := V.str.inj hc
              have hL : shapeL base.cps.toList (markL m st i) i sh = seaL := by
                rw [← sea_list, ← hc, ofL_list]
              have ey : ("seas" : Str) = ofL (fixL (shapeL base.cps.toList (markL m st i) i sh)) := str_ext (by
                rw [seas_list, ofL_list, fixL, if_pos hL])
              obtain ⟨f1, f2, f3⟩ := fin _ ey
              exact ⟨l, _, _, rfl, rfl, hl5, sz, _, _, _, rfl, f1, f2, f3⟩
            · have hL : ¬ shapeL base.cps.toList (markL m st i) i sh = seaL := fun z => hc (decide_eq_true (by rw [z]; exact congrArg V.str (str_ext (by rw [sea_list, ofL_list]))))
              have ey : ofL (shapeL base.cps.toList (markL m st i) i sh) = ofL (fixL (shapeL base.cps.toList (markL m st i) i sh)) := by
                rw [fixL, if_neg hL]
              obtain ⟨f1, f2, f3⟩ := fin _ ey
              refine ⟨_, rfl, _, rfl, q2, _, _, _, rfl, rfl, .inl (.inl upd_same), atI_nat hat, ?_⟩
              exact ⟨l, _, _, rfl, rfl, hl5, sz, _, _, _, rfl, f1, f2, f3⟩
        · rintro σ H3 ⟨v7, v8, v9, rfl, u4, B4, hl4⟩
          have em : ((m : Int) - 0).toNat = m := by omega
          rw [em] at hl4
          exact ⟨_, rfl, k H3 l _ u4 B4 nlH npl.symm hl4 (by simp) (names_ok hb1 hb2 hm2)⟩
end
end K0
end
section
set_option Elab.async false
set_option linter.all false
set_option maxRecDepth 100000
namespace K0
open PySem PySem.Spec PyProof.Rows L2
abbrev Row := Str × Str
/-- rows that make a river -/
structure GoodRows (R : List Row) : Prop where
  one : 1 ≤ R.length
  most : R.length ≤ 40
  nm : NamesOk (R.map (·.1))
  rank : ∃ rk : Str → Nat, ∀ r ∈ R, r.2 = "sea" ∨ (r.2 ∈ R.map (·.1) ∧ rk r.2 < rk r.1)
theorem NamesOk.perm {a b : List Str} (p : a.Perm b) (h : NamesOk b) : NamesOk a := ⟨fun x hx => h.ok x (p.mem_iff.mp hx), fun x hx => h.sea x (p.mem_iff.mp hx), p.nodup_iff.mpr h.nd, fun x hx hq => h.qq x (p.mem_iff.mp hx) (p.mem_iff.mp hq), fun x hx hq => h.dd x (p.mem_iff.mp hx) (p.mem_iff.mp hq), fun x hx t h1 h2 hq => h.on x (p.mem_iff.mp hx) t h1 h2 (p.mem_iff.mp hq)⟩
theorem GoodRows.perm {a b : List Row} (p : a.Perm b) (h : GoodRows b) : GoodRows a := by
  obtain ⟨rk, hr⟩ := h.rank
  refine ⟨by rw [p.length_eq]; exact h.one, by rw [p.length_eq]; exact h.most, h.nm.perm (p.map _), rk, fun r hm => ?_⟩
  rcases hr r (p.mem_iff.mp hm) with e | ⟨e1, e2⟩
  · exact .inl e
  · exact .inr ⟨(p.map _).mem_iff.mpr e1, e2⟩
theorem perm_lift {α β : Type} {f : α → β} {l1 l2 : List β} (p : l1.Perm l2) : ∀ xs : List α, l2 = xs.map f → ∃ xs' : List α, l1 = xs'.map f ∧ xs'.Perm xs := by
  induction p with
  | nil => intro xs e; cases xs with
    | nil => exact ⟨[], rfl, .nil⟩
    | cons a t => cases e
  | cons x _ ih => intro xs e; cases xs with
    | nil => cases e
    | cons a t =>
      injection e with e1 e2
      obtain ⟨t', h1, h2⟩ := ih t e2
      exact ⟨a :: t', by rw [List.map_cons, ← h1, e1], h2.cons a⟩
  | swap x y l => intro xs e; match xs, e with
    | a :: b :: t, e =>
      injection e with e1 e2
      injection e2 with e2 e3
      exact ⟨b :: a :: t, by rw [List.map_cons, List.map_cons, ← e1, ← e2, ← e3], .swap a b t⟩
  | trans _ _ ih1 ih2 =>
    intro xs e
    obtain ⟨ys, h1, h2⟩ := ih2 xs e
    obtain ⟨zs, h3, h4⟩ := ih1 ys h1
    exact ⟨zs, h3, h4.trans h2⟩
/-- a list of pairs of texts, each in a tuple of its own -/
structure RowsAt (H : Hp) (l : Addr) (AR : List (Addr × Row)) : Prop where
  lst : H l = some (.lst (AR.map fun q => V.ref q.1))
  tup : ∀ q ∈ AR, H q.1 = some (.tup [.str q.2.1, .str q.2.2])
abbrev rowsOf (AR : List (Addr × Row)) : List Row := AR.map (·.2)
theorem bag_ne {H : Hp} {p : Addr} {a : Addr} {xs : List V} (B : BagAt H p) (h : H a = some (.tup xs)) : a ≠ p := by
  obtain ⟨b, hb, _⟩ := B
  exact ne_of h hb (fun z => by cases z)
theorem RowsAt.upto {H H' : Hp} {p l : Addr} {AR : List (Addr × Row)} (r : RowsAt H l AR) (B : BagAt H p) (n : l ≠ p) (u : Upto p H H') : RowsAt H' l AR :=
  ⟨u _ _ r.lst n, fun q hq => u _ _ (r.tup q hq) (bag_ne B (r.tup q hq))⟩
theorem RowsAt.same {H H' : Hp} {l : Addr} {AR : List (Addr × Row)} (r : RowsAt H l AR) (u : Same H H') : RowsAt H' l AR :=
  ⟨u _ _ r.lst, fun q hq => u _ _ (r.tup q hq)⟩
def spLRiver : Sp := fun vs H Q _ => ∃ (p : Addr) (m : Nat), vs = [.ref p, .int (m : Int)] ∧ BagAt H p ∧ 1 ≤ m ∧ m ≤ 40 ∧
  ∀ (H' : Hp) (l : Addr) (AR : List (Addr × Row)), Upto p H H' → BagAt H' p → H l = none → l ≠ p → RowsAt H' l AR → GoodRows (rowsOf AR) → (rowsOf AR).length = m → Q (.ref l) H'
/-- rows built so far -/
structure Sofar (ns : List Str) (i : Nat) (R : List Row) : Prop where
  fst : R.map (·.1) = ns.take i
  snd : ∀ r ∈ R, r.2 = "sea" ∨ (r.2 ∈ ns ∧ ns.idxOf r.2 < ns.idxOf r.1)
theorem Sofar.good {ns : List Str} {R : List Row} (h : Sofar ns ns.length R) (hn : NamesOk ns) (h1 : 1 ≤ ns.length) (h2 : ns.length ≤ 40) : GoodRows R := by
  have e := h.fst
  rw [List.take_length] at e
  have el : R.length = ns.length := by rw [← e, List.length_map]
  refine ⟨by omega, by omega, by rw [e]; exact hn, fun x => ns.idxOf x, fun r hr => ?_⟩
  rw [e]
  exact h.snd r hr
theorem idx_at {ns : List Str} (hd : ns.Nodup) {i : Nat} {x : Str} (h : ns[i]? = some x) : ns.idxOf x = i := by
  obtain ⟨h1, h2⟩ := List.getElem?_eq_some_iff.mp h
  have h3 : ns.idxOf x < ns.length := List.idxOf_lt_length_iff.mpr (List.mem_of_getElem? h)
  have h4 : ns[ns.idxOf x]? = some x := by
    rw [List.getElem?_eq_getElem h3, List.getElem_idxOf h3]
  exact nd_ix hd h4 h
theorem Sofar.more {ns : List Str} {i : Nat} {R : List Row} (hd : ns.Nodup) (h : Sofar ns i R) {x y : Str} (hx : ns[i]? = some x) (hy : y = "sea" ∨ ∃ j, j < i ∧ ns[j]? = some y) : Sofar ns (i + 1) (R ++ [(x, y)]) := by
  refine ⟨?_, fun r hr => ?_⟩
  · rw [List.map_append, h.fst, List.take_add_one, hx]
    rfl
  · rcases List.mem_append.mp hr with hr | hr
    · exact h.snd r hr
    · rw [List.mem_singleton.mp hr]
      rcases hy with e | ⟨j, hj, e⟩
      · exact .inl e
      · refine .inr ⟨List.mem_of_getElem? e, ?_⟩
        show ns.idxOf y < ns.idxOf x
        rw [idx_at hd hx, idx_at hd e]
        exact hj
abbrev scLRiver_N : List Str := ["_law_bag_here", "_law_many", "_law_names_here", "_law_rows", "_law_k", "_law_way_here"]
theorem scLRiver : FnScope scLRiver_N ["_law_bag_here", "_law_many"] (defScope sLRiver) := ⟨rfl, rfl, rfl, by decide +kernel, rfl, by decide +kernel, by decide +kernel⟩
section
variable {P : Program} {w : World} {K : PySem.W.Frag} {mg : Str → Option Value} {base : Heap}
/-- the functions of the law's helpers, by their addresses -/
structure Hf (K : PySem.W.Frag) (mg : Str → Option Value) : Prop where
  B : Bl mg
  take : ∃ f fd, FnP K "_law_take" sTake f fd ∧ mg "_law_take" = some (.ref f)
  of : ∃ f fd, FnP K "_law_of" sOf f fd ∧ mg "_law_of" = some (.ref f)
  mixed : ∃ f fd, FnP K "_law_mixed" sMixed f fd ∧ mg "_law_mixed" = some (.ref f)
  names : ∃ f fd, FnP K "_law_names" sNames f fd ∧ mg "_law_names" = some (.ref f)
theorem ok_lriver {f : Addr} {fd : FuncData} (F : FnP K "_law_river" sLRiver f fd) (T : Hf K mg) : FnOk P w K mg base CX0 4 f fd ["_law_bag_here", "_law_many"] spLRiver := by
  obtain ⟨fT, fdT, F_law_take, g_law_take⟩ := T.take
  obtain ⟨fO, fdO, F_law_of, g_law_of⟩ := T.of
  obtain ⟨fM, fdM, F_law_mixed, g_law_mixed⟩ := T.mixed
  obtain ⟨fN, fdN, F_law_names, g_law_names⟩ := T.names
  have B := T.B
  have G_law_take : FnOk P w K mg base CX0 1 fT fdT ["_law_bag_here", "_law_many"] spTake := ok_take F_law_take B
  have b_law_take : Binds K fdT ["_law_bag_here", "_law_many"] [] := F_law_take.bindsN fun _ _ _ _ _ _ us hl => match us, hl with | [_, _], _ => rfl
  have G_law_mixed : FnOk P w K mg base CX0 2 fM fdM ["_law_bag_here", "_law_some"] (spMixed K) := ok_mixed F_law_mixed F_law_take B g_law_take
  have b_law_mixed : Binds K fdM ["_law_bag_here", "_law_some"] [] := F_law_mixed.bindsN fun _ _ _ _ _ _ us hl => match us, hl with | [_, _], _ => rfl
  have G_law_names : FnOk P w K mg base CX0 3 fN fdN ["_law_bag_here", "_law_many"] spNames := ok_names F_law_names F_law_take F_law_of B g_law_take g_law_of
  have b_law_names : Binds K fdN ["_law_bag_here", "_law_many"] [] := F_law_names.bindsN fun _ _ _ _ _ _ us hl => match us, hl with | [_, _], _ => rfl
  refine F.ok scLRiver (fun vs H Q E h => ?_) (fun cdv A outer s H vs Q E hr h => ?_)
  · obtain ⟨p, m, rfl, _⟩ := h
    rfl
  · obtain ⟨p, m, rfl, hB, hm1, hm2, k⟩ := h
    have hr_law_take : Room 1 _ := hr.mono (by decide)
    have hr_law_mixed : Room 2 _ := hr.mono (by decide)
    have hr_law_names : Room 3 _ := hr.mono (by decide)
    refine ⟨_, PSs.nox (pss_cons
      (ps_par (i := 2) (j := 3) (by rfl) scLRiver.nd rfl rfl (by decide) rfl rfl (pa_cons (pe_call G_law_names hr_law_names (by rfl) g_law_names F_law_names.kp b_law_names .nil pass0 (pa_cons (pv 0) (pa_cons (pv 1) pa_nil))) (pa_cons (pe_lst pa_nil) pa_nil)) (by rfl))
      (pss_cons
      (ps_for PassesOwn.never rfl (pi_range1 (by rfl) B.range (pa_cons (pv 1) pa_nil)) (pg_name (i := 4) scLRiver.nd rfl (Or.inl rfl)) (pss_cons
      (ps_set (i := 5) scLRiver.nd rfl (Or.inl rfl) (pe_call G_law_take hr_law_take (by rfl) g_law_take F_law_take.kp b_law_take .nil pass0 (pa_cons (pv 0) (pa_cons pe_int pa_nil))))
      (pss_one
      (ps_if (PW.pt (pw_or (pt_cmpR op_eq (pv 4) pe_int (nomark _)) (pw_or1 (pt_cmpR op_eq (pv 5) pe_int (nomark _))))) (pss_one
      (ps_expr (pe_bm PySem.F.plainAttrs_list PySem.F.slot_list_append PySem.F.type_list_append mt_append (pv 3) (pa_cons (pe_tup (pa_cons (pe_ix ix_list (pv 2) (pv 4) (fun _ _ => rfl)) (pa_cons pe_str pa_nil))) pa_nil)))) (pss_one
      (ps_expr (pe_bm PySem.F.plainAttrs_list PySem.F.slot_list_append PySem.F.type_list_append mt_append (pv 3) (pa_cons (pe_tup (pa_cons (pe_ix ix_list (pv 2) (pv 4) (fun _ _ => rfl)) (pa_cons (pe_ifExp (pt_cmpR op_lt (pv 5) pe_int (nomark _)) (pe_ix ix_list (pv 2) (pe_op op_sub (pv 4) pe_int) (fun _ _ => rfl)) (pe_ix ix_list (pv 2) (pe_call G_law_take hr_law_take (by rfl) g_law_take F_law_take.kp b_law_take .nil pass0 (pa_cons (pv 0) (pa_cons (pv 4) pa_nil))) (fun _ _ => rfl))) pa_nil))) pa_nil))))))))
      (pss_one
      (ps_ret (pe_call G_law_mixed hr_law_mixed (by rfl) g_law_mixed F_law_mixed.kp b_law_mixed .nil pass0 (pa_cons (pv 0) (pa_cons (pv 3) pa_nil))))))), ?_⟩
    refine ⟨_, rfl, _, rfl, p, m, rfl, hB, by omega, fun H1 n ns u1 B1 nn nnp hn hlen hok => ?_⟩
    refine ⟨Nat.zero_le _, fun l nl => ⟨_, _, rfl, ?_⟩⟩
    have nln : n ≠ l := ne_of_none hn nl
    obtain ⟨b1, hb1, hv1⟩ := id B1
    have npl : p ≠ l := ne_of_none hb1 nl
    have nlH : H l = none := by
      cases e : H l with
      | none => rfl
      | some o =>
        rw [u1 l o e npl.symm] at nl
        cases nl
    refine ⟨_, rfl, (m : Int), rfl, by omega, by omega, ?_⟩
    refine for_range (lo := 0) (n := ((m : Int) - 0).toNat) (fun i σ H3 => ∃ (v4 v5 : Option V) (AR : List (Addr × Row)), σ = [some (.ref p), some (.int (m : Int)), some (.ref n), some (.ref l), v4, v5] ∧ Upto p H H3 ∧ BagAt H3 p ∧ H3 n = some (.lst (ns.map V.str)) ∧ RowsAt H3 l AR ∧ Sofar ns i (rowsOf AR))
      ⟨none, none, [], rfl, u1.trans (Upto.of (same_upd nl)), ⟨b1, by rw [upd_ne npl]; exact hb1, hv1⟩, by rw [upd_ne nln]; exact hn, ⟨upd_same, fun q hq => nomatch hq⟩, ⟨by rw [List.take_zero]; rfl, fun r hr => nomatch hr⟩⟩ ?_ ?_
    · rintro i σ H3 hi ⟨v4, v5, AR, rfl, u3, B3, hn3, hR, hS⟩
      have him : i < ns.length := by omega
      have hnx : ns[i]? = some ns[i] := List.getElem?_eq_getElem him
      have hat : (ns.map V.str)[i]? = some (.str ns[i]) := by
        rw [List.getElem?_map, hnx]
        rfl
      have hARl : AR.length = i := by
        have := congrArg List.length hS.fst
        rw [List.length_map, List.length_map, List.length_take] at this
        omega
      have fin : ∀ (H4 : Hp) (t : Addr) (y : Str), Upto p H H4 → BagAt H4 p → H4 n = some (.lst (ns.map V.str)) → RowsAt H4 l AR → H4 t = none → (y = "sea" ∨ ∃ j, j < i ∧ ns[j]? = some y) →
          (upd H4 t (.tup [.str ns[i], .str y])) l = some (.lst (AR.map fun q => V.ref q.1)) ∧ (AR.map fun q => V.ref q.1).length < sizeLine ∧ ∃ AR' : List (Addr × Row),
          Upto p H (upd (upd H4 t (.tup [.str ns[i], .str y])) l (.lst ((AR.map fun q => V.ref q.1) ++ [.ref t]))) ∧ BagAt (upd (upd H4 t (.tup [.str ns[i], .str y])) l (.lst ((AR.map fun q => V.ref q.1) ++ [.ref t]))) p ∧
          (upd (upd H4 t (.tup [.str ns[i], .str y])) l (.lst ((AR.map fun q => V.ref q.1) ++ [.ref t]))) n = some (.lst (ns.map V.str)) ∧ RowsAt (upd (upd H4 t (.tup [.str ns[i], .str y])) l (.lst ((AR.map fun q => V.ref q.1) ++ [.ref t]))) l AR' ∧ Sofar ns (i + 1) (rowsOf AR') := by
        intro H4 t y u4 B4 hn4 hR4 ht hy
        have nlt : l ≠ t := ne_of_none hR4.lst ht
        have nnt : n ≠ t := ne_of_none hn4 ht
        obtain ⟨b4, hb4, hv4⟩ := B4
        have npt : p ≠ t := ne_of_none hb4 ht
        refine ⟨by rw [upd_ne nlt]; exact hR4.lst, by rw [List.length_map]; exact small1000 (by omega), AR ++ [(t, (ns[i], y))], ?_, ⟨b4, by rw [upd_ne npl, upd_ne npt]; exact hb4, hv4⟩, by rw [upd_ne nln, upd_ne nnt]; exact hn4, ⟨?_, ?_⟩, ?_⟩
        · intro b o hb hne
          have h4 := u4 b o hb hne
          rw [upd_ne (ne_of_none hb nlH), upd_ne (ne_of_none h4 ht)]
          exact h4
        · rw [upd_same, List.map_append]
          rfl
        · intro q hq
          rcases List.mem_append.mp hq with hq | hq
          · have h4 := hR4.tup q hq
            rw [upd_ne (ne_of h4 hR4.lst (fun z => by cases z)), upd_ne (ne_of_none h4 ht)]
            exact h4
          · rw [List.mem_singleton.mp hq, upd_ne nlt.symm, upd_same]
        · show Sofar ns (i + 1) ((AR ++ [(t, (ns[i], y))]).map (·.2))
          rw [List.map_append]
          exact hS.more hok.nd hnx hy
      have nlp : l ≠ p := npl.symm
      have nnp : n ≠ p := nnp
      have step : ∀ xs, BagV xs → Upto p H (upd H3 p (.lst xs)) ∧ BagAt (upd H3 p (.lst xs)) p ∧ (upd H3 p (.lst xs)) n = some (.lst (ns.map V.str)) ∧ RowsAt (upd H3 p (.lst xs)) l AR := fun xs hx =>
        ⟨u3.trans Upto.at_, ⟨xs, upd_same, hx⟩, by rw [upd_ne nnp]; exact hn3, hR.upto B3 nlp Upto.at_⟩
      refine ⟨_, rfl, p, 6, rfl, B3, by decide, by decide, fun r xs hr0 hr1 hx => ?_⟩
      obtain ⟨u4, B4, hn4, hR4⟩ := step xs hx
      refine ⟨_, rfl, rfl, _, rfl, ?_⟩
      refine split_if' (α := Unit) (R := fun _ => True) (C := fun _ => ?C) ?use ?key
      case use =>
        intro key
        refine ite2 (fun hc => ?_) (fun hc => ?_)
        · exact key () trivial
        · refine ⟨_, rfl, rfl, _, rfl, ?_⟩
          refine ite2 (fun hd => ?_) (fun hd => ?_)
          · exact key () trivial
          · have hi0 : 0 < i := by
              rcases Nat.eq_zero_or_pos i with e | e
              · subst e
                exact absurd (decide_eq_true rfl) hc
              · exact e
            refine ⟨_, rfl, .inl ⟨rfl, _, .inl (.inl hR4.lst)⟩, _, rfl, _, rfl, n, _, _, _, rfl, rfl, .inl (.inl hn4), at_of (by omega) hat, ?_⟩
            refine ⟨_, rfl, r, 4, rfl, rfl, _, rfl, ?_⟩
            refine ite2 (fun he => ?_) (fun he => ?_)
            · have hat2 : (ns.map V.str)[i - 1]? = some (.str ns[i - 1]) := by
                rw [List.getElem?_map, List.getElem?_eq_getElem (by omega)]
                rfl
              refine ⟨_, rfl, _, rfl, _, _, rfl, rfl, n, _, _, _, rfl, rfl, .inl (.inl hn4), at_of (j := i - 1) (by omega) hat2, ?_⟩
              refine ⟨by show 2 ≤ sizeLine; decide, fun t nt => ?_⟩
              obtain ⟨f1, f2, AR', f3, f4, f5, f6, f7⟩ := fin _ t ns[i - 1] u4 B4 hn4 hR4 nt (.inr ⟨i - 1, by omega, List.getElem?_eq_getElem (by omega)⟩)
              exact ⟨l, _, _, rfl, rfl, f1, f2, _, _, AR', rfl, f3, f4, f5, f6, f7⟩
            · refine ⟨_, rfl, _, rfl, _, rfl, p, _, rfl, B4, by omega, by omega, fun r2 xs2 hr20 hr21 hx2 => ?_⟩
              have hj : r2.toNat < i := by omega
              have hat2 : (ns.map V.str)[r2.toNat]? = some (.str ns[r2.toNat]) := by
                rw [List.getElem?_map, List.getElem?_eq_getElem (by omega)]
                rfl
              have u5 : Upto p H (upd (upd H3 p (.lst xs)) p (.lst xs2)) := u4.trans Upto.at_
              have hn5 : (upd (upd H3 p (.lst xs)) p (.lst xs2)) n = some (.lst (ns.map V.str)) := by
                rw [upd_ne nnp]
                exact hn4
              refine ⟨n, _, _, _, rfl, rfl, .inl (.inl hn5), at_of (j := r2.toNat) (by omega) hat2, ?_⟩
              refine ⟨by show 2 ≤ sizeLine; decide, fun t nt => ?_⟩
              obtain ⟨f1, f2, AR', f3, f4, f5, f6, f7⟩ := fin _ t ns[r2.toNat] u5 ⟨xs2, upd_same, hx2⟩ hn5 (hR4.upto B4 nlp Upto.at_) nt (.inr ⟨r2.toNat, hj, List.getElem?_eq_getElem (by omega)⟩)
              exact ⟨l, _, _, rfl, rfl, f1, f2, _, _, AR', rfl, f3, f4, f5, f6, f7⟩
      case key =>
        intro _ _
        refine ⟨_, rfl, .inl ⟨rfl, _, .inl (.inl hR4.lst)⟩, _, rfl, _, rfl, n, _, _, _, rfl, rfl, .inl (.inl hn4), at_of (by omega) hat, ?_⟩
        refine ⟨by show 2 ≤ sizeLine; decide, fun t nt => ?_⟩
        obtain ⟨f1, f2, AR', f3, f4, f5, f6, f7⟩ := fin _ t "sea" u4 B4 hn4 hR4 nt (.inl rfl)
        exact ⟨l, _, _, rfl, rfl, f1, f2, _, _, AR', rfl, f3, f4, f5, f6, f7⟩
    · rintro σ H3 ⟨v4, v5, AR, rfl, u3, B3, hn3, hR, hS⟩
      have em : ((m : Int) - 0).toNat = ns.length := by omega
      rw [em] at hS
      have hG : GoodRows (rowsOf AR) := hS.good hok (by omega) (by omega)
      have hlA : (rowsOf AR).length = AR.length := List.length_map _
      have hG1 := hG.most
      refine ⟨_, rfl, _, rfl, p, l, _, rfl, B3, npl.symm, .inl (.inl hR.lst), by rw [List.length_map]; omega, fun H5 l5 zs u5 B5 nl5 nl5p hl5 hp => ?_⟩
      obtain ⟨AR', e1, hp'⟩ := perm_lift hp AR rfl
      subst e1
      have nl5H : H l5 = none := by
        cases e : H l5 with
        | none => rfl
        | some o =>
          rw [u3 l5 o e nl5p] at nl5
          cases nl5
      refine k H5 l5 AR' (u3.trans u5) B5 nl5H nl5p ⟨hl5, fun q hq => ?_⟩ (hG.perm (hp'.map _)) ?_
      · have h3 := hR.tup q (hp'.mem_iff.mp hq)
        exact u5 _ _ h3 (bag_ne B3 h3)
      · rw [(hp'.map (·.2)).length_eq]
        have := congrArg List.length hS.fst
        rw [List.length_map, List.take_length] at this
        show (rowsOf AR).length = m
        omega
end
end K0
end
section
set_option Elab.async false
set_option linter.all false
set_option maxRecDepth 100000
namespace L2
open PySem PySem.Spec PyProof.Rows
section
variable {X : Cx}
/-- name = {..} on one line, the name a local -/
theorem k0_setDc {i : Nat} {y : Str} {py : Pos} {kx vx tg iter : Expr} {ifs : List Expr} {scope : Scope} {own : List (Str × Nat)} {pos spos : Pos} {wi : TI} {g : TG} {tt : TT} {tk tv : TE} (hc : X.calm = true) (hN : X.N.Nodup) (hy : X.N[i]? = some y) (hyl : X.env.scope.names.lookup y = some .local)
    (hsw : swapsWith (.DictComp kx vx [⟨tg, iter, ifs, 0⟩] scope pos) (some (.Name y py)) spos.line X.env = pure true) (hi : PI X tg iter wi) (ok : BlkOk X.N X.env.scope scope own)
    (hg : ∀ (s : Shared) (H : Hp) (C : Addr) (cl : List (Str × Addr)) (fp : List Addr), PG (X.blk s H scope (compEnvC scope cl C X.env) fp) tg g) (ht : ∀ (s : Shared) (H : Hp) (C : Addr) (cl : List (Str × Addr)) (fp : List Addr), PTs (X.blk s H scope (compEnvC scope cl C X.env) fp) ifs tt)
    (hk : ∀ (s : Shared) (H : Hp) (C : Addr) (cl : List (Str × Addr)) (fp : List Addr), PE (X.blk s H scope (compEnvC scope cl C X.env) fp) kx tk)
    (he : ∀ (s : Shared) (H : Hp) (C : Addr) (cl : List (Str × Addr)) (fp : List Addr), PE (X.blk s H scope (compEnvC scope cl C X.env) fp) vx tv) (hs : ∀ x, foldedSetIterable iter X.env x = pure x := by intro _; rfl) :
    PS X (.Assign [.Name y py] (.DictComp kx vx [⟨tg, iter, ifs, 0⟩] scope pos) spos) (tAsg (tDc wi g tt tk tv (own.map (·.2))) (gName i)) := by
  refine ⟨fun pins s σ H D I h => ?_⟩
  rw [exec_Assign_Name_used _ _ _ _ hsw]
  refine wpAny_bind (wpAny_standAt (wpAny_bind ?_))
  show wpAny _ X.A (do let _ ← comprehension (.DictComp kx vx [⟨tg, iter, ifs, 0⟩] scope pos) scope X.env (firstIterPos [⟨tg, iter, ifs, 0⟩] pos) newDict false (eval iter X.env) (some (assign (.Name y py) X.env))) _ _ s
  have h : tDc wi g tt tk tv (own.map (·.2)) σ H (fun x H1 => gName i x σ H1 D.nx) := h
  refine wpAny_bind (thn (dc_core (Qf := fun _ s' => SP X pins D .next s') hc hN I hi ok hg ht hk he hs h fun L C s' m H' I' q hn f => ?_) fun _ s' hq => wpAny_pure (wpAny_pure hq))
  show wpAny _ _ (assign (.Name y py) X.env (.ref L)) _ _ _
  refine wpAny_assign_Name (store_ok2 (v := V.ref L) I' hN hy (.inl hyl) rfl (fun s2 I2 ⟨a, sb, ha⟩ => ?_) (.inr hyl))
  obtain ⟨f0, f1, f2, f3, f4, f5⟩ := f
  have haC : C ≠ a := by
    rcases ha with z | z
    · rw [z]; exact f1
    · exact fun e => f4 y a z e.symm
  refine ⟨m, hn.sameBut sb haC, fun h3 sb3 => ?_⟩
  exact ⟨_, H', I2.turned (t' := s2.toks) (fun b o hb e => (sb3.2 b hb).trans e) f0 f1 f3 f4 f5, q⟩
theorem k0_sw {kx vx : Expr} {gs : List Comprehension} {scope : Scope} {pos py : Pos} {y : Str} {l : Nat} {env : Env} (hk : env.scope.kind = .function) (hy : env.scope.names.lookup y = some .local) (hl : (py.line == pos.line) = true)
    (ha : (scope.names.any fun (n, k) => n == y && (k == .local || k == .cell)) = false) : swapsWith (.DictComp kx vx gs scope pos) (some (.Name y py)) l env = pure true := by
  have ky : env.kindOf y = some .local := hy
  have hb : env.blockKind = .function := by unfold Env.blockKind; rw [hk]; rfl
  unfold swapsWith
  simp only [hb, ky, ha, Expr.pos, hl]
  rfl
/-- len of a dict, locked or not -/
theorem k0_lenD : CallR X (.builtin "len") (fun xs H Q => ∃ a kvs, xs = [V.ref a] ∧ Rd H a (.dK kvs) ∧ Q (.int kvs.length) H) := by
  intro pins s σ H xs us Q I r h
  obtain ⟨a, kvs, rfl, ha, q⟩ := h
  obtain ⟨u, rfl, ru⟩ := vals1 r
  cases ru
  exact d_len I ha fun t s' I' => ⟨.int kvs.length, H, I', ⟨t, rfl⟩, q⟩
end
end L2
namespace K0
open PySem PySem.Spec PyProof.Rows L2
theorem iteD {c A B : Prop} [Decidable c] (hc : c) (h : A) : if decide c = true then A else B := by
  rw [decide_eq_true hc]
  exact iteT h
theorem iteDn {c A B : Prop} [Decidable c] (hc : ¬ c) (h : B) : if decide c = true then A else B := by
  rw [decide_eq_false hc]
  exact iteF h
/-- the module's constants -/
structure Gc (mg : Str → Option Value) (tS tM tL : Tok) : Prop where
  SEA : mg "SEA" = some (.str "sea" tS)
  MOST_ROWS : mg "MOST_ROWS" = some (.int 40 tM)
  LONGEST_NAME : mg "LONGEST_NAME" = some (.int 8 tL)
abbrev scIsName_N : List Str := ["value", "letter"]
abbrev scIsName_S : Stmt := sIsName
theorem scIsName : FnScope scIsName_N ["value"] (defScope sIsName) := ⟨rfl, rfl, rfl, by decide +kernel, rfl, by decide +kernel, by decide +kernel⟩
theorem scIsRow : FnScope ["entry"] ["entry"] (defScope sIsRow) := ⟨rfl, rfl, rfl, by decide +kernel, rfl, by decide +kernel, by decide +kernel⟩
def spIsName : Sp := fun vs H Q _ => ∃ x : Str, vs = [.str x] ∧ NameOk x ∧ ∀ H', Same H H' → Q (.bl true) H'
/-- a row: a name that is not the sea's, and a name -/
structure RowOk (r : Row) : Prop where
  a : NameOk r.1
  b : NameOk r.2
  s : r.1 ≠ "sea"
def spIsRow (K : PySem.W.Frag) : Sp := fun vs H Q _ => ∃ (t : Addr) (r : Row), vs = [.ref t] ∧ H t = some (.tup [.str r.1, .str r.2]) ∧ RowOk r ∧ ∀ H', Same H H' → Q (.bl true) H'
theorem le_low1 {c : Nat} (h : Low c) : (!decide (([c] : List Nat) < [97])) = true := by
  have : ¬ ([c] : List Nat) < [97] := by
    intro z
    rw [List.cons_lt_cons_iff] at z
    rcases z with z | ⟨_, z⟩
    · have := h.1; omega
    · exact absurd z (List.not_lt_nil _)
  rw [decide_eq_false this]
  rfl
theorem le_low2 {c : Nat} (h : Low c) : (!decide (([122] : List Nat) < [c])) = true := by
  have : ¬ ([122] : List Nat) < [c] := by
    intro z
    rw [List.cons_lt_cons_iff] at z
    rcases z with z | ⟨_, z⟩
    · have := h.2; omega
    · exact absurd z (List.not_lt_nil _)
  rw [decide_eq_false this]
  rfl
theorem sea_ok : NameOk "sea" := ⟨by rw [sea_list]; decide, by rw [sea_list]; decide, by
  rw [sea_list]
  intro c hc
  have : c = 115 ∨ c = 101 ∨ c = 97 := by simpa [seaL] using hc
  constructor <;> omega⟩
section
variable {P : Program} {w : World} {K : PySem.W.Frag} {mg : Str → Option Value} {base : Heap} {tS tM tL : Tok}
theorem ok_isname {f : Addr} {fd : FuncData} (F : FnP K "is_name" sIsName f fd) (B : Bl mg) (C : Gc mg tS tM tL) : FnOk P w K mg base CX0 1 f fd ["value"] spIsName := by
  refine F.ok scIsName (fun vs H Q E h => ?_) (fun cdv A outer s H vs Q E hr h => ?_)
  · obtain ⟨x, rfl, _⟩ := h
    rfl
  · obtain ⟨x, rfl, hx, k⟩ := h
    refine ⟨_, PSs.nox (pss_cons
      (ps_if (pt_not (pt_val (pe_callB call_isi (by rfl) B.isinstance (by decide +kernel) (pa_cons (pv 0) (pa_cons (pe_bltn (v := .ty "str") (by rfl) B.str (by decide +kernel) rfl) pa_nil))))) (pss_one
      (ps_ret pe_bl)) pss_nil)
      (pss_one
      (ps_ret (pe_and (pe_chain op_le op_le pe_int (pe_callB call_len_str (by rfl) B.len PySem.boot_len (pa_cons (pv 0) pa_nil)) (pe_glob (v := .int 8) (by rfl) C.LONGEST_NAME ⟨_, rfl⟩)) (pe_one (pe_callB (cr_all rfl) (by rfl) B.all (by decide +kernel) (pa_cons (pe_lc (own := [("letter", 1)]) (g := gName 1) (tt := tYes) (by rfl) scIsName.nd (pi_str (pv 0)) (blkOk_by (own := [("letter", 1)]) (N := scIsName_N) (sc := defScope scIsName_S) (by decide +kernel)) (fun _ _ _ _ _ => (pg_name (i := 1) scIsName.nd rfl (Or.inl rfl))) (fun _ _ _ _ _ => pts_nil) (fun _ _ _ _ _ => (pe_chain op_le_str op_le_str pe_str (pv 1) pe_str))) pa_nil))))))), ?_⟩
    refine ⟨_, rfl, .str x, .ty "str", _, _, true, rfl, .ty "str", .base (.str x), kit_ty (by decide +kernel), _, rfl, ?_⟩
    refine iteF ?_
    have hz : x.length ≤ sizeLine := Nat.le_of_lt (small1000 (by have := hx.most; rw [len_list]; omega))
    have hz1 : 1 ≤ x.length := by rw [len_list]; exact hx.one
    have hz2 : x.length ≤ 8 := by rw [len_list]; exact hx.most
    refine ⟨_, rfl, x, rfl, hz, 1, (x.length : Int), rfl, rfl, _, rfl, ?_⟩
    refine iteD (by omega) ?_
    refine ⟨_, _, rfl, rfl, _, rfl, ?_⟩
    refine iteD (by omega) ?_
    refine ⟨_, rfl, x, rfl, fun D hD => ?_⟩
    refine lc_it (walk_str (z := x)) (fun i H2 => Same H H2 ∧ H2 D = some (.lst ((List.replicate i true).map V.bl))) ⟨same_upd hD, upd_same⟩ (fun _ _ _ _ => trivial) ?_ ?_
    · rintro i v H2 H3 hi ⟨s2, hD2⟩ ⟨e, c, hc, ev⟩
      subst e
      subst ev
      have hlow : Low c := hx.low c (by
        rw [← Array.getElem?_toList] at hc
        exact List.mem_of_getElem? hc)
      refine ⟨rfl, ?_⟩
      unfold tYes
      refine iteT ?_
      refine ⟨_, rfl, "a", ⟨#[c]⟩, rfl, rfl, _, rfl, ?_⟩
      have q1 := le_low1 hlow
      have q2 := le_low2 hlow
      refine Eq.mpr (if_pos q1) ?_
      refine ⟨⟨#[c]⟩, "z", rfl, rfl, _, hD2, ?_, fun b o hb => ?_, ?_⟩
      · rw [List.length_map, List.length_replicate]
        have h8 := hx.most
        rw [Array.length_toList] at h8
        exact small1000 (by omega)
      · rw [upd_ne (ne_of_none hb hD)]
        exact s2 b o hb
      · rw [upd_same, List.replicate_succ', List.map_append]
        have q3 : (!decide ((("z" : Str)).cps.toList < (⟨#[c]⟩ : Str).cps.toList)) = true := q2
        rw [q3]
        rfl
    · rintro H2 ⟨s2, hD2⟩
      refine ⟨D, List.replicate x.cps.size true, rfl, .inl (.inl hD2), ?_⟩
      have e : ((List.replicate x.cps.size true).all id) = true := by
        rw [List.all_eq_true]
        intro b hb
        exact (List.mem_replicate.mp hb).2
      rw [e]
      exact k H2 s2
theorem ok_isrow {f fN : Addr} {fd fdN : FuncData} (F : FnP K "_is_row" sIsRow f fd) (F_is_name : FnP K "is_name" sIsName fN fdN) (gis_name : mg "is_name" = some (.ref fN)) (B : Bl mg) (C : Gc mg tS tM tL) : FnOk P w K mg base CX0 2 f fd ["entry"] (spIsRow K) := by
  have Gis_name : FnOk P w K mg base CX0 1 fN fdN ["value"] spIsName := ok_isname F_is_name B C
  have bis_name : Binds K fdN ["value"] [] := F_is_name.bindsN fun _ _ _ _ _ _ us hl => match us, hl with | [_], _ => rfl
  refine F.ok scIsRow (fun vs H Q E h => ?_) (fun cdv A outer s H vs Q E hr h => ?_)
  · obtain ⟨t, r, rfl, _⟩ := h
    rfl
  · obtain ⟨t, r, rfl, ht, hR, k⟩ := h
    have hris_name : Room 1 _ := hr.mono (by decide)
    have Fis_name := F_is_name
    refine ⟨_, PSs.nox (pss_cons
      (ps_if (PW.pt (pw_or (pt_not (pt_val (pe_callB call_isi (by rfl) B.isinstance (by decide +kernel) (pa_cons (pv 0) (pa_cons (pe_bltn (v := .ty "tuple") (by rfl) B.tuple (by decide +kernel) rfl) pa_nil))))) (pw_or1 (pt_cmpR op_ne (pe_callB call_len_seq (by rfl) B.len PySem.boot_len (pa_cons (pv 0) pa_nil)) pe_int (nomark _))))) (pss_one
      (ps_ret pe_bl)) pss_nil)
      (pss_one
      (ps_ret (pe_and (pe_call Gis_name hris_name (by rfl) gis_name Fis_name.kp bis_name .nil pass0 (pa_cons (pe_ix ix_tup (pv 0) pe_int (fun _ _ => rfl)) pa_nil)) (pe_and (pe_call Gis_name hris_name (by rfl) gis_name Fis_name.kp bis_name .nil pass0 (pa_cons (pe_ix ix_tup (pv 0) pe_int (fun _ _ => rfl)) pa_nil)) (pe_one (pe_cmpR op_ne (pe_ix ix_tup (pv 0) pe_int (fun _ _ => rfl)) (pe_glob (v := .str "sea") (by rfl) C.SEA ⟨_, rfl⟩) (nomark _)))))))), ?_⟩
    have g : ∀ H', Same H H' → SqT K H' t [.str r.1, .str r.2] := fun H' s => .inl (.inl (s _ _ ht))
    refine ⟨_, rfl, .ref t, .ty "tuple", _, _, true, rfl, .ty "tuple", .base (.tup ht), kit_ty (by decide +kernel), _, rfl, ?_⟩
    refine iteF ?_
    refine ⟨_, rfl, t, _, rfl, .inr (g _ (.refl _)), rfl, _, rfl, ?_⟩
    refine iteNS rfl ?_
    refine ⟨_, rfl, t, _, _, _, rfl, rfl, g _ (.refl _), atI_nat (j := 0) rfl, r.1, rfl, hR.a, fun H1 s1 => ⟨_, rfl, iteT ?_⟩⟩
    refine ⟨_, rfl, t, _, _, _, rfl, rfl, g _ s1, atI_nat (j := 1) rfl, r.2, rfl, hR.b, fun H2 s2 => ⟨_, rfl, iteT ?_⟩⟩
    refine ⟨_, rfl, t, _, _, _, rfl, rfl, g _ (s1.trans s2), atI_nat (j := 0) rfl, rfl, ?_⟩
    have e : (!decide (V.str r.1 = V.str "sea")) = true := by
      rw [decide_eq_false (fun z => hR.s (V.str.inj z))]
      rfl
    show Q (.bl (!decide (V.str r.1 = V.str "sea"))) H2
    rw [e]
    exact k H2 (s1.trans s2)
end
end K0
end
section
set_option Elab.async false
set_option linter.all false
set_option maxRecDepth 100000
namespace K0
open PySem PySem.Spec PyProof.Rows L2
/-! ### dicts by names -/
def kmap (f : Str → V) (ns : List Str) : List (Key × V) := ns.map fun n => ((Sum.inr n : Key), f n)
theorem kmap_len (f : Str → V) (ns : List Str) : (kmap f ns).length = ns.length := List.length_map _
theorem kmap_keys (f : Str → V) (ns : List Str) : (kmap f ns).map (·.1) = ns.map Sum.inr := by
  unfold kmap
  rw [List.map_map]
  rfl
theorem kmap_not {f : Str → V} {ns : List Str} {x : Str} (h : x ∉ ns) : valV (kmap f ns) (Sum.inr x) = none := by
  cases e : valV (kmap f ns) (Sum.inr x) with
  | none => rfl
  | some v =>
    have m := valV_in e
    rw [kmap_keys] at m
    obtain ⟨y, hy, ey⟩ := List.mem_map.mp m
    rw [Sum.inr.inj ey] at hy
    exact absurd hy h
theorem kmap_at {f : Str → V} : ∀ {ns : List Str} {x : Str}, x ∈ ns → valV (kmap f ns) (Sum.inr x) = some (f x)
  | n :: r, x, h => by
    by_cases e : n = x
    · subst e
      unfold kmap valV
      rw [List.map_cons, List.find?_cons_of_pos (by simp)]
      rfl
    · have h' : x ∈ r := (List.mem_cons.mp h).resolve_left fun z => e z.symm
      have ih := kmap_at (f := f) h'
      unfold kmap valV at ih ⊢
      rw [List.map_cons, List.find?_cons_of_neg (by simp [e])]
      exact ih
theorem kmap_put {f : Str → V} {ns : List Str} {x : Str} (h : x ∉ ns) : putK (kmap f ns) (Sum.inr x) (f x) = kmap f (ns ++ [x]) := by
  rw [putK_new _ (kmap_not h)]
  unfold kmap
  rw [List.map_append]
  rfl
theorem GoodRows.row {R : List Row} (g : GoodRows R) {r : Row} (h : r ∈ R) : RowOk r := by
  have h1 : r.1 ∈ R.map (·.1) := List.mem_map.mpr ⟨r, h, rfl⟩
  obtain ⟨rk, hr⟩ := g.rank
  refine ⟨g.nm.ok _ h1, ?_, g.nm.sea _ h1⟩
  rcases hr r h with e | ⟨e, _⟩
  · rw [e]
    exact sea_ok
  · exact g.nm.ok _ e
theorem row_at {AR : List (Addr × Row)} {i : Nat} {x : V} (e : (AR.map fun q => V.ref q.1)[i]? = some x) (hi : i < AR.length) : x = .ref AR[i].1 := by
  rw [List.getElem?_map, List.getElem?_eq_getElem hi] at e
  exact (Option.some.inj e).symm
theorem nmlen (AR : List (Addr × Row)) : ((rowsOf AR).map (·.1)).length = AR.length := by rw [List.length_map, List.length_map]
abbrev scNeedRows_N : List Str := ["rows", "weirs", "place", "entry", "_", "low"]
theorem scNeedRows : FnScope scNeedRows_N ["rows"] (defScope sNeedRows) := ⟨rfl, rfl, rfl, by decide +kernel, rfl, by decide +kernel, by decide +kernel⟩
def spNeedRows (K : PySem.W.Frag) : Sp := fun vs H Q _ => ∃ (l : Addr) (AR : List (Addr × Row)), vs = [.ref l] ∧ RowsAt H l AR ∧ GoodRows (rowsOf AR) ∧ ∀ H', Same H H' → Q .non H'
section
variable {P : Program} {w : World} {K : PySem.W.Frag} {mg : Str → Option Value} {base : Heap} {tS tM tL : Tok}
theorem ok_needrows {f fN fR : Addr} {fd fdN fdR : FuncData} (F : FnP K "_need_rows" sNeedRows f fd) (F_is_name : FnP K "is_name" sIsName fN fdN) (gis_name : mg "is_name" = some (.ref fN))
    (F_is_row : FnP K "_is_row" sIsRow fR fdR) (g_is_row : mg "is_row_rivers" = some (.ref fR)) (B : Bl mg) (C : Gc mg tS tM tL) : FnOk P w K mg base CX0 3 f fd ["rows"] (spNeedRows K) := by
  have G_is_row : FnOk P w K mg base CX0 2 fR fdR ["entry"] (spIsRow K) := ok_isrow F_is_row F_is_name gis_name B C
  have b_is_row : Binds K fdR ["entry"] [] := F_is_row.bindsN fun _ _ _ _ _ _ us hl => match us, hl with | [_], _ => rfl
  refine F.ok scNeedRows (fun vs H Q E h => ?_) (fun cdv A outer s H vs Q E hr h => ?_)
  · obtain ⟨l, AR, rfl, _⟩ := h
    rfl
  · obtain ⟨l, AR, rfl, hR, hG, k⟩ := h
    have hu := hu_of hr
    have hr_is_row : Room 2 _ := hr.mono (by decide)
    refine ⟨_, PSs.nox (pss_cons
      (ps_if (PW.pt (pw_or (pt_not (pt_val (pe_callB call_isi (by rfl) B.isinstance (by decide +kernel) (pa_cons (pv 0) (pa_cons (pe_bltn (v := .ty "list") (by rfl) B.list (by decide +kernel) rfl) pa_nil))))) (pw_or1 (pt_not (pt_chain op_le op_le pe_int (pe_callB call_len_seq (by rfl) B.len PySem.boot_len (pa_cons (pv 0) pa_nil)) (pe_glob (v := .int 40) (by rfl) C.MOST_ROWS ⟨_, rfl⟩)))))) (pss_one
      ps_never) pss_nil)
      (pss_cons
      (ps_set (i := 1) scNeedRows.nd rfl (Or.inl rfl) pe_dnewK)
      (pss_cons
      (ps_for PassesOwn.never rfl (pi_enum (by rfl) B.enumerate (pa_cons (pv 0) pa_nil)) (pg_tup (by rfl) (pgs_cons (pg_name (i := 2) scNeedRows.nd rfl (Or.inl rfl)) (pgs_cons (pg_name (i := 3) scNeedRows.nd rfl (Or.inl rfl)) pgs_nil))) (pss_cons
      (ps_if (PW.pt (pw_or (pt_not (pt_val (pe_call G_is_row hr_is_row (by rfl) g_is_row F_is_row.kp b_is_row .nil pass0 (pa_cons (pv 3) pa_nil)))) (pw_or1 (pt_cmp (pc_din hu (pe_ix ix_tup (pv 3) pe_int (fun _ _ => rfl)) (pv 1)))))) (pss_one
      ps_never) pss_nil)
      (pss_one
      (ps_dput hu (pv 1) (pe_ix ix_tup (pv 3) pe_int (fun _ _ => rfl)) pe_bl rfl))))
      (pss_one
      (ps_for PassesOwn.never rfl (pi_enum (by rfl) B.enumerate (pa_cons (pv 0) pa_nil)) (pg_tup (by rfl) (pgs_cons (pg_name (i := 2) scNeedRows.nd rfl (Or.inl rfl)) (pgs_cons (pg_tup (by rfl) (pgs_cons (pg_name (i := 4) scNeedRows.nd rfl (Or.inl rfl)) (pgs_cons (pg_name (i := 5) scNeedRows.nd rfl (Or.inl rfl)) pgs_nil))) pgs_nil))) (pss_one
      (ps_if (PW.pt (pw_and (pt_cmpR op_ne (pv 5) (pe_glob (v := .str "sea") (by rfl) C.SEA ⟨_, rfl⟩) (nomark _)) (pw_and1 (pt_cmp (pc_dnotin hu (pv 5) (pv 1)))))) (pss_one
      ps_never) pss_nil))))))), ?_⟩
    refine ⟨_, rfl, .ref l, .ty "list", _, _, true, rfl, .ty "list", .base (.lst hR.lst), kit_ty (by decide +kernel), _, rfl, ?_⟩
    refine iteF ?_
    have hlen : (AR.map fun q => V.ref q.1).length = (rowsOf AR).length := by rw [List.length_map, List.length_map]
    have ho := hG.one
    have hm := hG.most
    refine ⟨_, rfl, l, _, rfl, .inl (.inl (.inl hR.lst)), 1, _, rfl, rfl, _, rfl, ?_⟩
    refine iteD (by omega) ?_
    refine ⟨_, _, rfl, rfl, _, rfl, ?_⟩
    refine iteNS (by omega) ?_
    intro D hD
    have s0 : Same H (upd H D (.dK [])) := same_upd hD
    have hnd := hG.nm.nd
    -- the first loop
    refine ⟨_, rfl, l, _, rfl, s0.seq (.inl (.inl hR.lst)), ?_⟩
    refine for_it (walk_enum (xs := AR.map fun q => V.ref q.1)) (fun i σ H2 => ∃ (v2 v3 v4 v5 : Option V), σ = [some (.ref l), some (.ref D), v2, v3, v4, v5] ∧ Same H H2 ∧ H2 D = some (.dK (kmap (fun _ => .bl true) (((rowsOf AR).map (·.1)).take i))))
      ⟨_, _, _, _, rfl, s0, by rw [upd_same, List.take_zero]; rfl⟩ (fun _ _ _ _ h => by obtain ⟨_, _, _, _, _, s, _⟩ := h; exact s.seq (.inl (.inl hR.lst))) ?_ ?_
    · rintro i x σ H2 H3 hi ⟨v2, v3, v4, v5, rfl, s2, hD2⟩ ⟨T, x1, x2, rfl, hT, rfl, e1, e2⟩
      rw [List.length_map] at hi
      have hx1 : x1 = .int (i : Int) := (Option.some.inj e1).symm
      subst hx1
      have hx2 : x2 = .ref AR[i].1 := row_at e2 hi
      subst hx2
      have hmem : AR[i] ∈ AR := List.getElem_mem hi
      have hrow : AR[i].2 ∈ rowsOf AR := List.mem_map.mpr ⟨_, hmem, rfl⟩
      have hok := hG.row hrow
      have s3 : Same H (upd H2 T (.tup [.int (i : Int), .ref AR[i].1])) := s2.trans (same_upd hT)
      have hD3 : (upd H2 T (.tup [.int (i : Int), .ref AR[i].1])) D = some (.dK (kmap (fun _ => .bl true) (((rowsOf AR).map (·.1)).take i))) := by
        rw [upd_ne (ne_of_none hD2 hT)]
        exact hD2
      have hni : ((rowsOf AR).map (·.1))[i]? = some AR[i].2.1 := by
        rw [List.getElem?_map, List.getElem?_map, List.getElem?_eq_getElem hi]
        rfl
      have hnot : AR[i].2.1 ∉ ((rowsOf AR).map (·.1)).take i := by
        intro hm2
        obtain ⟨j, hj⟩ := List.getElem?_of_mem hm2
        have hji : j < i := by
          have := (List.getElem?_eq_some_iff.mp hj).1
          rw [List.length_take] at this
          omega
        rw [List.getElem?_take_of_lt hji] at hj
        have := nd_ix hnd hj hni
        omega
      refine ⟨T, _, rfl, .inl (.inl upd_same), rfl, _, _, rfl, _, _, rfl, rfl, ?_⟩
      refine ⟨_, rfl, AR[i].1, AR[i].2, rfl, s3 _ _ (hR.tup _ hmem), hok, fun H4 s4 => ⟨_, rfl, ?_⟩⟩
      refine iteF ?_
      have s5 : Same H H4 := s3.trans s4
      have hD4 := s4 _ _ hD3
      have ht4 : SqT K H4 AR[i].1 [.str AR[i].2.1, .str AR[i].2.2] := .inl (.inl (s5 _ _ (hR.tup _ hmem)))
      refine ⟨_, rfl, AR[i].1, _, _, _, rfl, rfl, ht4, atI_nat (j := 0) rfl, _, rfl, D, _, rfl, DGet.k (k := Sum.inr AR[i].2.1) hD4, _, rfl, ?_⟩
      rw [kmap_not hnot]
      refine iteF ?_
      refine ⟨_, rfl, _, rfl, AR[i].1, _, _, _, rfl, rfl, ht4, atI_nat (j := 0) rfl, D, _, rfl, DPut.k (k := Sum.inr AR[i].2.1) hD4 ?_, ?_⟩
      · rw [kmap_len, List.length_take, nmlen]
        rw [List.length_map] at hm
        exact small1000 (by omega)
      · refine ⟨_, _, _, _, rfl, fun b o hb => ?_, ?_⟩
        · rw [upd_ne (ne_of_none hb hD)]
          exact s5 b o hb
        · have := kmap_put (f := fun _ => .bl true) hnot
          rw [upd_same, this, List.take_add_one, hni]
          rfl
    · rintro σ H2 ⟨v2, v3, v4, v5, rfl, s2, hD2⟩
      rw [List.take_of_length_le (by rw [List.length_map, List.length_map, List.length_map]; exact Nat.le_refl _)] at hD2
      obtain ⟨rk, hrk⟩ := hG.rank
      refine ⟨_, rfl, l, _, rfl, s2.seq (.inl (.inl hR.lst)), ?_⟩
      refine for_it (walk_enum (xs := AR.map fun q => V.ref q.1)) (fun i σ H3 => ∃ (v2 v3 v4 v5 : Option V), σ = [some (.ref l), some (.ref D), v2, v3, v4, v5] ∧ Same H2 H3)
        ⟨_, _, _, _, rfl, .refl _⟩ (fun _ _ _ _ h => by obtain ⟨_, _, _, _, _, s⟩ := h; exact (s2.trans s).seq (.inl (.inl hR.lst))) ?_ ?_
      · rintro i x σ H3 H4 hi ⟨v2, v3, v4, v5, rfl, s3⟩ ⟨T, x1, x2, rfl, hT, rfl, e1, e2⟩
        rw [List.length_map] at hi
        have hx2 : x2 = .ref AR[i].1 := row_at e2 hi
        subst hx2
        have hmem : AR[i] ∈ AR := List.getElem_mem hi
        have hrow : AR[i].2 ∈ rowsOf AR := List.mem_map.mpr ⟨_, hmem, rfl⟩
        have s4 : Same H2 (upd H3 T (.tup [x1, .ref AR[i].1])) := s3.trans (same_upd hT)
        have ht4 : SqT K (upd H3 T (.tup [x1, .ref AR[i].1])) AR[i].1 [.str AR[i].2.1, .str AR[i].2.2] := .inl (.inl (s4 _ _ (s2 _ _ (hR.tup _ hmem))))
        refine ⟨T, _, rfl, .inl (.inl upd_same), rfl, _, _, rfl, _, _, rfl, _, _, rfl, ht4, rfl, _, _, rfl, _, _, rfl, rfl, rfl, ?_⟩
        have hc : AR[i].2.2 = "sea" ∨ AR[i].2.2 ∈ (rowsOf AR).map (·.1) := by
          rcases hrk _ hrow with e | ⟨e, _⟩
          · exact .inl e
          · exact .inr e
        refine ⟨_, rfl, rfl, _, rfl, ?_⟩
        refine ite2 (fun h1 => ?_) (fun h1 => ?_)
        · have hmm : AR[i].2.2 ∈ (rowsOf AR).map (·.1) := by
            rcases hc with e | e
            · rw [decide_eq_true (congrArg V.str e)] at h1
              cases h1
            · exact e
          refine ⟨_, rfl, _, rfl, D, _, rfl, DGet.k (k := Sum.inr AR[i].2.2) (s4 _ _ hD2), _, rfl, ?_⟩
          rw [kmap_at hmm]
          refine iteF ?_
          exact ⟨_, _, _, _, rfl, s4⟩
        · exact ⟨_, _, _, _, rfl, s4⟩
      · rintro σ H3 ⟨v2, v3, v4, v5, rfl, s3⟩
        exact k H3 (s2.trans s3)
end
end K0
end
section
set_option Elab.async false
set_option linter.all false
set_option maxRecDepth 100000
namespace K0
open PySem PySem.Spec PyProof.Rows L2
/-! ### courses -/
def lowR (R : List Row) (x : Str) : Str := ((R.find? fun r => decide (r.1 = x)).map (·.2)).getD "sea"
def itr (low : Str → Str) : Nat → Str → Str
  | 0, x => x
  | n + 1, x => low (itr low n x)
theorem itr_shift (low : Str → Str) : ∀ (n : Nat) (x : Str), itr low (n + 1) x = itr low n (low x)
  | 0, _ => rfl
  | n + 1, x => by
    show low (itr low (n + 1) x) = low (itr low n (low x))
    rw [itr_shift low n x]
def crs (low : Str → Str) : Nat → Str → List Str
  | 0, _ => []
  | n + 1, x => if x = "sea" then [] else x :: crs low n (low x)
def course (R : List Row) (x : Str) : List Str := crs (lowR R) R.length x
theorem low_row {R : List Row} {x : Str} (h : x ∈ R.map (·.1)) : ∃ r ∈ R, r.1 = x ∧ r.2 = lowR R x := by
  unfold lowR
  cases e : R.find? (fun r => decide (r.1 = x)) with
  | none =>
    obtain ⟨r, hr, er⟩ := List.mem_map.mp h
    have := List.find?_eq_none.mp e r hr
    exact absurd (decide_eq_true er) this
  | some r =>
    have h1 := List.mem_of_find?_eq_some e
    have h2 := List.find?_some e
    exact ⟨r, h1, of_decide_eq_true h2, rfl⟩
theorem low_at {R : List Row} (hd : (R.map (·.1)).Nodup) {r : Row} (h : r ∈ R) : lowR R r.1 = r.2 := by
  obtain ⟨q, hq, e1, e2⟩ := low_row (List.mem_map.mpr ⟨r, h, rfl⟩)
  obtain ⟨i, hi⟩ := List.getElem?_of_mem h
  obtain ⟨j, hj⟩ := List.getElem?_of_mem hq
  have g1 : (R.map (·.1))[i]? = some r.1 := by rw [List.getElem?_map, hi]; rfl
  have g2 : (R.map (·.1))[j]? = some r.1 := by rw [List.getElem?_map, hj, ← e1]; rfl
  have : i = j := nd_ix hd g1 g2
  subst this
  rw [hi] at hj
  rw [← e2, Option.some.inj hj]
theorem sub_length : ∀ {c ns : List Str}, c.Nodup → (∀ x ∈ c, x ∈ ns) → c.length ≤ ns.length
  | [], _, _, _ => Nat.zero_le _
  | a :: r, ns, h, hs => by
    obtain ⟨h1, h2⟩ := List.nodup_cons.mp h
    have ha : a ∈ ns := hs a List.mem_cons_self
    have ih := sub_length (ns := ns.erase a) h2 fun x hx => (List.mem_erase_of_ne (fun e => h1 (by rw [← e]; exact hx))).mpr (hs x (List.mem_cons_of_mem _ hx))
    rw [List.length_erase_of_mem ha] at ih
    have : 0 < ns.length := List.length_pos_of_mem ha
    rw [List.length_cons]
    omega
theorem crs_full (low : Str → Str) : ∀ (m n : Nat) (x : Str), m ≤ n → (∀ i, i < m → itr low i x ≠ "sea") → itr low m x = "sea" → crs low n x = (List.range m).map fun i => itr low i x
  | 0, n, x, _, _, h => by
    have h : x = "sea" := h
    subst h
    cases n with
    | zero => rfl
    | succ n => rfl
  | m + 1, 0, _, h, _, _ => absurd h (by omega)
  | m + 1, n + 1, x, h, h1, h2 => by
    have h0 : x ≠ "sea" := h1 0 (by omega)
    have ih := crs_full low m n (low x) (by omega) (fun i hi => by rw [← itr_shift]; exact h1 (i + 1) (by omega)) (by rw [← itr_shift]; exact h2)
    show (if x = "sea" then [] else x :: crs low n (low x)) = _
    rw [if_neg h0, ih, List.range_succ_eq_map, List.map_cons, List.map_map]
    refine congrArg (x :: ·) (List.map_congr_left fun i _ => ?_)
    exact (itr_shift low i x).symm
theorem reach {R : List Row} {rk : Str → Nat} (hr : ∀ r ∈ R, r.2 = "sea" ∨ (r.2 ∈ R.map (·.1) ∧ rk r.2 < rk r.1)) : ∀ (k : Nat) (x : Str), rk x ≤ k → x ∈ R.map (·.1) →
    ∃ m, 1 ≤ m ∧ (∀ i, i < m → itr (lowR R) i x ∈ R.map (·.1)) ∧ (∀ i j, i < j → j < m → rk (itr (lowR R) j x) < rk (itr (lowR R) i x)) ∧ itr (lowR R) m x = "sea" := by
  intro k
  induction k with
  | zero =>
    intro x hk hx
    obtain ⟨r, hrm, e1, e2⟩ := low_row hx
    rcases hr r hrm with e | ⟨e, h⟩
    · refine ⟨1, Nat.le_refl _, fun i hi => ?_, fun i j hij hj => by omega, ?_⟩
      · have : i = 0 := by omega
        subst this
        exact hx
      · show lowR R x = "sea"
        rw [← e2, e]
    · rw [e1] at h
      omega
  | succ k ih =>
    intro x hk hx
    obtain ⟨r, hrm, e1, e2⟩ := low_row hx
    rcases hr r hrm with e | ⟨e, h⟩
    · refine ⟨1, Nat.le_refl _, fun i hi => ?_, fun i j hij hj => by omega, ?_⟩
      · have : i = 0 := by omega
        subst this
        exact hx
      · show lowR R x = "sea"
        rw [← e2, e]
    · rw [e1, e2] at h
      rw [e2] at e
      obtain ⟨m, h1, h2, h3, h4⟩ := ih (lowR R x) (by omega) e
      have first : ∀ j, j < m → rk (itr (lowR R) j (lowR R x)) < rk x := by
        intro j hj
        rcases Nat.eq_zero_or_pos j with z | z
        · subst z
          exact h
        · exact Nat.lt_trans (h3 0 j z hj) h
      refine ⟨m + 1, by omega, fun i hi => ?_, fun i j hij hj => ?_, by rw [itr_shift]; exact h4⟩
      · cases i with
        | zero => exact hx
        | succ i =>
          rw [itr_shift]
          exact h2 i (by omega)
      · cases j with
        | zero => omega
        | succ j =>
          rw [itr_shift]
          cases i with
          | zero => exact first j (by omega)
          | succ i =>
            rw [itr_shift]
            exact h3 i j (by omega) (by omega)
/-- the course of a weir, and how long it is -/
structure CourseIs (R : List Row) (x : Str) (m : Nat) : Prop where
  one : 1 ≤ m
  most : m ≤ R.length
  eq : course R x = (List.range m).map fun i => itr (lowR R) i x
  mem : ∀ i, i < m → itr (lowR R) i x ∈ R.map (·.1)
  sea : itr (lowR R) m x = "sea"
theorem course_is {R : List Row} (g : GoodRows R) {x : Str} (hx : x ∈ R.map (·.1)) : ∃ m, CourseIs R x m := by
  obtain ⟨rk, hr⟩ := g.rank
  obtain ⟨m, h1, h2, h3, h4⟩ := reach hr (rk x) x (Nat.le_refl _) hx
  have hm : m ≤ R.length := by
    have nd : ((List.range m).map fun i => itr (lowR R) i x).Nodup := nodup_range _ _ fun i j hi hj e => by
      rcases Nat.lt_trichotomy i j with z | z | z
      · have := h3 i j z hj
        rw [e] at this
        omega
      · exact z
      · have := h3 j i z hi
        rw [e] at this
        omega
    have := sub_length nd fun y hy => by
      obtain ⟨i, hi, e⟩ := List.mem_map.mp hy
      rw [← e]
      exact h2 i (List.mem_range.mp hi)
    rw [List.length_map, List.length_range, List.length_map] at this
    exact this
  exact ⟨m, h1, hm, crs_full _ _ _ _ hm (fun i hi => g.nm.sea _ (h2 i hi)) h4, h2, h4⟩
theorem CourseIs.len {R : List Row} {x : Str} {m : Nat} (c : CourseIs R x m) : (course R x).length = m := by
  rw [c.eq, List.length_map, List.length_range]
end K0
end
section
set_option Elab.async false
set_option linter.all false
set_option maxRecDepth 100000
namespace L2
open PySem PySem.Spec PyProof.Rows
/-! ### rules with the text's part named, for the blocks of comprehensions -/
section
variable {X : Cx} {K : PySem.W.Frag}
theorem inK (e : X.K = K := by rfl) : OpR X (compareOp .In) (rIn K false) := e ▸ op_in_seq
theorem notInK (e : X.K = K := by rfl) : OpR X (compareOp .NotIn) (rIn K true) := e ▸ op_notIn_seq
theorem ixLK (e : X.K = K := by rfl) : IxR X (rIxL K) := e ▸ ix_list
theorem ixTK (e : X.K = K := by rfl) : IxR X (rIxT K) := e ▸ ix_tup
theorem lenK (e : X.K = K := by rfl) : CallR X (.builtin "len") (fun xs H Q => ∃ p ys, xs = [.ref p] ∧ (SqL K H p ys ∨ SqT K H p ys) ∧ Q (.int ys.length) H) := e ▸ call_len_seq
theorem listK (e : X.K = K := by rfl) : CallR X (.type "list") (fun xs H Q => ∃ p ys, xs = [.ref p] ∧ (SqL K H p ys ∨ SqT K H p ys) ∧ ∀ l, H l = none → Q (.ref l) (upd H l (.lst ys))) := e ▸ call_list_of
theorem tupleK (e : X.K = K := by rfl) : CallR X (.type "tuple") (fun xs H Q => ∃ p ys, xs = [.ref p] ∧ ((SqL K H p ys ∧ ∀ l, H l = none → Q (.ref l) (upd H l (.tup ys))) ∨ (SqT K H p ys ∧ Q (.ref p) H))) := e ▸ call_tuple_of
theorem fldK {o : Expr} {f : Str} {pos : Pos} {ta : TE} (he : PE X o ta) (hb : attributeBase o f X.env (eval o X.env) = eval o X.env) (e : X.K = K := by rfl) : PE X (.Attribute o f pos) (tFld K ta f) := e ▸ pe_fld he hb
theorem tgK {es : List Expr} {k : Nat} {pos : Pos} {t : TGs} {n : Nat} (hc : X.calm = true) (h : PGs X es t)
    (hn : (assignEach es X.env).length = n := by rfl) (hst : (assignEach es X.env).findIdx? (·.1) = none := by rfl) (e : X.K = K := by rfl) : PG X (.Tuple es k pos) (gTup K n t) := e ▸ pg_tup hc h hn hst
end
end L2
namespace L2
open PySem PySem.Spec PyProof.Rows
/-! ### tuples whose methods are called: the object is known to be plain -/
structure PlainT (o : Obj) : Prop where
  cls : o.cls = .type "tuple"
  dict : o.dict = none
section
variable {X : Cx} {K : PySem.W.Frag}
theorem k0_tupleF : CallR X (.type "tuple") (fun xs H Q => ∃ p ys, xs = [.ref p] ∧ SqL X.K H p ys ∧ ∀ l o, H l = none → PlainT o → Q (.ref l) (upd H l (.frz o (.tup ys)))) := by
  intro pins s σ H xs us Q I r h
  obtain ⟨p, ys, rfl, hq, q⟩ := h
  obtain ⟨u, rfl, rx⟩ := vals1 r
  cases rx
  obtain ⟨its, r', pl, hz⟩ := I.list hq
  have hlen := r'.length
  refine call_tuple_list pl.isList (fun h' kp => ?_) (by simp only [List.size_toArray] <;> omega)
  have I1 : Inv X pins σ H { s with heap := h' } := I.kept (t' := s.toks) kp
  have I2 : Inv X pins σ (upd H h'.objs.size (.frz { cls := .type "tuple", data := .seq its.toArray } (.tup ys))) { s with heap := h'.push { cls := .type "tuple", data := .seq its.toArray } } :=
    I1.laid (t' := s.toks) (fun b o e => Heap.get?_push_of_some _ e) (Nat.le_refl _) (show ObjOk X.prog X.w _ _ _ (.frz _ (.tup ys)) from ⟨Heap.get?_push_size _ rfl, hz, its, r', IsTup.new _ _⟩)
  exact ⟨.ref h'.objs.size, _, I2, rfl, q _ _ (I1.hok.fresh (Nat.le_refl _)) ⟨rfl, rfl⟩⟩
theorem tupleF (e : X.K = K := by rfl) : CallR X (.type "tuple") (fun xs H Q => ∃ p ys, xs = [.ref p] ∧ SqL K H p ys ∧ ∀ l o, H l = none → PlainT o → Q (.ref l) (upd H l (.frz o (.tup ys)))) := e ▸ k0_tupleF
/-- t.m(e, ..), t such a tuple -/
def tBMT (r : V → List V → Hp → VK → Prop) (to : TE) (t : TA) : TE := fun σ H Q => to σ H fun x H1 => (∃ p o xs, x = .ref p ∧ H1 p = some (.frz o (.tup xs)) ∧ PlainT o) ∧ t σ H1 fun xs H2 => r x xs H2 Q
variable {o e : Expr} {es : List Expr} {to : TE} {t : TA} {name : Str} {apos cpos : Pos} {id : String} {r : V → List V → Hp → VK → Prop}
theorem k0_bmT (slot : Slot "tuple" name id) (hty : typeOf (.builtin id) = pure (.type "method_descriptor")) (hm : MtR X id r) (ho : PE X o to) (ha : PA X (e :: es) t)
    (hbase : attributeBase o name X.env (eval o X.env) = eval o X.env := by rfl)
    (hfew : ((backTo cpos (starEach (e :: es) X.env)).all (fun x => !x.1) && (backToKw cpos (keywordEach [] X.env)).all (fun x => x.1.isSome)
      && decide ((e :: es).length + ([] : List Keyword).length + (if ([] : List Keyword).isEmpty then 0 else 1) < 30)) = true := by rfl)
    (hline : (apos.endLine == cpos.line) = true := by rfl) (hs : starEach (e :: es) X.env = (false, eval e X.env) :: starEach es X.env := by rfl) (hplain : (backTo cpos (starEach es X.env)).any (·.1) = false := by rfl) :
    PE X (.Call (.Attribute o name apos) (e :: es) [] cpos) (tBMT r to t) := by
  refine ⟨fun pins s σ H Q I h => ?_⟩
  refine wpAny_Call_method_late hbase hfew hline rfl (thn (ho.run pins s σ H _ I h) fun v s1 ⟨x, H1, I1, r1, ⟨p, ob, xs, ex, hp, pl⟩, q1⟩ => ?_)
  subst ex
  obtain rfl : v = Value.ref p := r1
  obtain ⟨hob, _⟩ := I1.hok p _ hp
  refine ⟨"tuple", id, PySem.F.plainAttrs_tuple, slot, hty, ⟨ob, hob, pl.cls⟩, fun a e => ?_, ?_⟩
  · cases e
    exact ⟨ob, hob, pl.dict⟩
  have hA := ha.run cpos pins s1 σ H1 _ I1 q1
  rw [hs] at hA ⊢
  refine Calls.callWith_builtin (by show (false || (backTo cpos (starEach es X.env)).any (·.1)) = false; rw [hplain] <;> rfl) (Calls.evalArgs_plain ?_)
  exact thn hA fun us s2 ⟨vs, H2, I2, r2, q2⟩ => hm pins s2 σ H2 (.ref p) vs (.ref p) us Q I2 rfl r2 q2
end
end L2
namespace K0
open PySem PySem.Spec PyProof.Rows L2
/-- such a tuple of texts -/
def FT (H : Hp) (t : Addr) (l : List Str) : Prop := ∃ o, PlainT o ∧ H t = some (.frz o (.tup (l.map V.str)))
theorem FT.rd {H : Hp} {t : Addr} {l : List Str} (h : FT H t l) : Rd H t (.tup (l.map V.str)) := by
  obtain ⟨o, _, e⟩ := h
  exact .inr ⟨o, e⟩
theorem FT.to {H H' : Hp} {t : Addr} {l : List Str} (h : FT H t l) (k : ∀ u, H t = some u → (∀ xs, u ≠ .lst xs) → (∀ xs, u ≠ .tup xs) → (∀ kvs, u ≠ .dK kvs) → (∀ a b c, u ≠ .ins a b c) → (∀ ps, u ≠ .tbl ps) → H' t = some u) : FT H' t l := by
  obtain ⟨o, p, e⟩ := h
  exact ⟨o, p, k _ e (fun _ z => by cases z) (fun _ z => by cases z) (fun _ z => by cases z) (fun _ _ _ z => by cases z) (fun _ z => by cases z)⟩
theorem FT.same {H H' : Hp} {t : Addr} {l : List Str} (h : FT H t l) (s : Same H H') : FT H' t l := h.to fun _ e _ _ _ _ _ => s _ _ e
theorem FT.upd {H : Hp} {t a : Addr} {l : List Str} {u : HO} (h : FT H t l) (n : t ≠ a) : FT (upd H a u) t l := h.to fun _ e _ _ _ _ _ => (upd_ne n).trans e
theorem FT.ne {H : Hp} {t a : Addr} {l : List Str} {u : HO} (h : FT H t l) (e : H a = some u) (n : ∀ o l, u ≠ .frz o (.tup l)) : t ≠ a := by
  obtain ⟨o, p, q⟩ := h
  intro z
  rw [z, e] at q
  exact n _ _ (Option.some.inj q)
theorem FT.new {H : Hp} {t a : Addr} {l : List Str} (h : FT H t l) (e : H a = none) : t ≠ a := by
  obtain ⟨o, p, q⟩ := h
  exact ne_of_none q e
end K0
end
section
set_option Elab.async false
set_option linter.all false
set_option maxRecDepth 100000
namespace K0
open PySem PySem.Spec PyProof.Rows L2
abbrev nmsOf (R : List Row) : List Str := R.map (·.1)
abbrev belowK (R : List Row) : List (Key × V) := kmap (fun y => .str (lowR R y)) (nmsOf R)
abbrev scCourse_N : List Str := ["below", "weir", "course"]
theorem scCourse : FnScope scCourse_N ["below", "weir"] (defScope sCourse) := ⟨rfl, rfl, rfl, by decide +kernel, rfl, by decide +kernel, by decide +kernel⟩
def spCourse (K : PySem.W.Frag) : Sp := fun vs H Q _ => ∃ (d : Addr) (R : List Row) (x : Str), vs = [.ref d, .str x] ∧ Rd H d (.dK (belowK R)) ∧ GoodRows R ∧ x ∈ nmsOf R ∧
  ∀ (H' : Hp) (t : Addr), Same H H' → H t = none → FT H' t (course R x) → Q (.ref t) H'
theorem same_rd {H H' : Hp} {a : Addr} {u : HO} (s : Same H H') (r : Rd H a u) : Rd H' a u := r.elim (fun h => .inl (s _ _ h)) fun ⟨o, h⟩ => .inr ⟨o, s _ _ h⟩
theorem dget_rk {H : Hp} {a : Addr} {kvs : List (Key × V)} {k : Key} (e : Rd H a (.dK kvs)) : DGet H a (kV k) (valV kvs k) := .inl ⟨kvs, k, e, rfl, rfl⟩
theorem dget_rn {H : Hp} {a : Addr} {f : Str → V} {ns : List Str} {x : Str} (e : Rd H a (.dK (kmap f ns))) (h : x ∈ ns) : DGet H a (.str x) (some (f x)) := by
  have := dget_rk (k := Sum.inr x) e
  rw [kmap_at h] at this
  exact this
theorem last_of {m : Nat} {f : Nat → Str} (h : 1 ≤ m) : atI (((List.range m).map f).map V.str) (-1) = some (.str (f (m - 1))) := by
  unfold atI ixN
  rw [List.length_map, List.length_map, List.length_range, if_neg (by omega), if_pos (by omega)]
  show (((List.range m).map f).map V.str)[((-1 : Int) + (m : Int)).toNat]? = _
  rw [show ((-1 : Int) + (m : Int)).toNat = m - 1 by omega, List.getElem?_map, List.getElem?_map, List.getElem?_range (by omega)]
  rfl
section
variable {P : Program} {w : World} {K : PySem.W.Frag} {mg : Str → Option Value} {base : Heap} {tS tM tL : Tok}
theorem ok_course {f : Addr} {fd : FuncData} (F : FnP K "_course" sCourse f fd) (B : Bl mg) (C : Gc mg tS tM tL) : FnOk P w K mg base CX0 1 f fd ["below", "weir"] (spCourse K) := by
  refine F.ok scCourse (fun vs H Q E h => ?_) (fun cdv A outer s H vs Q E hr h => ?_)
  · obtain ⟨d, R, x, rfl, _⟩ := h
    rfl
  · obtain ⟨d, R, x, rfl, hd, hG, hx, k⟩ := h
    have hu := hu_of hr
    obtain ⟨m, hC⟩ := course_is hG hx
    refine ⟨_, PSs.nox (pss_cons
      (ps_set (i := 2) scCourse.nd rfl (Or.inl rfl) (pe_lst (pa_cons (pv 1) pa_nil)))
      (pss_cons
      (ps_while PassesOwn.never (PW.pt (pw_and (pt_cmpR op_ne (pe_dget hu (pv 0) (pe_ix (ixLK (K := K)) (pv 2) (pe_un un_neg pe_int) (fun _ _ => rfl)) (fun _ _ => rfl)) (pe_glob (v := .str "sea") (by rfl) C.SEA ⟨_, rfl⟩) (nomark _)) (pw_and1 (pt_cmpR op_le (pe_callB (lenK (K := K)) (by rfl) B.len PySem.boot_len (pa_cons (pv 2) pa_nil)) (pe_callB k0_lenD (by rfl) B.len PySem.boot_len (pa_cons (pv 0) pa_nil)) (nomark _))))) (pss_one
      (ps_expr (pe_bm PySem.F.plainAttrs_list PySem.F.slot_list_append PySem.F.type_list_append mt_append (pv 2) (pa_cons (pe_dget hu (pv 0) (pe_ix (ixLK (K := K)) (pv 2) (pe_un un_neg pe_int) (fun _ _ => rfl)) (fun _ _ => rfl)) pa_nil)))))
      (pss_one
      (ps_ret (pe_callTy (tupleF (K := K)) (by rfl) B.tuple (by decide +kernel) (pa_cons (pv 2) pa_nil)))))), ?_⟩
    refine ⟨_, rfl, by show 1 ≤ sizeLine; decide, fun c nc => ?_⟩
    have s0 : Same H (upd H c (.lst [.str x])) := same_upd nc
    refine while_by (fun σ H2 => ∃ i, 1 ≤ i ∧ i ≤ m ∧ σ = [some (.ref d), some (.str x), some (.ref c)] ∧ Same H H2 ∧ H2 c = some (.lst (((List.range i).map fun j => itr (lowR R) j x).map V.str)))
      (fun _ H2 => match H2 c with | some (.lst xs) => m - xs.length | _ => 0) ⟨1, Nat.le_refl _, hC.one, rfl, s0, upd_same⟩ ?_ ?_
    · rintro σ H2 ⟨i, h1, h2, rfl, s2, hc⟩
      have hmem : itr (lowR R) (i - 1) x ∈ nmsOf R := hC.mem _ (by omega)
      refine ⟨_, rfl, _, rfl, 1, rfl, c, _, _, _, rfl, rfl, .inl (.inl hc), last_of h1, d, _, rfl, dget_rn (same_rd s2 hd) hmem, rfl, _, rfl, ?_⟩
      have enext : lowR R (itr (lowR R) (i - 1) x) = itr (lowR R) i x := by
        have e : i = i - 1 + 1 := by omega
        exact (congrArg (fun j => itr (lowR R) j x) e).symm
      have hl0 : (((List.range i).map fun j => itr (lowR R) j x).map V.str).length = i := by
        rw [List.length_map, List.length_map, List.length_range]
      have hn0 : (belowK R).length = R.length := by
        rw [kmap_len, List.length_map]
      have hmost := hC.most
      have hRm := hG.most
      refine ite2 (fun h => ?_) (fun h => ?_)
      · have him : i < m := by
          rcases Nat.lt_or_ge i m with z | z
          · exact z
          · have e : i = m := by omega
            have e2 : V.str (lowR R (itr (lowR R) (i - 1) x)) = V.str "sea" := by rw [enext, e, hC.sea]
            rw [decide_eq_true e2] at h
            cases h
        refine ⟨_, rfl, c, _, rfl, .inl (.inl (.inl hc)), _, rfl, d, _, rfl, same_rd s2 hd, _, _, rfl, rfl, _, rfl, ?_⟩
        refine iteD (by omega) ?_
        refine ⟨_, rfl, .inl ⟨rfl, _, .inl (.inl hc)⟩, _, rfl, _, rfl, 1, rfl, c, _, _, _, rfl, rfl, .inl (.inl hc), last_of h1, d, _, rfl, dget_rn (same_rd s2 hd) hmem, ?_⟩
        refine ⟨c, _, _, rfl, rfl, hc, by rw [hl0]; exact small1000 (by omega), ?_⟩
        have ecat : (((List.range i).map fun j => itr (lowR R) j x).map V.str) ++ [V.str (lowR R (itr (lowR R) (i - 1) x))] = ((List.range (i + 1)).map fun j => itr (lowR R) j x).map V.str := by
          rw [List.range_succ, List.map_append, List.map_append, enext]
          rfl
        rw [ecat]
        refine ⟨⟨i + 1, by omega, by omega, rfl, fun b o hb => ?_, upd_same⟩, ?_⟩
        · rw [upd_ne (ne_of_none hb nc)]
          exact s2 b o hb
        · show (match upd H2 c (.lst (((List.range (i + 1)).map fun j => itr (lowR R) j x).map V.str)) c with | some (.lst xs) => m - xs.length | _ => 0) < (match H2 c with | some (.lst xs) => m - xs.length | _ => 0)
          rw [upd_same, hc]
          show m - (((List.range (i + 1)).map fun j => itr (lowR R) j x).map V.str).length < m - (((List.range i).map fun j => itr (lowR R) j x).map V.str).length
          rw [hl0, List.length_map, List.length_map, List.length_range]
          omega
      · have him : i = m := by
          rcases Nat.lt_or_ge i m with z | z
          · exfalso
            have hne := hG.nm.sea _ (hC.mem i z)
            refine h ?_
            rw [enext, decide_eq_false (fun q => hne (V.str.inj q))]
            rfl
          · omega
        subst him
        refine ⟨_, rfl, c, _, rfl, .inl (.inl hc), fun t ot nt pt => ?_⟩
        rw [← hC.eq]
        exact k _ t (s2.trans (same_upd nt)) (s2.free nt) ⟨ot, pt, upd_same⟩
    · intro σ H2 Q1 Q2 hQ h
      obtain ⟨v1, e1, v2, e2, i, e3, p, xs, j, v, e4, e5, h6, h7, a, u, e8, g, hs, b, e9, h⟩ := h
      refine ⟨v1, e1, v2, e2, i, e3, p, xs, j, v, e4, e5, h6, h7, a, u, e8, g, hs, b, e9, ?_⟩
      cases b with
      | false => exact hQ _ _ h
      | true =>
        obtain ⟨w1, f1, q, ys, f2, f3, w2, f4, q2, kv, f5, f6, n1, n2, f7, f8, b2, f9, h⟩ := h
        exact ⟨w1, f1, q, ys, f2, f3, w2, f4, q2, kv, f5, f6, n1, n2, f7, f8, b2, f9, hQ _ _ h⟩
end
end K0
end
section
set_option Elab.async false
set_option linter.all false
set_option maxRecDepth 100000
namespace L2
open PySem PySem.Spec PyProof.Rows
/-! ### enumerate of a dict -/
section
variable {prog : Program} {w : World} {A : Around} {E : Value → Shared → Prop} {s : Shared}
theorem k0_key_item {it d : Addr} {i n ep : Nat} {od : Obj} {es : Array DictEntry} {en : DictEntry} {Q : Value → Shared → Prop} (hit : s.heap.IsKeyIter it d i n ep) (hod : s.heap.get? d = some od) (hdd : od.data = .dict es ep)
    (hsz : es.size = n) (hx : es[i]? = some en) (hQ : ∀ h', h'.IsKeyIter it d (i + 1) n ep → Heap.SameBut it s.heap h' → Q en.key { s with heap := h' }) : wpAny (model prog w) A (Builtin.SmallTypes.nextOf (.ref it)) Q E s := by
  obtain ⟨o, ho, hc, hd⟩ := id hit
  unfold Builtin.SmallTypes.nextOf
  refine wpAny_bind (wpAny_callSpecial?_slot (name := Str.ofString "__next__") hit.typeIs F.slot_dict_keyiterator_next
    (wpAny_call_entry F.slot_dict_keyiterator_next hit.typeIs F.entry_dict_keyiterator_next ?_ (F.args_dict_keyiterator_next_1 _)))
  refine wpAny_bind (wpAny_pure ?_)
  refine wpAny_bind ?_
  refine wpAny_bind ?_
  first | refine wpAny_bind (wpAny_typeNameOfWhole_keyiter hit.typeIs (wpAny_pure ?_)) | refine wpAny_bind (wpAny_typeNameOf_keyiter hit.typeIs (wpAny_pure ?_))
  refine wpAny_bind (wpAny_fieldsOf ho hd ?_)
  have hown : Builtin.Dict_items.ownsTuple "dict_keyiterator" = false := by decide
  simp only [hown, Bool.false_eq_true, if_false]
  show wpAny _ _ (if (Value.ref d == Value.none) = true then _ else _) _ _ s
  rw [if_neg (show ¬ ((Value.ref d == Value.none) = true) from Bool.false_ne_true)]
  refine wpAny_bind (wpAny_pure ?_)
  refine wpAny_bind (wpAny_dictEntries hod hdd ?_)
  rw [if_neg (by rw [hsz]; simp)]
  refine wpAny_bind (wpAny_pure ?_)
  refine wpAny_bind (wpAny_dictEpoch hod hdd ?_)
  rw [if_neg (by simp)]
  refine wpAny_pure ?_
  obtain ⟨hlt', hen⟩ := Array.getElem?_eq_some_iff.mp hx
  simp only [show ¬ ((i : Int) < 0) from by omega, if_false, Int.toNat_natCast, Array.getElem?_eq_getElem hlt']
  refine wpAny_bind ?_
  first | refine wpAny_bind (wpAny_typeNameOfWhole_keyiter hit.typeIs (wpAny_pure ?_)) | refine wpAny_bind (wpAny_typeNameOf_keyiter hit.typeIs (wpAny_pure ?_))
  refine wpAny_bind (wpAny_isOneOf_keyiter hit.typeIs ?_)
  show wpAny _ _ (setField (.ref it) 1 (rawInt ((i : Int) + 1)) >>= _) _ _ s
  refine wpAny_bind (wpAny_setField ho hd (by simp) ?_)
  have hit' : (s.heap.update it (Obj.mapFields (·.setIfInBounds 1 (rawInt ((i : Int) + 1))))).IsKeyIter it d (i + 1) n ep :=
    ⟨_, Heap.get?_update_self _ ho (Obj.isFreed_of_fields (Obj.data_mapFields hd _)), (Obj.cls_mapFields ..).trans hc, by rw [Obj.data_mapFields hd]; simp [rawInt]⟩
  refine wpAny_bind (wpAny_holding ?_)
  refine wpAny_bind (wpAny_isOneOf_keyiter (s := { s with heap := s.heap.update it (Obj.mapFields (·.setIfInBounds 1 (rawInt ((i : Int) + 1)))) }) hit'.typeIs ?_)
  show wpAny _ _ (pure es[i].key) _ _ _
  rw [hen]
  exact wpAny_pure (wpAny_pure ⟨_, rfl, wpAny_pure (hQ _ hit' (Heap.SameBut.update ..))⟩)
theorem k0_key_end {it d : Addr} {i n ep : Nat} {od : Obj} {es : Array DictEntry} {Q : Value → Shared → Prop} (hh : A.handled = none) (hit : s.heap.IsKeyIter it d i n ep) (hod : s.heap.get? d = some od) (hdd : od.data = .dict es ep)
    (hsz : es.size = n) (hge : n ≤ i) (hE : ∀ h' e, Heap.ExtBut it s.heap h' → (∃ o, h'.get? e = some o ∧ o.cls = .type "StopIteration") → E (.ref e) { s with heap := h' }) : wpAny (model prog w) A (Builtin.SmallTypes.nextOf (.ref it)) Q E s := by
  obtain ⟨o, ho, hc, hd⟩ := id hit
  unfold Builtin.SmallTypes.nextOf
  refine wpAny_bind (wpAny_callSpecial?_slot (name := Str.ofString "__next__") hit.typeIs F.slot_dict_keyiterator_next
    (wpAny_call_entry F.slot_dict_keyiterator_next hit.typeIs F.entry_dict_keyiterator_next ?_ (F.args_dict_keyiterator_next_1 _)))
  refine wpAny_bind (wpAny_pure ?_)
  refine wpAny_bind ?_
  refine wpAny_bind ?_
  first | refine wpAny_bind (wpAny_typeNameOfWhole_keyiter hit.typeIs (wpAny_pure ?_)) | refine wpAny_bind (wpAny_typeNameOf_keyiter hit.typeIs (wpAny_pure ?_))
  refine wpAny_bind (wpAny_fieldsOf ho hd ?_)
  have hown : Builtin.Dict_items.ownsTuple "dict_keyiterator" = false := by decide
  simp only [hown, Bool.false_eq_true, if_false]
  show wpAny _ _ (if (Value.ref d == Value.none) = true then _ else _) _ _ s
  rw [if_neg (show ¬ ((Value.ref d == Value.none) = true) from Bool.false_ne_true)]
  refine wpAny_bind (wpAny_pure ?_)
  refine wpAny_bind (wpAny_dictEntries hod hdd ?_)
  rw [if_neg (by rw [hsz]; simp)]
  refine wpAny_bind (wpAny_pure ?_)
  refine wpAny_bind (wpAny_dictEpoch hod hdd ?_)
  rw [if_neg (by simp)]
  refine wpAny_pure ?_
  have hge' : es.size ≤ i := by rw [hsz]; exact hge
  simp only [show ¬ ((i : Int) < 0) from by omega, if_false, Int.toNat_natCast, Array.getElem?_eq_none hge']
  refine wpAny_bind ?_
  first | refine wpAny_bind (wpAny_typeNameOfWhole_keyiter hit.typeIs (wpAny_pure ?_)) | refine wpAny_bind (wpAny_typeNameOf_keyiter hit.typeIs (wpAny_pure ?_))
  show wpAny _ _ (setField (.ref it) 0 .none >>= _) _ _ s
  refine wpAny_bind (wpAny_setField ho hd (by simp) ?_)
  show wpAny _ _ (newExc (.type "StopIteration") [] >>= _) _ _ _
  refine wpAny_bind ?_
  simp only [newExc, newTuple]
  refine wpAny_bind (wpAny_newObj_type ?_ (by size_fits))
  refine wpAny_bind (m := firstArgMember _ _) (wpAny_of_eq (a := Value.none) (by first | rfl | (simp only [firstArgMember]; rfl)) ?_)
  refine wpAny_newObj_type ?_ (by size_fits)
  simp only [raiseNew]
  refine wpAny_bind (wpAny_handled ?_)
  first | rw [show A.in1.handled = none from hh] | rw [hh]
  refine wpAny_bind (wpAny_pure (wpAny_throw ?_))
  exact hE _ _ (((Heap.SameBut.update ..).extBut.push _).push _) ⟨_, Heap.get?_push_size _ rfl, rfl⟩
end
theorem k0_draws {prog : Program} {w : World} {A : Around} (hh : A.handled = none) (it d : Addr) (hne : d ≠ it) (od : Obj) (es : Array DictEntry) (ep : Nat) (hdd : od.data = .dict es ep) :
    Draws prog w A it [it, d] es.size (fun i v => ∃ en, es[i]? = some en ∧ v = en.key) (fun i h => h.IsKeyIter it d i es.size ep ∧ h.get? d = some od) where
  live := fun _ _ st => let ⟨o, ho, _⟩ := st.1; ⟨o, ho⟩
  frame := fun _ _ _ st hk => ⟨st.1.at fun o e => hk it (by simp) o e, hk d (by simp) _ st.2⟩
  item := fun i s Q E hi st hQ => by
    refine k0_key_item st.1 st.2 hdd rfl (en := es[i]) (by simp [hi]) fun h' hit' hs' => ?_
    exact hQ _ h' s.toks ⟨_, by simp [hi], rfl⟩ ⟨hit', (hs'.2 d hne).trans st.2⟩ hs'
  done := fun s Q E st hE => k0_key_end hh st.1 st.2 hdd rfl (Nat.le_refl _) hE
theorem k0_begins {d : Addr} {o : Obj} {es : Array DictEntry} {ep : Nat} (hd : (d == sysModules) = false) (hc : o.ExactDict) (hdat : o.data = .dict es ep) :
    PySem.Begins (.ref d) { cls := .type "dict_keyiterator", data := .fields #[.ref d, .int 0 0, .int es.size 0, .int ep 0] } fun h => h.get? d = some o where
  iter := fun prog w A E s Q ho h => iter_keys hd ho hc hdat h
  keeps := fun h h' x hk => hk d _ x
  free := rfl
set_option maxHeartbeats 1000000 in
theorem k0_meets {v : Value} {o : Obj} {H : Heap → Prop} (B : PySem.Begins v o H) :
    Meets (Builtin.«enumerate.__new__» ⟨[.type "enumerate", v], []⟩) (fun _ R s => H s.heap ∧
      R (.ok (.ret (.ref (s.heap.push o).objs.size))) { s with heap := (s.heap.push o).push { cls := .type "enumerate", data := .fields #[.none, .bool false, .ref s.heap.objs.size, rawInt 0, .none, .none] } }) :=
  .of_wp fun prog w A R s h => by
    obtain ⟨hp, g, d, tk, os⟩ := s; obtain ⟨h1, h⟩ := h
    have hsub := sub_enumerate
    have q1 : ∀ {A' : Around} {E : Value → Shared → Prop} {Q : Value → Shared → Prop}, Q (.ref hp.objs.size) ⟨hp.push o, g, d, tk, os⟩ → wpAny (model prog w) A' (pyIter v) Q E ⟨hp, g, d, tk, os⟩ :=
      fun q => B.iter prog w _ _ ⟨hp, g, d, tk, os⟩ _ h1 q
    wp_walk using q1
    refine wpAny_stack_any fun st => wpAny_pure ?_
    split
    · rename_i c _ _ _ _ _
      cases (c == Value.type "enumerate")
      · wp_walk using q1
        exact ⟨_, rfl, h⟩
      · wp_walk using q1
        exact ⟨_, rfl, h⟩
    · wp_walk using q1
      exact ⟨_, rfl, h⟩
section
variable {prog : Program} {w : World} {A : Around} {E : Value → Shared → Prop} {s : Shared}
theorem k0_enum_call {v : Value} {o : Obj} {H : Heap → Prop} {Q : Value → Shared → Prop} (B : PySem.Begins v o H) (h1 : H s.heap)
    (h : ∀ h', IsEnum h' (s.heap.objs.size + 1) s.heap.objs.size 0 .none → h'.get? s.heap.objs.size = some o → h'.objs.size = s.heap.objs.size + 2 →
      (∀ b o, s.heap.get? b = some o → h'.get? b = some o) → Q (.ref (s.heap.objs.size + 1)) { s with heap := h' }) :
    wpAny (model prog w) A (call (.type "enumerate") [v]) Q E s := by
  refine callType_new F.called_enumerate (by decide) (F.typeCall_enumerate_1 _) (F.newCall_enumerate_1 _) (fun obj => F.args_object_init_2 obj _) F.entry_enumerate_new
    (k0_meets B) ⟨h1, ?_⟩
  have hz : (s.heap.push o).objs.size = s.heap.objs.size + 1 := Heap.size_push ..
  show _ ∧ _
  rw [hz]
  have he : IsEnum ((s.heap.push o).push { cls := .type "enumerate", data := .fields #[.none, .bool false, .ref s.heap.objs.size, rawInt 0, .none, .none] }) (s.heap.objs.size + 1) s.heap.objs.size 0 .none := by
    have := Heap.get?_push_size (s.heap.push o) (o := { cls := .type "enumerate", data := .fields #[.none, .bool false, .ref s.heap.objs.size, rawInt 0, .none, .none] }) rfl
    rw [hz] at this; exact this
  refine ⟨⟨_, he, rfl⟩, h _ he (Heap.get?_push_of_some _ (Heap.get?_push_size _ B.free)) (by rw [Heap.size_push, hz]) fun b o x => Heap.get?_push_of_some _ (Heap.get?_push_of_some _ x)⟩
end
/-- the keys of the locked dict at d, each with its number in a new pair -/
def ItEd (d : Addr) (o : Obj) (kvs : List (Key × V)) : It :=
  ⟨fun i H => H d = some (.frz o (.dK kvs)) ∧ i < kvs.length, fun i H v H' => ∃ T k u, v = .ref T ∧ H T = none ∧ H' = upd H T (.tup [.int (i : Nat), kV k]) ∧ kvs[i]? = some (k, u), fun i H => H d = some (.frz o (.dK kvs)) ∧ kvs.length ≤ i⟩
theorem turn_enumD {P : Program} {w : World} {K : PySem.W.Frag} {elts : List Expr} {kk : Nat} {tpos : Pos} {d : Addr} {o : Obj} {es : Array DictEntry} {ep : Nat} {kvs : List (Key × V)} (e it : Addr) (hod : o.data = .dict es ep) (hsz0 : es.size = kvs.length) :
    Turn P w K (.Tuple elts kk tpos) (ItEd d o kvs) [e, it] e (fun i h => (∃ old, IsEnum h e it ((i : Nat) : Int) old) ∧ h.IsKeyIter it d i es.size ep ∧ e ≠ it) where
  mem := by simp
  obj := fun i h st b hb => by
    obtain ⟨⟨old, he⟩, ⟨o', ho, hc, hd⟩, _⟩ := st
    have e' : b = e ∨ b = it := by simpa using hb
    rcases e' with z | z
    · rw [z]; exact ⟨_, he, fun v q => nomatch q⟩
    · rw [z]; exact ⟨o', ho, fun v q => by rw [hd] at q; cases q⟩
  keep := fun i h h' st k => let ⟨⟨old, he⟩, hi, hne⟩ := st; ⟨⟨old, k e (by simp) _ he⟩, hi.at fun o q => k it (by simp) o q, hne⟩
  item := by
    intro X hP hw hK hc i pins s σ H E I hf st hg
    subst hP hw hK
    obtain ⟨⟨old, he⟩, hit, hne⟩ := st
    obtain ⟨hd, hi⟩ := hg
    obtain ⟨hs, hgd, hx, es', ep', vs, hdt, hsz, kv, hm⟩ := I.frzK hd
    obtain ⟨rfl, rfl⟩ := dict_ep hod hdt
    have hel : e < s.heap.objs.size := Heap.lt_size he
    have hil : it < s.heap.objs.size := by obtain ⟨_, q, _⟩ := hit; exact Heap.lt_size q
    have hed : e ≠ d := fun z => by
      have q := he
      unfold IsEnum at q
      rw [z, hgd] at q
      rw [Option.some.inj q] at hod
      cases hod
    have hid : it ≠ d := fun z => by
      obtain ⟨o', q, _, hdd⟩ := id hit
      rw [z, hgd] at q
      rw [← Option.some.inj q, hod] at hdd
      cases hdd
    refine wpAny_pyNext_enum_itemD (k0_draws (A := X.A.in1) (show X.A.in1.handled = none from I.ok.hd hc) it d (Ne.symm hid) o es' ep' hod) he ⟨hit, hgd⟩ (by omega) hne (by simp [hne, hed]) fun x h' tk hP ho hit' hT hsz' hk => ?_
    obtain ⟨en, hen, rfl⟩ := hP
    obtain ⟨⟨k, v⟩, hkv⟩ : ∃ p, kvs[i]? = some p := ⟨kvs[i], List.getElem?_eq_getElem hi⟩
    have rk : RelV (kV k) en.key := by
      obtain ⟨u, hu, ru⟩ := kv_get kv hkv
      obtain ⟨od, es2, hod2, hcd, hdd, hkk, hp, hn⟩ := id hm
      rw [hgd] at hod2
      cases hod2
      obtain ⟨rfl, _⟩ := dict_ep hod hdd
      exact relV_key (hp.get? (by rw [Array.getElem?_toList]; exact hen) hu).1
    refine ⟨_, rfl, wpAny_letOwnedTupleGo_enum (s := { s with heap := h', toks := tk + 1 }) ho fun h'' he' sb => ?_⟩
    have hT2 : h''.get? s.heap.objs.size = some { cls := .type "tuple", data := .seq #[.int i tk, en.key] } := (sb.2 _ (Nat.ne_of_gt hel)).trans hT
    have new : ObjOk X.prog X.w (upd H s.heap.objs.size (.tup [.int (i : Nat), kV k])) h'' s.heap.objs.size (.tup [.int (i : Nat), kV k]) :=
      ⟨by show 2 ≤ sizeLine; decide, [.int i tk, en.key], .cons ⟨_, rfl⟩ (.cons rk .nil), ⟨_, hT2, rfl, _, rfl⟩⟩
    have I1 : Inv X pins σ (upd H s.heap.objs.size (.tup [.int (i : Nat), kV k])) { s with heap := h'', toks := tk + 1 } :=
      I.turnedNew (ch := [e, it]) (fun b ob hb q => (sb.2 b (fun z => hb (by simp [z]))).trans (hk b ob (fun z => hb (by simp [z])) (fun z => hb (by simp [z])) q)) hf (Nat.le_refl _) new
    refine ⟨.ref s.heap.objs.size, _, I1, rfl, ⟨_, k, v, rfl, I.hok.fresh (Nat.le_refl _), rfl, hkv⟩, ⟨⟨en.key, ?_⟩, hit'.1.at fun o q => (sb.2 it (Ne.symm hne)).trans q, hne⟩, fun b hb => ?_⟩
    · have e1 : ((i + 1 : Nat) : Int) = (i : Int) + 1 := by omega
      rw [e1]; exact he'
    · have hb' : b < s.heap.objs.size := by
        have e' : b = e ∨ b = it := by simpa using hb
        rcases e' with z | z
        · rw [z]; exact hel
        · rw [z]; exact hil
      rw [upd_ne (Nat.ne_of_lt hb')]
      exact (hf b hb).1
  done := by
    intro X hP hw hK hc i pins s σ H E I hf st hg
    subst hP hw hK
    obtain ⟨⟨old, he⟩, hit, hne⟩ := st
    obtain ⟨hd, hi⟩ := hg
    obtain ⟨hs, hgd, hx, es', ep', vs, hdt, hsz, kv, hm⟩ := I.frzK hd
    obtain ⟨rfl, rfl⟩ := dict_ep hod hdt
    obtain ⟨f0, f1, f2, f3, f4, f5⟩ := hf it (by simp)
    have hT : s.TypeIs (.ref e) "enumerate" := ⟨_, he, rfl⟩
    unfold pyNext
    refine wpAny_bind (wpAny_attempt (wpAny_callSpecial?_slot (name := Str.ofString "__next__") hT F.slot_enumerate_next
      (wpAny_call_entry F.slot_enumerate_next hT F.entry_enumerate_next ?_ (F.args_enumerate_next_1 _))))
    show wpAny _ _ (field (.ref e) 2 >>= _) _ _ _
    refine wpAny_bind (wpAny_field he rfl (x := .ref it) rfl ?_)
    refine wpAny_bind (k0_key_end (I.ok.hd hc) hit hgd hod rfl (by omega) fun h' x he' hx' => ?_)
    obtain ⟨o', ho, hc'⟩ := hx'
    refine wpAny_bind (wpAny_isInstance (T := "StopIteration") (b := true) ⟨o', ho, hc'⟩ isSubtype_stop ?_)
    exact wpAny_pure ⟨rfl, I.turned (t' := s.toks) (fun b ob hb q => he' b ob hb q) f0 f1 f3 f4 f5⟩
  self := fun A i s Q E st h => let ⟨⟨_, he⟩, _⟩ := st; wpAny_pyIter_enum he h
def iEnumD (ta : TA) : TI := fun σ H R => ta σ H fun vs H1 => ∃ d o kvs, vs = [.ref d] ∧ H1 d = some (.frz o (.dK kvs)) ∧ R (ItEd d o kvs) H1
theorem pi_enumD {X : Cx} {e : Expr} {ta : TA} {p pos tpos : Pos} {elts : List Expr} {kk : Nat} (hg : Gl X "enumerate") (hm : X.mg "enumerate" = none) (ha : PA X [e] ta) (hs : starEach [e] X.env = [(false, eval e X.env)] := by rfl) :
    PI X (.Tuple elts kk tpos) (.Call (.Name "enumerate" p) [e] [] pos) (iEnumD ta) := by
  refine ⟨fun pins s σ H R I h => ?_⟩
  refine Call_ (ld_blt I hg hm boot_enumerate (PyProof.Rows.callWith_type1 (thn (ha.run pos pins s σ H _ I h) fun us s1 ⟨vs, H1, I1, r1, q1⟩ => ?_) hs rfl))
  obtain ⟨d, o, kvs, ex, hd, q⟩ := q1
  subst ex
  cases r1 with
  | cons r rr =>
    cases rr
    cases r
    obtain ⟨hss, hgd, hx, es, ep, vs, hdt, hsz, kv, hm2⟩ := I1.frzK hd
    refine k0_enum_call (k0_begins hss hx hdt) hgd fun h' he hit hsz' hk => wpAny_pyIter_enum he ?_
    have I2 : Inv X pins σ H1 { s1 with heap := h' } := I1.kept (t' := s1.toks) hk
    refine ⟨s1.heap.objs.size + 1, [s1.heap.objs.size + 1, s1.heap.objs.size], _, _, H1, rfl, I2, turn_enumD (s1.heap.objs.size + 1) s1.heap.objs.size hdt hsz, ⟨⟨.none, he⟩, ⟨_, hit, rfl, rfl⟩, Nat.succ_ne_self _⟩, fun b hb => ?_, q⟩
    have e' : b = s1.heap.objs.size + 1 ∨ b = s1.heap.objs.size := by simpa using hb
    have hle : s1.heap.objs.size ≤ b := by
      rcases e' with z | z
      · rw [z]; exact Nat.le_add_right _ _
      · rw [z]; exact Nat.le_refl _
    exact I1.fpOk hle (I1.hok.fresh hle)
theorem walk_enumD {d : Addr} {o : Obj} {kvs : List (Key × V)} : Walk (ItEd d o kvs) kvs.length (fun H => H d = some (.frz o (.dK kvs))) (YPair (fun i => some (.int (i : Nat))) (fun i => kvs[i]?.map fun kv => kV kv.1)) := by
  refine ⟨fun _ _ hi q => ⟨q, hi⟩, fun _ q => ⟨q, Nat.le_refl _⟩, fun i H x H' _ _ y => ?_⟩
  obtain ⟨T, k, v, h2, h3, h4, h1⟩ := y
  exact ⟨T, .int (i : Nat), kV k, h2, h3, h4, rfl, by simp [h1]⟩
/-- a dict comprehension over a walk -/
theorem dc_it {J : It} {n : Nat} {G : Hp → Prop} {Y : Nat → Hp → V → Hp → Prop} (w : Walk J n G Y) {g : TG} {tt : TT} {tk tv : TE} {vs : List Nat} {σ : St} {H1 : Hp} {D : Addr} {Qd : Hp → Prop} (Pv : Nat → Hp → Prop) (h0 : Pv 0 (upd H1 D (.dK []))) (hG : ∀ i H, i ≤ n → Pv i H → G H)
    (hs : ∀ i x H H', i < n → Pv i H → Y i H x H' → g x (wipe σ vs) H' fun σ2 H2 => wipe σ2 vs = wipe σ vs ∧ tt σ2 H2 fun b H3 =>
      if b = true then tk σ2 H3 fun y H4 => tv σ2 H4 fun z H5 => ∃ kvs k, y = kV k ∧ H5 D = some (.dK kvs) ∧ kvs.length < sizeLine ∧ Pv (i + 1) (upd H5 D (.dK (putK kvs k z))) else Pv (i + 1) H3) (hd : ∀ H, Pv n H → Qd H) :
    ∃ W : Nat → Nat → Hp → Prop, (∃ m, W 0 m (upd H1 D (.dK []))) ∧ ∀ i m H, W i m H →
      (J.stop i H ∧ Qd H) ∨ (J.go i H ∧ ∃ Nx : Hp → Prop, (∀ H', Nx H' → ∃ m', m' < m ∧ W (i + 1) m' H') ∧ ∀ x H', J.yld i H x H' → g x (wipe σ vs) H' fun σ2 H2 => wipe σ2 vs = wipe σ vs ∧ tt σ2 H2 fun b H3 =>
        if b = true then tk σ2 H3 fun y H4 => tv σ2 H4 fun z H5 => ∃ kvs k, y = kV k ∧ H5 D = some (.dK kvs) ∧ kvs.length < sizeLine ∧ Nx (upd H5 D (.dK (putK kvs k z))) else Nx H3) := by
  refine ⟨fun i m H => m = n - i ∧ i ≤ n ∧ Pv i H, ⟨n, by simp, Nat.zero_le _, h0⟩, ?_⟩
  rintro i m H ⟨rfl, hi, p⟩
  have q := hG i H hi p
  by_cases hlt : i < n
  · refine .inr ⟨w.goes i H hlt q, Pv (i + 1), fun H' p' => ⟨n - (i + 1), by omega, rfl, hlt, p'⟩, fun x H' y => hs i x H H' hlt p (w.yields i H x H' hlt q y)⟩
  · have e : i = n := by omega
    subst e
    exact .inl ⟨w.stops H q, hd H p⟩
end L2
end
section
set_option Elab.async false
set_option linter.all false
set_option maxRecDepth 100000
namespace K0
open PySem PySem.Spec PyProof.Rows L2
theorem same_unlock {H H' : Hp} {d : Addr} {u z : HO} (h : H d = some u) (s : Same (upd H d z) H') : Same H (upd H' d u) := fun b o hb => by
  by_cases e : b = d
  · rw [e] at hb ⊢
    rw [upd_same, ← hb, h]
  · rw [upd_ne e]
    exact s b o (by rw [upd_ne e]; exact hb)
theorem kmap_congr {f g : Str → V} : ∀ {ns : List Str}, (∀ x ∈ ns, f x = g x) → kmap f ns = kmap g ns
  | [], _ => rfl
  | n :: r, h => by
    unfold kmap
    rw [List.map_cons, List.map_cons, h n List.mem_cons_self]
    exact congrArg _ (kmap_congr fun x hx => h x (List.mem_cons_of_mem _ hx))
/-- a dict from each of these names to a tuple of its own of texts -/
structure TupsAt (H : Hp) (c : Addr) (ns : List Str) (g : Str → List Str) : Prop where
  ex : ∃ ta : Str → Addr, H c = some (.dK (kmap (fun x => .ref (ta x)) ns)) ∧ ∀ x ∈ ns, FT H (ta x) (g x)
theorem TupsAt.same {H H' : Hp} {c : Addr} {ns : List Str} {g : Str → List Str} (t : TupsAt H c ns g) (s : Same H H') : TupsAt H' c ns g := by
  obtain ⟨ta, h1, h2⟩ := t.ex
  exact ⟨ta, s _ _ h1, fun x hx => (h2 x hx).same s⟩
/-- one more -/
theorem tups_more {H : Hp} {D t : Addr} {ns : List Str} {g : Str → List Str} {x : Str} {ta : Str → Addr} (h1 : H D = some (.dK (kmap (fun y => .ref (ta y)) ns))) (h2 : ∀ y ∈ ns, FT H (ta y) (g y))
    (hx : x ∉ ns) (ht : FT H t (g x)) : TupsAt (upd H D (.dK (putK (kmap (fun y => .ref (ta y)) ns) (Sum.inr x) (.ref t)))) D (ns ++ [x]) g := by
  have htD : t ≠ D := ht.ne h1 (fun _ _ z => by cases z)
  refine ⟨fun y => if y = x then t else ta y, ?_, fun y hy => ?_⟩
  · rw [upd_same]
    have e1 : kmap (fun y => .ref (ta y)) ns = kmap (fun y => V.ref (if y = x then t else ta y)) ns := kmap_congr fun y hy => by
      rw [if_neg (fun e => hx (by rw [← e]; exact hy))]
    rw [e1]
    have := kmap_put (f := fun y => V.ref (if y = x then t else ta y)) hx
    rw [if_pos rfl] at this
    rw [this]
  · show FT (upd H D (.dK (putK (kmap (fun y => .ref (ta y)) ns) (Sum.inr x) (.ref t)))) (if y = x then t else ta y) (g y)
    rcases List.mem_append.mp hy with h | h
    · rw [if_neg (fun e => hx (by rw [← e]; exact h))]
      exact (h2 y h).upd ((h2 y h).ne h1 (fun _ _ z => by cases z))
    · rw [List.mem_singleton.mp h, if_pos rfl]
      exact ht.upd htD
theorem nodup_take {ns : List Str} (hd : ns.Nodup) {i : Nat} {x : Str} (h : ns[i]? = some x) : x ∉ ns.take i := by
  intro hm2
  obtain ⟨j, hj⟩ := List.getElem?_of_mem hm2
  have hji : j < i := by
    have := (List.getElem?_eq_some_iff.mp hj).1
    rw [List.length_take] at this
    omega
  rw [List.getElem?_take_of_lt hji] at hj
  have := nd_ix hd hj h
  omega
theorem kmap_get {f : Str → V} {ns : List Str} {i : Nat} {k : Key} {v : V} (h : (kmap f ns)[i]? = some (k, v)) : ∃ x, ns[i]? = some x ∧ k = Sum.inr x ∧ v = f x := by
  unfold kmap at h
  rw [List.getElem?_map] at h
  cases e : ns[i]? with
  | none => rw [e] at h; cases h
  | some x =>
    rw [e] at h
    injection h with h
    injection h with h1 h2
    exact ⟨x, rfl, h1.symm, h2.symm⟩
abbrev scFind_N : List Str := ["below", "weir", "courses", "place"]
abbrev scFind_S : Stmt := sFind
theorem scFind : FnScope scFind_N ["below"] (defScope sFind) := ⟨rfl, rfl, rfl, by decide +kernel, rfl, by decide +kernel, by decide +kernel⟩
def spFind (K : PySem.W.Frag) : Sp := fun vs H Q _ => ∃ (d : Addr) (R : List Row), vs = [.ref d] ∧ H d = some (.dK (belowK R)) ∧ GoodRows R ∧
  ∀ (H' : Hp) (c : Addr), Same H H' → H c = none → TupsAt H' c (nmsOf R) (course R) → Q (.ref c) H'
section
variable {P : Program} {w : World} {K : PySem.W.Frag} {mg : Str → Option Value} {base : Heap} {tS tM tL : Tok}
theorem ok_find {f fC : Addr} {fd fdC : FuncData} (F : FnP K "_find_courses" sFind f fd) (F_course : FnP K "_course" sCourse fC fdC) (g_course : mg "_course" = some (.ref fC)) (B : Bl mg) (C : Gc mg tS tM tL) : FnOk P w K mg base CX0 2 f fd ["below"] (spFind K) := by
  have G_course : FnOk P w K mg base CX0 1 fC fdC ["below", "weir"] (spCourse K) := ok_course F_course B C
  have b_course : Binds K fdC ["below", "weir"] [] := F_course.bindsN fun _ _ _ _ _ _ us hl => match us, hl with | [_, _], _ => rfl
  refine F.ok scFind (fun vs H Q E h => ?_) (fun cdv A outer s H vs Q E hr h => ?_)
  · obtain ⟨d, R, rfl, _⟩ := h
    rfl
  · obtain ⟨d, R, rfl, hd, hG, k⟩ := h
    have hu := hu_of hr
    have hr_course : Room 1 _ := hr.mono (by decide)
    refine ⟨_, PSs.nox (pss_cons
      (ps_lock (k0_setDc (i := 2) (own := [("weir", 1)]) (g := gName 1) (tt := tYes) (by rfl) scFind.nd rfl rfl (k0_sw rfl rfl rfl (by decide +kernel)) (pi_keys (pv 0)) (blkOk_by (own := [("weir", 1)]) (N := scFind_N) (sc := defScope scFind_S) (by decide +kernel)) (fun _ _ _ _ _ => (pg_name (i := 1) scFind.nd rfl (Or.inl rfl))) (fun _ _ _ _ _ => pts_nil) (fun _ _ _ _ _ => (pv 1)) (fun _ _ _ _ _ => (pe_call G_course hr_course (by rfl) g_course F_course.kp b_course .nil pass0 (pa_cons (pv 0) (pa_cons (pv 1) pa_nil))))))
      (pss_cons
      (ps_lock (ps_for PassesOwn.never rfl (pi_enumD (by rfl) B.enumerate (pa_cons (pv 2) pa_nil)) (pg_tup (by rfl) (pgs_cons (pg_name (i := 3) scFind.nd rfl (Or.inl rfl)) (pgs_cons (pg_name (i := 1) scFind.nd rfl (Or.inl rfl)) pgs_nil))) (pss_one (ps_if (pt_cmpR op_gt (pe_callB (lenK (K := K)) (by rfl) B.len PySem.boot_len (pa_cons (pe_dget hu (pv 2) (pv 1) (fun _ _ => rfl)) pa_nil)) (pe_callB k0_lenD (by rfl) B.len PySem.boot_len (pa_cons (pv 0) pa_nil)) (nomark _)) (pss_one ps_never) pss_nil))))
      (pss_one
      (ps_ret (pv 2))))), ?_⟩
    have hnd := hG.nm.nd
    have hRm := hG.most
    have hnl : (nmsOf R).length = R.length := List.length_map _
    refine ⟨d, _, hd, trivial, fun od => ?_⟩
    refine ⟨_, rfl, d, od, rfl, .inl ⟨_, upd_same, fun D hD => ?_⟩⟩
    have s0 : Same (upd H d (.frz od (.dK (belowK R)))) (upd (upd H d (.frz od (.dK (belowK R)))) D (.dK [])) := same_upd hD
    have ndD : d ≠ D := ne_of_none upd_same hD
    have hfz : ∀ H2, Same (upd H d (.frz od (.dK (belowK R)))) H2 → H2 d = some (.frz od (.dK (belowK R))) := fun H2 s => s _ _ upd_same
    refine dc_it (walk_keys (kvs := belowK R)) (fun i H2 => Same (upd H d (.frz od (.dK (belowK R)))) H2 ∧ TupsAt H2 D ((nmsOf R).take i) (course R)) ⟨s0, ⟨fun _ => 0, by rw [upd_same, List.take_zero]; rfl, fun x hx => by rw [List.take_zero] at hx; cases hx⟩⟩ (fun i H2 hi h => hfz _ h.1) ?_ ?_
    · rintro i x H2 H3 hi ⟨s2, T2⟩ ⟨e, k0, v0, hkv, ev⟩
      subst e
      subst ev
      obtain ⟨x, hx, rfl, rfl⟩ := kmap_get hkv
      have hxm : x ∈ nmsOf R := List.mem_of_getElem? hx
      refine ⟨rfl, ?_⟩
      unfold tYes
      refine iteT ?_
      refine ⟨_, rfl, _, rfl, _, rfl, d, R, x, rfl, .inr ⟨od, hfz _ s2⟩, hG, hxm, fun H4 t s4 nt ht => ?_⟩
      obtain ⟨ta, h1, h2⟩ := (T2.same s4).ex
      refine ⟨_, Sum.inr x, rfl, h1, ?_, fun b o hb => ?_, ?_⟩
      · rw [kmap_len, List.length_take]
        exact small1000 (by omega)
      · rw [upd_ne (ne_of_none hb hD)]
        exact s4 _ _ (s2 b o hb)
      · have hm := tups_more h1 h2 (nodup_take hnd hx) ht
        rw [List.take_add_one, hx]
        exact hm
    · rintro H2 ⟨s2, T2⟩
      rw [kmap_len, List.take_length] at T2
      refine ⟨hfz _ s2, ?_⟩
      have s3 : Same H (upd H2 d (.dK (belowK R))) := same_unlock hd s2
      have T3 : TupsAt (upd H2 d (.dK (belowK R))) D (nmsOf R) (course R) := by
        obtain ⟨ta, h1, h2⟩ := T2.ex
        refine ⟨ta, by rw [upd_ne ndD.symm]; exact h1, fun x hx => ?_⟩
        exact (h2 x hx).upd ((h2 x hx).ne (hfz _ s2) (fun _ _ z => by cases z))
      have hD3 : H D = none := by
        rw [upd_ne ndD.symm] at hD
        exact hD
      generalize hH3 : upd H2 d (.dK (belowK R)) = H3 at s3 T3
      obtain ⟨ta, h1, h2⟩ := T3.ex
      refine ⟨D, _, h1, trivial, fun oD => ?_⟩
      have hl1 : (upd H3 D (.frz oD (.dK (kmap (fun x => .ref (ta x)) (nmsOf R))))) D = some (.frz oD (.dK (kmap (fun x => .ref (ta x)) (nmsOf R)))) := upd_same
      refine ⟨_, rfl, D, oD, _, rfl, upd_same, ?_⟩
      refine for_it walk_enumD (fun i σ H4 => ∃ (v1 v3 : Option V), σ = [some (.ref d), v1, some (.ref D), v3] ∧ Same (upd H3 D (.frz oD (.dK (kmap (fun x => .ref (ta x)) (nmsOf R))))) H4) ⟨_, _, rfl, .refl _⟩ (fun i σ H4 hi h => by
        obtain ⟨_, _, _, s⟩ := h
        exact s _ _ hl1) ?_ ?_
      · rintro i x σ H4 H5 hi ⟨v1, v3, rfl, s4⟩ ⟨T, x1, x2, rfl, hT, rfl, e1, e2⟩
        rw [kmap_len] at hi
        obtain ⟨x, hx, rfl⟩ : ∃ x, (nmsOf R)[i]? = some x ∧ x2 = .str x := by
          refine ⟨(nmsOf R)[i], List.getElem?_eq_getElem hi, ?_⟩
          have e2 : ((kmap (fun x => V.ref (ta x)) (nmsOf R))[i]?.map fun kv => kV kv.1) = some x2 := e2
          unfold kmap at e2
          rw [List.getElem?_map, List.getElem?_eq_getElem hi] at e2
          exact (Option.some.inj e2).symm
        have hxm : x ∈ nmsOf R := List.mem_of_getElem? hx
        obtain ⟨m, hC⟩ := course_is hG hxm
        have s5 : Same (upd H3 D (.frz oD (.dK (kmap (fun x => .ref (ta x)) (nmsOf R))))) (upd H4 T (.tup [x1, .str x])) := s4.trans (same_upd hT)
        have hDr : Rd (upd H4 T (.tup [x1, .str x])) D (.dK (kmap (fun x => .ref (ta x)) (nmsOf R))) := .inr ⟨oD, s5 _ _ hl1⟩
        have hta : FT (upd H4 T (.tup [x1, .str x])) (ta x) (course R x) := ((h2 x hxm).upd ((h2 x hxm).ne h1 (fun _ _ z => by cases z))).same s5
        have hd3 : (upd H3 D (.frz oD (.dK (kmap (fun x => .ref (ta x)) (nmsOf R))))) d = some (.dK (belowK R)) := by
          rw [upd_ne ndD, ← hH3, upd_same]
        refine ⟨T, _, rfl, .inl (.inl upd_same), rfl, _, _, rfl, _, _, rfl, rfl, ?_⟩
        refine ⟨_, rfl, _, rfl, D, _, rfl, dget_rn hDr hxm, ta x, _, rfl, .inr (.inl hta.rd), _, rfl, d, _, rfl, .inl (s5 _ _ hd3), _, _, rfl, rfl, _, rfl, ?_⟩
        refine iteDn ?_ ?_
        · have h1 := hC.most
          rw [List.length_map, hC.len, kmap_len, hnl]
          omega
        · exact ⟨_, _, rfl, s5⟩
      · rintro σ H4 ⟨v1, v3, rfl, s4⟩
        refine ⟨s4 _ _ hl1, ?_⟩
        have s5 : Same H3 (upd H4 D (.dK (kmap (fun x => .ref (ta x)) (nmsOf R)))) := same_unlock h1 s4
        exact ⟨_, rfl, k _ D (s3.trans s5) hD3 (T3.same s5)⟩
end
end K0
end
section
set_option Elab.async false
set_option linter.all false
set_option maxRecDepth 100000
namespace TS3
open PySem PyProof.Rows TS
/-- a tuple of two ints and a text -/
def Tri (h : Heap) (v : Value) (i j : Int) (x : Str) : Prop := ∃ a o xs n t u w, v = .ref a ∧ h.get? a = some o ∧ o.cls = .type "tuple" ∧ o.data = .seq xs n ∧ xs.toList = [.int i t, .int j u, .str x w]
theorem Tri.keeps {h h' : Heap} {v : Value} {i j : Int} {x : Str} (T : Tri h v i j x) (k : ∀ b o, h.get? b = some o → o.cls = .type "tuple" → h'.get? b = some o) : Tri h' v i j x := by
  obtain ⟨a, o, xs, n, t, u, w, e, h1, h2, h3, h4⟩ := T
  exact ⟨a, o, xs, n, t, u, w, e, k a o h1 h2, h2, h3, h4⟩
theorem Tri.uniq {h : Heap} {v : Value} {i j i' j' : Int} {x x' : Str} (T : Tri h v i j x) (T' : Tri h v i' j' x') : i = i' ∧ j = j' ∧ x = x' := by
  obtain ⟨a, o, xs, n, t, u, w, e, h1, h2, h3, h4⟩ := T
  obtain ⟨a', o', xs', n', t', u', w', e', k1, k2, k3, k4⟩ := T'
  rw [e] at e'
  cases e'
  rw [h1] at k1
  cases k1
  rw [h3] at k3
  cases k3
  rw [h4] at k4
  injection k4 with q1 q2
  injection q2 with q2 q3
  injection q3 with q3 _
  cases q1
  cases q2
  cases q3
  exact ⟨rfl, rfl, rfl⟩
/-- what is sorted: the second numbers below 100, each with one first number and text -/
structure TrisOk (h : Heap) (vs : List Value) (f : Int → Int) (g : Int → Str) : Prop where
  at_ : ∀ v ∈ vs, ∃ j, Tri h v (f j) j (g j) ∧ 0 ≤ j ∧ j < 100
theorem TrisOk.keeps {h h' : Heap} {vs : List Value} {f : Int → Int} {g : Int → Str} (x : TrisOk h vs f g) (k : ∀ b o, h.get? b = some o → o.cls = .type "tuple" → h'.get? b = some o) : TrisOk h' vs f g :=
  ⟨fun v hv => let ⟨j, t, r⟩ := x.at_ v hv; ⟨j, t.keeps k, r⟩⟩
theorem firsts {h : Heap} {f : Int → Int} {g : Int → Str} : ∀ vs : List Value, TrisOk h vs f g → ∃ fs, PySem.W.KatTups h vs fs ∧ fs.length = vs.length ∧ ∀ z, z ∈ fs → ∃ n t, z = Value.int n t
  | [], _ => ⟨[], PySem.W.KatTups.nil, rfl, fun f hf => by simp at hf⟩
  | v :: vs, x => by
    obtain ⟨fs, k, hl, hi⟩ := firsts vs ⟨fun u hu => x.at_ u (List.mem_cons_of_mem _ hu)⟩
    obtain ⟨j, ⟨a, o, xs, n, t, u, w, e, h1, h2, h3, h4⟩, _⟩ := x.at_ v (List.mem_cons_self ..)
    subst e
    refine ⟨.int (f j) t :: fs, PySem.W.KatTups.cons h1 h2 h3 ?_ k, by simp [hl], ?_⟩
    · have z := congrArg (fun l : List Value => l[0]?) h4
      simpa using z
    · intro z hz
      rcases List.mem_cons.mp hz with rfl | hz
      · exact ⟨_, t, rfl⟩
      · exact hi z hz
section
variable {prog : Program} {w : World} {A : Around} {E : Value → Shared → Prop} {s : Shared}
theorem kind3 {f : Int → Int} {g : Int → Str} {vs : List Value} (h2 : 2 ≤ vs.length) (x : TrisOk s.heap vs f g) (r : Value → Int) (hr : ∀ v, v ∈ vs → ∀ i j y, Tri s.heap v i j y → r v = i * 100 + j) (Q : SortKind → Shared → Prop)
    (h : ∀ κ, Cmp prog w A s κ (pairsOf vs) r → Q κ s) : wpAny (model prog w) A (keyKind' vs.toArray) Q E s := by
  obtain ⟨fs, k, hl, hi⟩ := firsts vs x
  refine PySem.W.kat_kind (T := Value.type "int") k (by omega) (fun f hf => ?_) rfl (h _ ?_)
  · obtain ⟨n, t, rfl⟩ := hi f hf
    exact PySem.W.Looks.of_pure rfl
  · intro p q hp hq Q' E' hQ
    rw [pairsOf_toList] at hp hq
    obtain ⟨j, tp, j0, j1⟩ := x.at_ _ (mem_zip_self hp).2
    obtain ⟨l, tq, l0, l1⟩ := x.at_ _ (mem_zip_self hq).2
    have ep := hr _ (mem_zip_self hp).2 _ _ _ tp
    have eq2 := hr _ (mem_zip_self hq).2 _ _ _ tq
    have hQ' : Q' (decide (f j * 100 + j < f l * 100 + l)) s := by
      have z : decide (r p.1 < r q.1) = decide (f j * 100 + j < f l * 100 + l) := by rw [ep, eq2]
      rw [← z]; exact hQ
    obtain ⟨a, o, xs, n, t, u, w1, e1, ho, hc, hdt, i⟩ := tp
    obtain ⟨a', o', ys, n', t', u', w2, e2, ho', hc', hdt', i'⟩ := tq
    rw [e1, e2]
    refine PySem.W.kat_lt ho hdt ho' hdt' ?_
    have sz : decide (xs.size < ys.size) = false := by
      have l1 := congrArg List.length i
      have l2 := congrArg List.length i'
      rw [Array.length_toList] at l1 l2
      exact decide_eq_false (by rw [l1, l2]; exact Nat.lt_irrefl _)
    rw [sz, i, i']
    show PySem.W.KatLex prog w A _ false Q' [(Value.int (f j) t, Value.int (f l) t'), (Value.int j u, Value.int l u'), (Value.str (g j) w1, Value.str (g l) w2)] 0 s
    refine PySem.W.kat_cons (wpAny_eqBool_int ?_)
    by_cases e : f j = f l
    · rw [e, beq_self_eq_true]
      refine PySem.W.kat_yes (PySem.W.kat_cons (wpAny_eqBool_int ?_))
      by_cases e3 : j = l
      · subst e3
        rw [beq_self_eq_true]
        refine PySem.W.kat_yes (PySem.W.kat_cons (wpAny_eqBool_str ?_))
        rw [decide_eq_true rfl]
        refine PySem.W.kat_yes (PySem.W.kat_nil ?_)
        rw [decide_eq_false (Int.lt_irrefl _)] at hQ'
        exact hQ'
      · rw [show (j == l) = false from beq_eq_false_iff_ne.mpr e3]
        refine PySem.W.kat_no (oneLt_ints _ ?_)
        have d : decide (f j * 100 + j < f l * 100 + l) = decide (j < l) := decide_eq_decide.mpr (by rw [e]; omega)
        rw [d] at hQ'
        exact hQ'
    · rw [show (f j == f l) = false from beq_eq_false_iff_ne.mpr e]
      refine PySem.W.kat_no (oneLt_ints _ ?_)
      have d : decide (f j * 100 + j < f l * 100 + l) = decide (f j < f l) := decide_eq_decide.mpr (by omega)
      rw [d] at hQ'
      exact hQ'
/-- the second number as the heap tells it -/
noncomputable def rankOf (h : Heap) (v : Value) : Int := open Classical in if x : ∃ r : Int, ∃ i j y, Tri h v i j y ∧ r = i * 100 + j then x.choose else 0
theorem rankOf_eq {h : Heap} {v : Value} {i j : Int} {y : Str} (T : Tri h v i j y) : rankOf h v = i * 100 + j := by
  have x : ∃ r : Int, ∃ i j y, Tri h v i j y ∧ r = i * 100 + j := ⟨_, i, j, y, T, rfl⟩
  unfold rankOf
  rw [dif_pos x]
  obtain ⟨i', j', y', T', e⟩ := x.choose_spec
  obtain ⟨e1, e2, _⟩ := T.uniq T'
  rw [e, e1, e2]
theorem sort3 {a : Addr} {vs : List Value} {n : Nat} {f : Int → Int} {g : Int → Str} {P : PySem.Fin → Shared → Prop} (ho : s.heap.get? a = some (seqObj "list" vs.toArray n)) (h64 : vs.length < 64) (x : TrisOk s.heap vs f g)
    (r : Value → Int) (hr : ∀ v, v ∈ vs → ∀ i j y, Tri s.heap v i j y → r v = i * 100 + j)
    (h : ∀ out : Array Value, out.toList.Perm vs → out.toList.Pairwise (fun u v => r u ≤ r v) → P (.done (.ret .none)) { s with heap := sortedHeap s.heap a vs out }) :
    wpAny (model prog w) A (Builtin.«list.sort» ⟨[.ref a], []⟩) P E s := by
  have keep : ∀ b o, s.heap.get? b = some o → o.cls = .type "tuple" → (midHeap s.heap a vs).get? b = some o := fun b o e hc => by
    refine midHeap_old ?_ e
    rintro rfl
    rw [ho] at e
    have e' : seqObj "list" vs.toArray n = o := Option.some.inj e
    rw [← e'] at hc
    have c' : Value.type "list" = Value.type "tuple" := hc
    injection c' with c''
    exact absurd c'' (by decide)
  refine SK.plain_sort (r := r) ho h64 (fun h2 Q hQ => ?_) fun ps out h1 h2 h3 => ?_
  · refine kind3 (s := { s with heap := midHeap s.heap a vs }) h2 (x.keeps keep) r (fun v hv i j y t => ?_) Q hQ
    obtain ⟨j0, t0, _⟩ := x.at_ v hv
    obtain ⟨e1, e2, e3⟩ := t.uniq (t0.keeps keep)
    rw [e1, e2]
    exact hr v hv _ _ _ t0
  · obtain ⟨p, o⟩ := out_rank h1 h2 h3
    exact h out p o
theorem sorted3 {l : Addr} {vs : List Value} {f : Int → Int} {g : Int → Str} {Q : Value → Shared → Prop} (hl : s.heap.IsList l vs.toArray) (h64 : vs.length < 64) (x : TrisOk s.heap vs f g)
    (h : ∀ out : Array Value, out.toList.Perm vs → out.toList.Pairwise (fun u v => rankOf s.heap u ≤ rankOf s.heap v) → Q (.ref (s.heap.objs.size + 1)) { s with heap := sortedAll s.heap vs out }) :
    wpAny (model prog w) A (call (.builtin "sorted") [.ref l]) Q E s := by
  refine Calls.call_function_entry kind_sorted plain_sorted entry_sorted (args_sorted1 _) ?_
  unfold Builtin.«sorted»
  refine wpAny_bind (m := checkCount "sorted" 1 1 _) (wpAny_pure ?_)
  refine wpAny_bind (collect_list hl ?_ (by rw [sizeLine_eq]; omega))
  refine wpAny_bind (wpAny_newList ?_ (by rw [sizeLine_eq]; omega))
  have hsz : ((s.heap.push (seqObj "list" #[] 0)).update s.heap.objs.size (Obj.mapSeq (· ++ vs.toArray))).objs.size = s.heap.objs.size + 1 := by
    rw [Heap.size_update, size_push']
  have hoL : (((s.heap.push (seqObj "list" #[] 0)).update s.heap.objs.size (Obj.mapSeq (· ++ vs.toArray))).push (seqObj "list" vs.toArray 0)).get? (s.heap.objs.size + 1) = some (seqObj "list" vs.toArray 0) := by
    rw [← hsz]; exact Heap.get?_push_size _ rfl
  have keep : ∀ b o, s.heap.get? b = some o → o.cls = .type "tuple" → (((s.heap.push (seqObj "list" #[] 0)).update s.heap.objs.size (Obj.mapSeq (· ++ vs.toArray))).push (seqObj "list" vs.toArray 0)).get? b = some o := fun b o q _ => by
    have hlt : b < s.heap.objs.size := Heap.lt_size q
    rw [Heap.get?_push_ne _ _ _ (by rw [hsz]; exact Nat.ne_of_lt (Nat.lt_succ_of_lt hlt)), Heap.get?_update_ne _ _ _ _ (Nat.ne_of_lt hlt), Heap.get?_push_ne _ _ _ (Nat.ne_of_lt hlt)]
    exact q
  show wpAny _ _ _ _ _ { s with heap := ((s.heap.push (seqObj "list" #[] 0)).update s.heap.objs.size (Obj.mapSeq (· ++ vs.toArray))).push (seqObj "list" vs.toArray 0) }
  rw [hsz]
  refine wpAny_bind (wpAny_holding (wpAny_call_entry slot_list_sort ⟨_, hoL, rfl⟩ entry_list_sort (sort3 hoL h64 (x.keeps keep) (rankOf s.heap) (fun v hv i j y t => ?_) fun out a1 a2 => ⟨_, rfl, ?_⟩) (args_list_sort _)))
  · obtain ⟨j0, t0, _⟩ := x.at_ v hv
    obtain ⟨e1, e2, _⟩ := t.uniq (t0.keeps keep)
    rw [e1, e2]
    exact rankOf_eq t0
  · exact wpAny_pure ⟨_, rfl, h out a1 a2⟩
end
end TS3
namespace L2
open PySem PySem.Spec PyProof.Rows
/-- sorted(xs), xs a list of fewer than 64 tuples of two ints and a text, the second ints unlike: some arrangement -/
def k0_rSorted3 (K : PySem.W.Frag) : List V → Hp → VK → Prop := fun vs H Q => ∃ (a : Addr) (xs : List V) (f : Int → Int) (g : Int → Str), vs = [V.ref a] ∧ SqL K H a xs ∧ xs.length < 64 ∧ (∀ x ∈ xs, ∃ t j, x = V.ref t ∧ H t = some (.tup [.int (f j), .int j, .str (g j)]) ∧ 0 ≤ j ∧ j < 100) ∧
  ∀ (ys : List V) (p : Addr), ys.Perm xs → (ys.Pairwise fun x y => ∀ t t' j j', x = V.ref t → y = V.ref t' → H t = some (.tup [.int (f j), .int j, .str (g j)]) → H t' = some (.tup [.int (f j'), .int j', .str (g j')]) → f j * 100 + j ≤ f j' * 100 + j') → H p = none → Q (.ref p) (upd H p (.lst ys))
theorem k0_sorted3 {X : Cx} : CallR X (.builtin "sorted") (k0_rSorted3 X.K) := by
  intro pins s σ H vs us Q I r h
  obtain ⟨a, xs, f, g, rfl, hs, h64, hx, q⟩ := h
  obtain ⟨its, rv, hl, hz⟩ := I.list hs
  rw [Vals.ref1 r]
  obtain ⟨e1, e2⟩ := bkV_refs rv fun x m => by
    obtain ⟨t, j, e, _⟩ := hx x m
    exact ⟨t, e⟩
  have tri : ∀ t j, H t = some (.tup [.int (f j), .int j, .str (g j)]) → TS3.Tri s.heap (.ref t) (f j) j (g j) := fun t j ht => by
    obtain ⟨_, its2, r2, o, ho, hc, n, hd⟩ := I.hok _ _ ht
    cases r2 with
    | cons ra r2 =>
      cases r2 with
      | cons rb r2 =>
        cases r2 with
        | cons rc r2 =>
          cases r2
          obtain ⟨ta, rfl⟩ := ra
          obtain ⟨tb, rfl⟩ := rb
          obtain ⟨tc, rfl⟩ := rc
          exact ⟨t, o, _, n, ta, tb, tc, rfl, ho, hc, hd, rfl⟩
  refine TS3.sorted3 (f := f) (g := g) hl.isList (by rw [← rv.length]; exact h64) ⟨fun v hv => ?_⟩ fun out h1 h2 => ?_
  · obtain ⟨t, rfl⟩ := e2 v hv
    have hm : V.ref t ∈ xs := by
      rw [e1]
      exact List.mem_map.mpr ⟨_, hv, rfl⟩
    obtain ⟨t', j, e, ht, hj0, hj1⟩ := hx _ hm
    cases e
    exact ⟨j, tri _ _ ht, hj0, hj1⟩
  · obtain ⟨ep, he'⟩ := PyProof.Rows.sortedAll_at s.heap its out
    have h3 : ∀ u ∈ out.toList, ∃ a, u = Value.ref a := fun u hu => e2 u (h1.mem_iff.mp hu)
    have hp : (out.toList.map bkV).Perm xs := by
      rw [e1]
      exact h1.map bkV
    have ho : ((out.toList.map bkV).Pairwise fun x y => ∀ t t' j j', x = V.ref t → y = V.ref t' → H t = some (.tup [.int (f j), .int j, .str (g j)]) → H t' = some (.tup [.int (f j'), .int j', .str (g j')]) → f j * 100 + j ≤ f j' * 100 + j') := by
      rw [List.pairwise_map]
      refine List.Pairwise.imp_of_mem (fun {u v} hu hv hle t t' j j' ex ey ht ht' => ?_) h2
      obtain ⟨a1, rfl⟩ := h3 u hu
      obtain ⟨a2, rfl⟩ := h3 v hv
      have ex : V.ref a1 = V.ref t := ex
      have ey : V.ref a2 = V.ref t' := ey
      cases ex
      cases ey
      rw [TS3.rankOf_eq (tri _ _ ht), TS3.rankOf_eq (tri _ _ ht')] at hle
      exact hle
    have hlen : (out.toList.map bkV).length ≤ sizeLine := by
      rw [hp.length_eq]
      exact hz
    exact ⟨.ref _, upd H (s.heap.objs.size + 1) (.lst (out.toList.map bkV)), I.laid (t' := s.toks) (fun _ _ => PyProof.Rows.sortedAll_old) (Nat.le_succ _) ⟨hlen, out.toList, ep, bkV_vals h3, he'⟩, rfl, q _ _ hp ho (I.hok.fresh (Nat.le_succ _))⟩
end L2
end
section
end
section
set_option Elab.async false
set_option linter.all false
set_option maxRecDepth 100000
namespace K0
open PySem PySem.Spec PyProof.Rows L2
def aboveR (R : List Row) (y : Str) : List Str := (nmsOf R).filter fun x => decide (lowR R x = y)
def upR (R : List Row) (y : Str) : List Str := (nmsOf R).filter fun x => decide (y ∈ course R x)
/-! ### the deepest first -/
theorem list_getD (l : List Str) : l = (List.range l.length).map fun k => l.getD k "" := List.ext_getElem (by rw [List.length_map, List.length_range]) fun k h1 h2 => by
  rw [List.getElem_map, List.getElem_range, List.getD_eq_getElem?_getD, List.getElem?_eq_getElem h1]
  rfl
def deepR (R : List Row) : List Str := (List.range R.length).flatMap fun i => (nmsOf R).filter fun x => decide ((course R x).length = R.length - i)
/-- places, the deepest first -/
def deepP (n : Nat) (d : Nat → Nat) : List Nat := (List.range n).flatMap fun i => (List.range n).filter fun j => decide (d j = n - i)
theorem deepP_lt {n : Nat} {d : Nat → Nat} (h100 : n ≤ 100) : (deepP n d).Pairwise fun a b => -(d a : Int) * 100 + (a : Int) < -(d b : Int) * 100 + (b : Int) := by
  unfold deepP
  rw [List.pairwise_flatMap]
  refine ⟨fun i hi => ?_, ?_⟩
  · rw [List.pairwise_filter]
    refine List.Pairwise.imp (fun {a b} hab h1 h2 => ?_) (List.pairwise_lt_range (n := n))
    have h1 := of_decide_eq_true h1
    have h2 := of_decide_eq_true h2
    rw [h1, h2]
    omega
  · refine List.Pairwise.imp_of_mem (fun {i k} hi hk hik a ha b hb => ?_) (List.pairwise_lt_range (n := n))
    have hi := List.mem_range.mp hi
    have hk := List.mem_range.mp hk
    obtain ⟨a1, a2⟩ := List.mem_filter.mp ha
    obtain ⟨b1, b2⟩ := List.mem_filter.mp hb
    have a1 := List.mem_range.mp a1
    have b1 := List.mem_range.mp b1
    have a2 := of_decide_eq_true a2
    have b2 := of_decide_eq_true b2
    rw [a2, b2]
    omega
theorem deepP_perm {n : Nat} {d : Nat → Nat} (h100 : n ≤ 100) (hd : ∀ j, j < n → 1 ≤ d j ∧ d j ≤ n) : (deepP n d).Perm (List.range n) := by
  have nd : (deepP n d).Nodup := List.Pairwise.imp (fun {a b} h e => by
    subst e
    omega) (deepP_lt (d := d) h100)
  refine (List.perm_ext_iff_of_nodup nd List.nodup_range).mpr fun a => ⟨fun h => ?_, fun h => ?_⟩
  · obtain ⟨i, _, hm⟩ := List.mem_flatMap.mp h
    exact (List.mem_filter.mp hm).1
  · have ha := List.mem_range.mp h
    obtain ⟨h1, h2⟩ := hd a ha
    refine List.mem_flatMap.mpr ⟨n - d a, List.mem_range.mpr (by omega), List.mem_filter.mpr ⟨h, decide_eq_true (by omega)⟩⟩
theorem deep_eq {n : Nat} {d : Nat → Nat} {js : List Nat} (h100 : n ≤ 100) (hd : ∀ j, j < n → 1 ≤ d j ∧ d j ≤ n) (hp : js.Perm (List.range n)) (hs : js.Pairwise fun a b => -(d a : Int) * 100 + (a : Int) ≤ -(d b : Int) * 100 + (b : Int)) : js = deepP n d := by
  refine List.Perm.eq_of_pairwise (le := fun a b => -(d a : Int) * 100 + (a : Int) ≤ -(d b : Int) * 100 + (b : Int)) (fun a b ha hb h1 h2 => ?_) hs ((deepP_lt h100).imp fun h => Int.le_of_lt h) (hp.trans (deepP_perm h100 hd).symm)
  have ha := List.mem_range.mp (hp.mem_iff.mp ha)
  have hb := List.mem_range.mp ((deepP_perm h100 hd).mem_iff.mp hb)
  omega
theorem deep_names {R : List Row} {nm : Nat → Str} (hn : nmsOf R = (List.range R.length).map nm) : (deepP R.length fun j => (course R (nm j)).length).map nm = deepR R := by
  unfold deepP deepR
  rw [List.map_flatMap]
  congr 1
  funext i
  rw [hn, List.filter_map]
  rfl
abbrev scAbove_N : List Str := ["below", "low", "weir"]
abbrev scAbove_S : Stmt := sAbove
theorem scAbove : FnScope scAbove_N ["below", "low"] (defScope sAbove) := ⟨rfl, rfl, rfl, by decide +kernel, rfl, by decide +kernel, by decide +kernel⟩
abbrev scUp_N : List Str := ["courses", "low", "weir"]
abbrev scUp_S : Stmt := sUp
theorem scUp : FnScope scUp_N ["courses", "low"] (defScope sUp) := ⟨rfl, rfl, rfl, by decide +kernel, rfl, by decide +kernel, by decide +kernel⟩
abbrev scOrder_N : List Str := ["courses", "rows", "place", "weir", "row"]
abbrev scOrder_S : Stmt := sOrder
theorem scOrder : FnScope scOrder_N ["courses"] (defScope sOrder) := ⟨rfl, rfl, rfl, by decide +kernel, rfl, by decide +kernel, by decide +kernel⟩
def spAbove : Sp := fun vs H Q _ => ∃ (d : Addr) (R : List Row) (y : Str), vs = [.ref d, .str y] ∧ H d = some (.dK (belowK R)) ∧ GoodRows R ∧
  ∀ (H' : Hp) (t : Addr), Same H H' → H t = none → FT H' t (aboveR R y) → Q (.ref t) H'
def spUp : Sp := fun vs H Q _ => ∃ (c : Addr) (R : List Row) (y : Str), vs = [.ref c, .str y] ∧ TupsAt H c (nmsOf R) (course R) ∧ GoodRows R ∧
  ∀ (H' : Hp) (t : Addr), Same H H' → H t = none → FT H' t (upR R y) → Q (.ref t) H'
def spOrder : Sp := fun vs H Q _ => ∃ (c : Addr) (R : List Row), vs = [.ref c] ∧ TupsAt H c (nmsOf R) (course R) ∧ GoodRows R ∧
  ∀ (H' : Hp) (t : Addr), Same H H' → H t = none → H' t = some (.tup ((deepR R).map V.str)) → Q (.ref t) H'
/-- the place that a row tells -/
def plAt (H : Hp) (t : Addr) : Nat := match H t with | some (.tup [_, .int j, _]) => j.toNat | _ => 0
theorem inV_str (y : Str) (l : List Str) : inV (.str y) (l.map V.str) = decide (y ∈ l) := by
  unfold inV
  rw [List.any_map]
  by_cases h : y ∈ l
  · rw [decide_eq_true h]
    exact List.any_eq_true.mpr ⟨y, h, beq_self_eq_true y⟩
  · rw [decide_eq_false h, List.any_eq_false]
    intro x hx e
    have e : (x == y) = true := e
    rw [eq_of_beq e] at hx
    exact h hx
theorem flat_strs (l : List Str) : (l.map V.str).all flatV = true := by
  rw [List.all_map]
  exact List.all_eq_true.mpr fun _ _ => rfl
theorem filter_take {p : Str → Bool} {ns : List Str} {i : Nat} {x : Str} (h : ns[i]? = some x) : (ns.take (i + 1)).filter p = (ns.take i).filter p ++ (if p x = true then [x] else []) := by
  rw [List.take_add_one, h, List.filter_append]
  show _ ++ [x].filter p = _
  by_cases e : p x = true
  · rw [List.filter_cons_of_pos e, if_pos e]
    rfl
  · rw [List.filter_cons_of_neg e, if_neg e]
    rfl
section
variable {P : Program} {w : World} {K : PySem.W.Frag} {mg : Str → Option Value} {base : Heap} {tS tM tL : Tok}
theorem ok_above {f : Addr} {fd : FuncData} (F : FnP K "_directly_above" sAbove f fd) (B : Bl mg) : FnOk P w K mg base CX0 1 f fd ["below", "low"] spAbove := by
  refine F.ok scAbove (fun vs H Q E h => ?_) (fun cdv A outer s H vs Q E hr h => ?_)
  · obtain ⟨d, R, y, rfl, _⟩ := h
    rfl
  · obtain ⟨d, R, y, rfl, hd, hG, k⟩ := h
    have hu := hu_of hr
    refine ⟨_, PSs.nox (pss_one
      (ps_ret (pe_callTy (tupleF (K := K)) (by rfl) B.tuple (by decide +kernel) (pa_cons (pe_lock (pe_lc (own := [("weir", 2)]) (g := gName 2) (by rfl) scAbove.nd (pi_keys (pv 0)) (blkOk_by (own := [("weir", 2)]) (N := scAbove_N) (sc := defScope scAbove_S) (by decide +kernel)) (fun _ _ _ _ _ => (pg_name (i := 2) scAbove.nd rfl (Or.inl rfl))) (fun _ _ _ _ _ => (pts_one (pt_cmpR op_eq (pe_dget hu (pv 0) (pv 2) (fun _ _ => rfl)) (pv 1) (nomark _)))) (fun _ _ _ _ _ => (pv 2)))) pa_nil)))), ?_⟩
    have hnd := hG.nm.nd
    have hRm := hG.most
    have hnl : (nmsOf R).length = R.length := List.length_map _
    refine ⟨d, _, hd, trivial, fun od => ?_⟩
    refine ⟨_, rfl, d, od, rfl, .inl ⟨_, upd_same, fun D hD => ?_⟩⟩
    have s0 : Same (upd H d (.frz od (.dK (belowK R)))) (upd (upd H d (.frz od (.dK (belowK R)))) D (.lst [])) := same_upd hD
    have ndD : d ≠ D := ne_of_none upd_same hD
    have hfz : ∀ H2, Same (upd H d (.frz od (.dK (belowK R)))) H2 → H2 d = some (.frz od (.dK (belowK R))) := fun H2 s => s _ _ upd_same
    refine lc_it (walk_keys (kvs := belowK R)) (fun i H2 => Same (upd H d (.frz od (.dK (belowK R)))) H2 ∧ H2 D = some (.lst ((((nmsOf R).take i).filter fun x => decide (lowR R x = y)).map V.str))) ⟨s0, by rw [upd_same, List.take_zero]; rfl⟩ (fun i H2 hi h => hfz _ h.1) ?_ ?_
    · rintro i x H2 H3 hi ⟨s2, hl⟩ ⟨e, k0, v0, hkv, ev⟩
      subst e
      subst ev
      obtain ⟨x, hx, rfl, rfl⟩ := kmap_get hkv
      have hxm : x ∈ nmsOf R := List.mem_of_getElem? hx
      refine ⟨rfl, ?_⟩
      refine ⟨_, rfl, _, rfl, d, _, rfl, dget_rn (.inr ⟨od, hfz _ s2⟩) hxm, _, rfl, rfl, _, rfl, ?_⟩
      have hft := filter_take (p := fun x => decide (lowR R x = y)) hx
      refine ite2 (fun h => ?_) (fun h => ?_)
      · have h := V.str.inj (of_decide_eq_true h)
        rw [if_pos (decide_eq_true h)] at hft
        refine ⟨_, rfl, _, hl, ?_, fun b o hb => ?_, ?_⟩
        · rw [List.length_map]
          have := List.length_filter_le (fun x => decide (lowR R x = y)) ((nmsOf R).take i)
          rw [List.length_take] at this
          exact small1000 (by omega)
        · rw [upd_ne (ne_of_none hb hD)]
          exact s2 b o hb
        · rw [upd_same, hft, List.map_append]
          rfl
      · have h : ¬ lowR R x = y := fun z => h (decide_eq_true (congrArg V.str z))
        rw [if_neg (by rw [decide_eq_false h]; exact Bool.false_ne_true), List.append_nil] at hft
        refine ⟨s2, ?_⟩
        rw [hft]
        exact hl
    · rintro H2 ⟨s2, hl⟩
      rw [kmap_len, List.take_length] at hl
      refine ⟨hfz _ s2, ?_⟩
      have s3 : Same H (upd H2 d (.dK (belowK R))) := same_unlock hd s2
      have hl3 : (upd H2 d (.dK (belowK R))) D = some (.lst ((aboveR R y).map V.str)) := by
        rw [upd_ne ndD.symm]
        exact hl
      refine ⟨D, _, rfl, .inl (.inl hl3), fun t ot nt pt => ?_⟩
      exact k _ t (s3.trans (same_upd nt)) (s3.free nt) ⟨ot, pt, upd_same⟩
theorem ok_up {f : Addr} {fd : FuncData} (F : FnP K "_find_upstream" sUp f fd) (B : Bl mg) : FnOk P w K mg base CX0 1 f fd ["courses", "low"] spUp := by
  refine F.ok scUp (fun vs H Q E h => ?_) (fun cdv A outer s H vs Q E hr h => ?_)
  · obtain ⟨d, R, y, rfl, _⟩ := h
    rfl
  · obtain ⟨d, R, y, rfl, hT, hG, k⟩ := h
    have hu := hu_of hr
    obtain ⟨ta, hd, ht⟩ := hT.ex
    refine ⟨_, PSs.nox (pss_one
      (ps_ret (pe_callTy (tupleF (K := K)) (by rfl) B.tuple (by decide +kernel) (pa_cons (pe_lock (pe_lc (own := [("weir", 2)]) (g := gName 2) (by rfl) scUp.nd (pi_keys (pv 0)) (blkOk_by (own := [("weir", 2)]) (N := scUp_N) (sc := defScope scUp_S) (by decide +kernel)) (fun _ _ _ _ _ => (pg_name (i := 2) scUp.nd rfl (Or.inl rfl))) (fun _ _ _ _ _ => (pts_one (pt_cmpR (inK (K := K)) (pv 1) (pe_dget hu (pv 0) (pv 2) (fun _ _ => rfl)) (by rfl)))) (fun _ _ _ _ _ => (pv 2)))) pa_nil)))), ?_⟩
    have hnd := hG.nm.nd
    have hRm := hG.most
    have hnl : (nmsOf R).length = R.length := List.length_map _
    refine ⟨d, _, hd, trivial, fun od => ?_⟩
    refine ⟨_, rfl, d, od, rfl, .inl ⟨_, upd_same, fun D hD => ?_⟩⟩
    have s0 : Same (upd H d (.frz od (.dK (kmap (fun x => .ref (ta x)) (nmsOf R))))) (upd (upd H d (.frz od (.dK (kmap (fun x => .ref (ta x)) (nmsOf R))))) D (.lst [])) := same_upd hD
    have ndD : d ≠ D := ne_of_none upd_same hD
    have hfz : ∀ H2, Same (upd H d (.frz od (.dK (kmap (fun x => .ref (ta x)) (nmsOf R))))) H2 → H2 d = some (.frz od (.dK (kmap (fun x => .ref (ta x)) (nmsOf R)))) := fun H2 s => s _ _ upd_same
    have htf : ∀ x ∈ nmsOf R, FT (upd H d (.frz od (.dK (kmap (fun x => .ref (ta x)) (nmsOf R))))) (ta x) (course R x) := fun x hx => (ht x hx).upd ((ht x hx).ne hd (fun _ _ z => by cases z))
    refine lc_it walk_keys (fun i H2 => Same (upd H d (.frz od (.dK (kmap (fun x => .ref (ta x)) (nmsOf R))))) H2 ∧ H2 D = some (.lst ((((nmsOf R).take i).filter fun x => decide (y ∈ course R x)).map V.str))) ⟨s0, by rw [upd_same, List.take_zero]; rfl⟩ (fun i H2 hi h => hfz _ h.1) ?_ ?_
    · rintro i x H2 H3 hi ⟨s2, hl⟩ ⟨e, k0, v0, hkv, ev⟩
      subst e
      subst ev
      obtain ⟨x, hx, rfl, rfl⟩ := kmap_get hkv
      have hxm : x ∈ nmsOf R := List.mem_of_getElem? hx
      refine ⟨rfl, ?_⟩
      refine ⟨_, rfl, _, rfl, _, rfl, d, _, rfl, dget_rn (.inr ⟨od, hfz _ s2⟩) hxm, ta x, _, rfl, .inr (.inl ((htf x hxm).same s2).rd), rfl, flat_strs _, _, rfl, ?_⟩
      have hft := filter_take (p := fun x => decide (y ∈ course R x)) hx
      rw [inV_str]
      refine ite2 (fun h => ?_) (fun h => ?_)
      · have h : decide (y ∈ course R x) = true := h
        rw [if_pos h] at hft
        refine ⟨_, rfl, _, hl, ?_, fun b o hb => ?_, ?_⟩
        · rw [List.length_map]
          have := List.length_filter_le (fun x => decide (y ∈ course R x)) ((nmsOf R).take i)
          rw [List.length_take] at this
          exact small1000 (by omega)
        · rw [upd_ne (ne_of_none hb hD)]
          exact s2 b o hb
        · rw [upd_same, hft, List.map_append]
          rfl
      · have h : ¬ decide (y ∈ course R x) = true := h
        rw [if_neg h, List.append_nil] at hft
        refine ⟨s2, ?_⟩
        rw [hft]
        exact hl
    · rintro H2 ⟨s2, hl⟩
      rw [kmap_len, List.take_length] at hl
      refine ⟨hfz _ s2, ?_⟩
      have s3 : Same H (upd H2 d (.dK (kmap (fun x => .ref (ta x)) (nmsOf R)))) := same_unlock hd s2
      have hl3 : (upd H2 d (.dK (kmap (fun x => .ref (ta x)) (nmsOf R)))) D = some (.lst ((upR R y).map V.str)) := by
        rw [upd_ne ndD.symm]
        exact hl
      refine ⟨D, _, rfl, .inl (.inl hl3), fun t ot nt pt => ?_⟩
      exact k _ t (s3.trans (same_upd nt)) (s3.free nt) ⟨ot, pt, upd_same⟩
theorem ok_order {f : Addr} {fd : FuncData} (F : FnP K "_order_by_depth" sOrder f fd) (B : Bl mg) : FnOk P w K mg base CX0 1 f fd ["courses"] spOrder := by
  refine F.ok scOrder (fun vs H Q E h => ?_) (fun cdv A outer s H vs Q E hr h => ?_)
  · obtain ⟨d, R, rfl, _⟩ := h
    rfl
  · obtain ⟨d, R, rfl, hT, hG, k⟩ := h
    have hu := hu_of hr
    obtain ⟨ta, hd, ht⟩ := hT.ex
    refine ⟨_, PSs.nox (pss_cons
      (ps_set (i := 1) scOrder.nd rfl (Or.inl rfl) (pe_callB k0_sorted3 (by rfl) B.sorted (by decide +kernel) (pa_cons (pe_lock (pe_lc (own := [("place", 2), ("weir", 3)]) (tt := tYes) (by rfl) scOrder.nd (pi_enumD (by rfl) B.enumerate (pa_cons (pv 0) pa_nil)) (blkOk_by (own := [("place", 2), ("weir", 3)]) (N := scOrder_N) (sc := defScope scOrder_S) (by decide +kernel)) (fun _ _ _ _ _ => (tgK (K := K) (n := 2) (by rfl) (pgs_cons (pg_name (i := 2) scOrder.nd rfl (Or.inl rfl)) (pgs_cons (pg_name (i := 3) scOrder.nd rfl (Or.inl rfl)) pgs_nil)))) (fun _ _ _ _ _ => pts_nil) (fun _ _ _ _ _ => (pe_tup (pa_cons (pe_un un_neg (pe_callB (lenK (K := K)) (by rfl) B.len PySem.boot_len (pa_cons (pe_dget hu (pv 0) (pv 3) (fun _ _ => rfl)) pa_nil))) (pa_cons (pv 2) (pa_cons (pv 3) pa_nil))))))) pa_nil)))
      (pss_one
      (ps_ret (pe_callTy (tupleK (K := K)) (by rfl) B.tuple (by decide +kernel) (pa_cons (pe_lc (own := [("row", 4)]) (g := gName 4) (tt := tYes) (by rfl) scOrder.nd (pi_list (pv 1)) (blkOk_by (own := [("row", 4)]) (N := scOrder_N) (sc := defScope scOrder_S) (by decide +kernel)) (fun _ _ _ _ _ => (pg_name (i := 4) scOrder.nd rfl (Or.inl rfl))) (fun _ _ _ _ _ => pts_nil) (fun _ _ _ _ _ => (pe_ix (ixTK (K := K)) (pv 4) pe_int (fun _ _ => rfl)))) pa_nil))))), ?_⟩
    have hnd := hG.nm.nd
    have hRm := hG.most
    have hnl : (nmsOf R).length = R.length := List.length_map _
    refine ⟨d, _, hd, trivial, fun od => ?_⟩
    refine ⟨_, rfl, d, od, _, rfl, upd_same, fun D hD => ?_⟩
    have s0 : Same (upd H d (.frz od (.dK (kmap (fun x => .ref (ta x)) (nmsOf R))))) (upd (upd H d (.frz od (.dK (kmap (fun x => .ref (ta x)) (nmsOf R))))) D (.lst [])) := same_upd hD
    have ndD : d ≠ D := ne_of_none upd_same hD
    have hfz : ∀ H2, Same (upd H d (.frz od (.dK (kmap (fun x => .ref (ta x)) (nmsOf R))))) H2 → H2 d = some (.frz od (.dK (kmap (fun x => .ref (ta x)) (nmsOf R)))) := fun H2 s => s _ _ upd_same
    have htf : ∀ x ∈ nmsOf R, FT (upd H d (.frz od (.dK (kmap (fun x => .ref (ta x)) (nmsOf R))))) (ta x) (course R x) := fun x hx => (ht x hx).upd ((ht x hx).ne hd (fun _ _ z => by cases z))
    refine lc_it walk_enumD (fun i H2 => Same (upd H d (.frz od (.dK (kmap (fun x => .ref (ta x)) (nmsOf R))))) H2 ∧ ∃ ts : List Addr, H2 D = some (.lst (ts.map V.ref)) ∧ ts.length = i ∧ ∀ k t, ts[k]? = some t → H2 t = some (.tup [.int (-((course R ((nmsOf R).getD k "")).length : Int)), .int (k : Int), .str ((nmsOf R).getD k "")])) ⟨s0, [], upd_same, rfl, fun k t hk => by cases hk⟩ (fun i H2 hi h => hfz _ h.1) ?_ ?_
    · rintro i x H2 H3 hi ⟨s2, ts, hl, hxl, hxs⟩ ⟨T, x1, x2, rfl, hT, rfl, e1, e2⟩
      rw [kmap_len] at hi
      have e1 : x1 = .int (i : Int) := (Option.some.inj e1).symm
      subst e1
      obtain ⟨x, hx, rfl⟩ : ∃ x, (nmsOf R)[i]? = some x ∧ x2 = .str x := by
        refine ⟨(nmsOf R)[i], List.getElem?_eq_getElem hi, ?_⟩
        have e2 : ((kmap (fun x => V.ref (ta x)) (nmsOf R))[i]?.map fun kv => kV kv.1) = some x2 := e2
        unfold kmap at e2
        rw [List.getElem?_map, List.getElem?_eq_getElem hi] at e2
        exact (Option.some.inj e2).symm
      have hxm : x ∈ nmsOf R := List.mem_of_getElem? hx
      have s3 : Same (upd H d (.frz od (.dK (kmap (fun x => .ref (ta x)) (nmsOf R))))) (upd H2 T (.tup [.int (i : Int), .str x])) := s2.trans (same_upd hT)
      refine ⟨T, _, rfl, .inl (.inl upd_same), rfl, _, _, rfl, _, _, rfl, rfl, rfl, ?_⟩
      unfold tYes
      refine iteT ?_
      refine ⟨_, rfl, _, rfl, d, _, rfl, dget_rn (.inr ⟨od, hfz _ s3⟩) hxm, ta x, _, rfl, .inr (.inl ((htf x hxm).same s3).rd), _, rfl, _, rfl, _, rfl, by show 3 ≤ sizeLine; decide, fun p np => ?_⟩
      have hlD : (upd H2 T (.tup [.int (i : Int), .str x])) D = some (.lst (ts.map V.ref)) := by
        rw [upd_ne (ne_of_none hl hT)]
        exact hl
      have npD : D ≠ p := ne_of_none hlD np
      have eg : (nmsOf R).getD i "" = x := by
        rw [List.getD_eq_getElem?_getD, hx]
        rfl
      refine ⟨ts.map V.ref, by rw [upd_ne npD]; exact hlD, small1000 (by rw [List.length_map]; omega), fun b o hb => ?_, ts ++ [p], by rw [upd_same, List.map_append]; rfl, by rw [List.length_append, hxl]; rfl, fun k t hk => ?_⟩
      · have h3 := s3 b o hb
        rw [upd_ne (ne_of_none hb hD), upd_ne (ne_of_none h3 np)]
        exact h3
      · rcases Nat.lt_or_ge k ts.length with hkl | hkl
        · rw [List.getElem?_append_left hkl] at hk
          have h1 := hxs k t hk
          have h1' : (upd H2 T (.tup [.int (i : Int), .str x])) t = some (.tup [.int (-((course R ((nmsOf R).getD k "")).length : Int)), .int (k : Int), .str ((nmsOf R).getD k "")]) := by
            rw [upd_ne (ne_of_none h1 hT)]
            exact h1
          rw [upd_ne (ne_of h1 hl (fun z => by cases z)), upd_ne (ne_of_none h1' np)]
          exact h1'
        · rw [List.getElem?_append_right hkl] at hk
          have hk0 : k - ts.length = 0 := by
            have := (List.getElem?_eq_some_iff.mp hk).1
            rw [List.length_singleton] at this
            omega
          rw [hk0] at hk
          have e : p = t := Option.some.inj hk
          have ek : k = i := by omega
          rw [← e, ek, upd_ne npD.symm, upd_same, eg, List.length_map]
    · rintro H2 ⟨s2, ts, hl, hxl, hxs⟩
      rw [kmap_len] at hxl
      refine ⟨hfz _ s2, ?_⟩
      have s3 : Same H (upd H2 d (.dK (kmap (fun x => .ref (ta x)) (nmsOf R)))) := same_unlock hd s2
      have hl3 : (upd H2 d (.dK (kmap (fun x => .ref (ta x)) (nmsOf R)))) D = some (.lst (ts.map V.ref)) := by
        rw [upd_ne ndD.symm]
        exact hl
      have hxs3 : ∀ k t, ts[k]? = some t → (upd H2 d (.dK (kmap (fun x => .ref (ta x)) (nmsOf R)))) t = some (.tup [.int (-((course R ((nmsOf R).getD k "")).length : Int)), .int (k : Int), .str ((nmsOf R).getD k "")]) := fun k t hk => by
        have h1 := hxs k t hk
        rw [upd_ne (ne_of h1 (hfz _ s2) (fun z => by cases z))]
        exact h1
      generalize upd H2 d (.dK (kmap (fun x => .ref (ta x)) (nmsOf R))) = H3 at s3 hl3 hxs3
      have hn : ts.length = R.length := by rw [hxl, hnl]
      refine ⟨D, ts.map V.ref, fun j => -((course R ((nmsOf R).getD j.toNat "")).length : Int), fun j => (nmsOf R).getD j.toNat "", rfl, .inl (.inl hl3), by rw [List.length_map]; omega, fun x hx => ?_, fun ys p hp hord np => ?_⟩
      · obtain ⟨t, ht, rfl⟩ := List.mem_map.mp hx
        obtain ⟨k, hk⟩ := List.getElem?_of_mem ht
        have hkl := (List.getElem?_eq_some_iff.mp hk).1
        exact ⟨t, (k : Int), rfl, hxs3 k t hk, by omega, by omega⟩
      obtain ⟨ts', eys, hp'⟩ := perm_lift hp ts rfl
      subst eys
      have hpl : ∀ k t, ts[k]? = some t → plAt H3 t = k := fun k t hk => by
        unfold plAt
        rw [hxs3 k t hk]
        rfl
      have hmap : ts.map (plAt H3) = List.range R.length := List.ext_getElem (by rw [List.length_map, List.length_range, hn]) fun k h1 h2 => by
        rw [List.getElem_map, List.getElem_range]
        rw [List.length_map] at h1
        exact hpl k _ (List.getElem?_eq_getElem h1)
      have hjp : (ts'.map (plAt H3)).Perm (List.range R.length) := by
        rw [← hmap]
        exact hp'.map _
      have hH : ∀ t ∈ ts', H3 t = some (.tup [.int (-((course R ((nmsOf R).getD (plAt H3 t) "")).length : Int)), .int (plAt H3 t : Int), .str ((nmsOf R).getD (plAt H3 t) "")]) := fun t ht => by
        obtain ⟨k, hk⟩ := List.getElem?_of_mem (hp'.mem_iff.mp ht)
        rw [hpl k t hk]
        exact hxs3 k t hk
      have hjs : (ts'.map (plAt H3)).Pairwise fun a b => -((course R ((nmsOf R).getD a "")).length : Int) * 100 + (a : Int) ≤ -((course R ((nmsOf R).getD b "")).length : Int) * 100 + (b : Int) := by
        rw [List.pairwise_map] at hord ⊢
        refine List.Pairwise.imp_of_mem (fun {t t'} ht ht' h => ?_) hord
        exact h t t' (plAt H3 t : Int) (plAt H3 t' : Int) rfl rfl (hH t ht) (hH t' ht')
      have hnm : nmsOf R = (List.range R.length).map fun k => (nmsOf R).getD k "" := by
        have := list_getD (nmsOf R)
        rw [hnl] at this
        exact this
      have hd : ∀ j, j < R.length → 1 ≤ (course R ((nmsOf R).getD j "")).length ∧ (course R ((nmsOf R).getD j "")).length ≤ R.length := fun j hj => by
        have hm : (nmsOf R).getD j "" ∈ nmsOf R := by
          rw [List.getD_eq_getElem?_getD, List.getElem?_eq_getElem (by rw [hnl]; exact hj)]
          exact List.getElem_mem _
        obtain ⟨m, c⟩ := course_is hG hm
        rw [c.eq, List.length_map, List.length_range]
        exact ⟨c.one, c.most⟩
      have hjeq := deep_eq (n := R.length) (d := fun j => (course R ((nmsOf R).getD j "")).length) (by omega) hd hjp hjs
      have hz : ts'.map (fun t => V.str ((nmsOf R).getD (plAt H3 t) "")) = (deepR R).map V.str := by
        rw [← deep_names (nm := fun k => (nmsOf R).getD k "") hnm, ← hjeq, List.map_map, List.map_map]
        rfl
      have s4 : Same H3 (upd H3 p (.lst (ts'.map V.ref))) := same_upd np
      refine ⟨_, rfl, p, rfl, ⟨ts'.map V.ref, .inl (.inl upd_same)⟩, fun L hL => ?_⟩
      have s5 : Same (upd H3 p (.lst (ts'.map V.ref))) (upd (upd H3 p (.lst (ts'.map V.ref))) L (.lst [])) := same_upd hL
      have hlen' : ts'.length = R.length := by rw [hp'.length_eq, hn]
      refine lc_list (K := K) (a := p) (xs := ts'.map V.ref) (fun i H4 => Same (upd H3 p (.lst (ts'.map V.ref))) H4 ∧ H4 L = some (.lst ((ts'.take i).map fun t => V.str ((nmsOf R).getD (plAt H3 t) "")))) ⟨s5, by rw [upd_same, List.take_zero]; rfl⟩ (fun i H4 hi h => .inl (.inl (h.1 _ _ upd_same))) ?_ ?_
      · rintro i x H4 hx ⟨s6, hz4⟩
        rw [List.getElem?_map] at hx
        obtain ⟨t, ht, rfl⟩ := Option.map_eq_some_iff.mp hx
        have h1 := hH t (List.mem_of_getElem? ht)
        have hi : i < ts'.length := (List.getElem?_eq_some_iff.mp ht).1
        refine ⟨rfl, ?_⟩
        unfold tYes
        refine iteT ?_
        refine ⟨_, rfl, t, _, _, _, rfl, rfl, .inl (.inl (s6 _ _ (s4 _ _ h1))), atI_nat (j := 2) rfl, _, hz4, small1000 (by rw [List.length_map, List.length_take]; omega), fun b o hb => ?_, ?_⟩
        · rw [upd_ne (ne_of_none hb hL)]
          exact s6 b o hb
        · rw [upd_same, List.take_add_one, ht, List.map_append]
          rfl
      · rintro H4 ⟨s6, hz4⟩
        rw [List.length_map, List.take_length, hz] at hz4
        refine ⟨L, _, rfl, .inl ⟨.inl (.inl hz4), fun t nt => ?_⟩⟩
        have s7 : Same H (upd H4 t (.tup ((deepR R).map V.str))) := ((s3.trans s4).trans s6).trans (same_upd nt)
        exact k _ t s7 (((s3.trans s4).trans s6).free nt) upd_same
end
end K0
end
section
set_option Elab.async false
set_option linter.all false
set_option maxRecDepth 100000
namespace K0
open PySem PySem.Spec PyProof.Rows L2
abbrev sInit : Stmt := inClass sRiver 0
abbrev sEq : Stmt := inClass sRiver 1
abbrev sLen : Stmt := inClass sRiver 2
abbrev sIter : Stmt := inClass sRiver 3
abbrev sContains : Stmt := inClass sRiver 4
abbrev sRows : Stmt := inClass sRiver 5
abbrev sBelow : Stmt := inClass sRiver 6
abbrev sAboveM : Stmt := inClass sRiver 7
abbrev sCourseM : Stmt := inClass sRiver 8
abbrev sDepth : Stmt := inClass sRiver 9
abbrev sUpM : Stmt := inClass sRiver 10
/-- the class, as the top has made it -/
structure Rv (K : PySem.W.Frag) (mg : Str → Option Value) (C : Addr) : Prop where
  cl : Cls K C
  weirs : NoAttr K C "weirs"
  _rows : NoAttr K C "_rows"
  _below : NoAttr K C "_below"
  _courses : NoAttr K C "_courses"
  _above : NoAttr K C "_above"
  _upstream : NoAttr K C "_upstream"
  _deepest_first : NoAttr K C "_deepest_first"
  mgC : mg "River" = some (.ref C)
/-- the fields, in the order in which they are stored -/
def f1 (a : V) : List (Str × V) := putF "weirs" a []
def f2 (a b : V) : List (Str × V) := putF "_rows" b (f1 a)
def f3 (a b c : V) : List (Str × V) := putF "_below" c (f2 a b)
def f4 (a b c d : V) : List (Str × V) := putF "_courses" d (f3 a b c)
def f5 (a b c d e : V) : List (Str × V) := putF "_above" e (f4 a b c d)
def f6 (a b c d e g : V) : List (Str × V) := putF "_upstream" g (f5 a b c d e)
def f7 (a b c d e g h : V) : List (Str × V) := putF "_deepest_first" h (f6 a b c d e g)
theorem putF_len (n : Str) (v : V) : ∀ fs : List (Str × V), (putF n v fs).length ≤ fs.length + 1
  | [] => Nat.le_refl _
  | q :: r => by
    have ih := putF_len n v r
    show (if q.1 = n then (q.1, v) :: r else q :: putF n v r).length ≤ _
    split
    · simp
    · simp only [List.length_cons]; omega
section
variable (a b c d e g h : V)
theorem l1 : (f1 a).length ≤ 1 := putF_len _ _ _
theorem l2 : (f2 a b).length ≤ 2 := Nat.le_trans (putF_len _ _ _) (Nat.succ_le_succ (l1 a))
theorem l3 : (f3 a b c).length ≤ 3 := Nat.le_trans (putF_len _ _ _) (Nat.succ_le_succ (l2 a b))
theorem l4 : (f4 a b c d).length ≤ 4 := Nat.le_trans (putF_len _ _ _) (Nat.succ_le_succ (l3 a b c))
theorem l5 : (f5 a b c d e).length ≤ 5 := Nat.le_trans (putF_len _ _ _) (Nat.succ_le_succ (l4 a b c d))
theorem l6 : (f6 a b c d e g).length ≤ 6 := Nat.le_trans (putF_len _ _ _) (Nat.succ_le_succ (l5 a b c d e))
theorem g3b : (f3 a b c).lookup ("_below" : Str) = some c := by rw [f3, lookup_putF, if_pos rfl]
theorem g4b : (f4 a b c d).lookup ("_below" : Str) = some c := by rw [f4, lookup_putF, if_neg (by decide +kernel), g3b]
theorem g4w : (f4 a b c d).lookup ("weirs" : Str) = some a := by
  rw [f4, lookup_putF, if_neg (by decide +kernel), f3, lookup_putF, if_neg (by decide +kernel), f2, lookup_putF, if_neg (by decide +kernel), f1, lookup_putF, if_pos rfl]
theorem g4c : (f4 a b c d).lookup ("_courses" : Str) = some d := by rw [f4, lookup_putF, if_pos rfl]
theorem g5w : (f5 a b c d e).lookup ("weirs" : Str) = some a := by rw [f5, lookup_putF, if_neg (by decide +kernel), g4w]
theorem g5c : (f5 a b c d e).lookup ("_courses" : Str) = some d := by rw [f5, lookup_putF, if_neg (by decide +kernel), g4c]
theorem g6c : (f6 a b c d e g).lookup ("_courses" : Str) = some d := by rw [f6, lookup_putF, if_neg (by decide +kernel), g5c]
theorem g7w : (f7 a b c d e g h).lookup ("weirs" : Str) = some a := by rw [f7, lookup_putF, if_neg (by decide +kernel), f6, lookup_putF, if_neg (by decide +kernel), g5w]
theorem g7r : (f7 a b c d e g h).lookup ("_rows" : Str) = some b := by
  rw [f7, lookup_putF, if_neg (by decide +kernel), f6, lookup_putF, if_neg (by decide +kernel), f5, lookup_putF, if_neg (by decide +kernel), f4, lookup_putF, if_neg (by decide +kernel), f3, lookup_putF, if_neg (by decide +kernel), f2, lookup_putF, if_pos rfl]
theorem g7b : (f7 a b c d e g h).lookup ("_below" : Str) = some c := by
  rw [f7, lookup_putF, if_neg (by decide +kernel), f6, lookup_putF, if_neg (by decide +kernel), f5, lookup_putF, if_neg (by decide +kernel), g4b]
theorem g7c : (f7 a b c d e g h).lookup ("_courses" : Str) = some d := by rw [f7, lookup_putF, if_neg (by decide +kernel), g6c]
theorem g7a : (f7 a b c d e g h).lookup ("_above" : Str) = some e := by
  rw [f7, lookup_putF, if_neg (by decide +kernel), f6, lookup_putF, if_neg (by decide +kernel), f5, lookup_putF, if_pos rfl]
theorem g7u : (f7 a b c d e g h).lookup ("_upstream" : Str) = some g := by
  rw [f7, lookup_putF, if_neg (by decide +kernel), f6, lookup_putF, if_pos rfl]
theorem g7no {m : Str} (h1 : ¬ m = "weirs") (h2 : ¬ m = "_rows") (h3 : ¬ m = "_below") (h4 : ¬ m = "_courses") (h5 : ¬ m = "_above") (h6 : ¬ m = "_upstream") (h7 : ¬ m = "_deepest_first") : (f7 a b c d e g h).lookup m = none := by
  rw [f7, lookup_putF, if_neg h7, f6, lookup_putF, if_neg h6, f5, lookup_putF, if_neg h5, f4, lookup_putF, if_neg h4, f3, lookup_putF, if_neg h3, f2, lookup_putF, if_neg h2, f1, lookup_putF, if_neg h1]
  rfl
end
abbrev namesOf (AR : List (Addr × Row)) : List Str := nmsOf (rowsOf AR)
/-- a tuple of the weirs, the deepest first -/
def DeepAt (H : Hp) (o : V) (R : List Row) : Prop := ∃ t, o = .ref t ∧ H t = some (.tup ((deepR R).map V.str))
theorem DeepAt.to {H H' : Hp} {o : V} {R : List Row} (d : DeepAt H o R) (h : ∀ t, H t = some (.tup ((deepR R).map V.str)) → H' t = some (.tup ((deepR R).map V.str))) : DeepAt H' o R := by
  obtain ⟨t, e, q⟩ := d
  exact ⟨t, e, h t q⟩
/-- a river of these rows stands at p -/
structure RivAt (C : Addr) (H : Hp) (p : Addr) (AR : List (Addr × Row)) : Prop where
  ex : ∃ (dx tw tr db dc da du : Addr) (o : V), H p = some (.ins C dx (f7 (.ref tw) (.ref tr) (.ref db) (.ref dc) (.ref da) (.ref du) o)) ∧
    H tw = some (.tup ((namesOf AR).map V.str)) ∧ H tr = some (.tup (AR.map fun q => V.ref q.1)) ∧ (∀ q ∈ AR, H q.1 = some (.tup [.str q.2.1, .str q.2.2])) ∧ H db = some (.dK (belowK (rowsOf AR))) ∧
    TupsAt H dc (namesOf AR) (course (rowsOf AR)) ∧ TupsAt H da (namesOf AR ++ [("sea" : Str)]) (aboveR (rowsOf AR)) ∧ TupsAt H du (namesOf AR) (upR (rowsOf AR)) ∧ DeepAt H o (rowsOf AR)
theorem Same.riv {C : Addr} {H H' : Hp} {p : Addr} {AR : List (Addr × Row)} (s : Same H H') (r : RivAt C H p AR) : RivAt C H' p AR := by
  obtain ⟨dx, tw, tr, db, dc, da, du, o, h1, h2, h3, h4, h5, h6, h7, h8, h9⟩ := r.ex
  exact ⟨dx, tw, tr, db, dc, da, du, o, s _ _ h1, s _ _ h2, s _ _ h3, fun q hq => s _ _ (h4 q hq), s _ _ h5, h6.same s, h7.same s, h8.same s, h9.to fun _ e => s _ _ e⟩
abbrev scInit_N : List Str := ["self", "rows", "row", "weir", "low"]
abbrev scInit_S : Stmt := sInit
theorem scInit : FnScope scInit_N ["self", "rows"] (defScope sInit) := ⟨rfl, rfl, rfl, by decide +kernel, rfl, by decide +kernel, by decide +kernel⟩
def spInit (C : Addr) : Sp := fun vs H Q _ => ∃ (p l dx : Addr) (AR : List (Addr × Row)), vs = [.ref p, .ref l] ∧ H p = some (.ins C dx []) ∧ RowsAt H l AR ∧ GoodRows (rowsOf AR) ∧
  ∀ H', Upto p H H' → RivAt C H' p AR → Q .non H'
section
variable {P : Program} {w : World} {K : PySem.W.Frag} {mg : Str → Option Value} {base : Heap} {tS tM tL : Tok}
/-- the functions that a river's making calls -/
structure Mf (K : PySem.W.Frag) (mg : Str → Option Value) : Prop where
  isName : ∃ f fd, FnP K "is_name" sIsName f fd ∧ mg "is_name" = some (.ref f)
  isRow : ∃ f fd, FnP K "_is_row" sIsRow f fd ∧ mg "is_row_rivers" = some (.ref f)
  needRows : ∃ f fd, FnP K "_need_rows" sNeedRows f fd ∧ mg "need_rows_rivers" = some (.ref f)
  course : ∃ f fd, FnP K "_course" sCourse f fd ∧ mg "_course" = some (.ref f)
  find : ∃ f fd, FnP K "_find_courses" sFind f fd ∧ mg "_find_courses" = some (.ref f)
  above : ∃ f fd, FnP K "_directly_above" sAbove f fd ∧ mg "_directly_above" = some (.ref f)
  up : ∃ f fd, FnP K "_find_upstream" sUp f fd ∧ mg "_find_upstream" = some (.ref f)
  order : ∃ f fd, FnP K "_order_by_depth" sOrder f fd ∧ mg "_order_by_depth" = some (.ref f)
theorem ok_init {f Cr : Addr} {fd : FuncData} (F : FnM K "__init__" "River.__init__" sInit f fd) (M : Mf K mg) (T : Rv K mg Cr) (B : Bl mg) (C : Gc mg tS tM tL) : FnOk P w K mg base CX0 4 f fd ["self", "rows"] (spInit Cr) := by
  obtain ⟨a1, d1, F1, m1⟩ := M.isName
  obtain ⟨a2, d2, F2, m2⟩ := M.isRow
  obtain ⟨a3, d3, F_need_rows, g_need_rows⟩ := M.needRows
  obtain ⟨a4, d4, F4, m4⟩ := M.course
  obtain ⟨a5, d5, F_find_courses, g_find_courses⟩ := M.find
  obtain ⟨a6, d6, F_directly_above, g_directly_above⟩ := M.above
  obtain ⟨a7, d7, F_find_upstream, g_find_upstream⟩ := M.up
  obtain ⟨a8, d8, F_order_by_depth, g_order_by_depth⟩ := M.order
  have G_need_rows : FnOk P w K mg base CX0 3 a3 d3 ["rows"] (spNeedRows K) := ok_needrows F_need_rows F1 m1 F2 m2 B C
  have b_need_rows : Binds K d3 ["rows"] [] := F_need_rows.bindsN fun _ _ _ _ _ _ us hl => match us, hl with | [_], _ => rfl
  have G_find_courses : FnOk P w K mg base CX0 2 a5 d5 ["below"] (spFind K) := ok_find F_find_courses F4 m4 B C
  have b_find_courses : Binds K d5 ["below"] [] := F_find_courses.bindsN fun _ _ _ _ _ _ us hl => match us, hl with | [_], _ => rfl
  have G_directly_above : FnOk P w K mg base CX0 1 a6 d6 ["below", "low"] spAbove := ok_above F_directly_above B
  have b_directly_above : Binds K d6 ["below", "low"] [] := F_directly_above.bindsN fun _ _ _ _ _ _ us hl => match us, hl with | [_, _], _ => rfl
  have G_find_upstream : FnOk P w K mg base CX0 1 a7 d7 ["courses", "low"] spUp := ok_up F_find_upstream B
  have b_find_upstream : Binds K d7 ["courses", "low"] [] := F_find_upstream.bindsN fun _ _ _ _ _ _ us hl => match us, hl with | [_, _], _ => rfl
  have G_order_by_depth : FnOk P w K mg base CX0 1 a8 d8 ["courses"] spOrder := ok_order F_order_by_depth B
  have b_order_by_depth : Binds K d8 ["courses"] [] := F_order_by_depth.bindsN fun _ _ _ _ _ _ us hl => match us, hl with | [_], _ => rfl
  refine F.ok scInit (fun vs H Q E h => ?_) (fun cdv A outer s H vs Q E hr h => ?_)
  · obtain ⟨p, l, dx, AR, rfl, _⟩ := h
    rfl
  · obtain ⟨p, l, dx, AR, rfl, hp, hR, hG, k⟩ := h
    have hu := hu_of hr
    have hr_need_rows : Room 3 _ := hr.mono (by decide)
    have hr_find_courses : Room 2 _ := hr.mono (by decide)
    have hr_directly_above : Room 1 _ := hr.mono (by decide)
    have hr_find_upstream : Room 1 _ := hr.mono (by decide)
    have hr_order_by_depth : Room 1 _ := hr.mono (by decide)
    refine ⟨_, PSs.nox (pss_cons
      (ps_expr (pe_call G_need_rows hr_need_rows (by rfl) g_need_rows F_need_rows.kp b_need_rows .nil pass0 (pa_cons (pv 1) pa_nil)))
      (pss_cons
      (ps_fld (pv 0) (pe_callTy (tupleK (K := K)) (by rfl) B.tuple (by decide +kernel) (pa_cons (pe_lc (own := [("row", 2)]) (g := gName 2) (tt := tYes) (by rfl) scInit.nd (pi_list (pv 1)) (blkOk_by (own := [("row", 2)]) (N := scInit_N) (sc := defScope scInit_S) (by decide +kernel)) (fun _ _ _ _ _ => (pg_name (i := 2) scInit.nd rfl (Or.inl rfl))) (fun _ _ _ _ _ => pts_nil) (fun _ _ _ _ _ => (pe_ix (ixTK (K := K)) (pv 2) pe_int (fun _ _ => rfl)))) pa_nil)) rfl)
      (pss_cons
      (ps_fld (pv 0) (pe_callTy (tupleK (K := K)) (by rfl) B.tuple (by decide +kernel) (pa_cons (pv 1) pa_nil)) rfl)
      (pss_cons
      (ps_fld (pv 0) (pe_dc (own := [("weir", 3), ("low", 4)]) (tt := tYes) (by rfl) scInit.nd (pi_list (pv 1)) (blkOk_by (own := [("weir", 3), ("low", 4)]) (N := scInit_N) (sc := defScope scInit_S) (by decide +kernel)) (fun _ _ _ _ _ => (tgK (K := K) (n := 2) (by rfl) (pgs_cons (pg_name (i := 3) scInit.nd rfl (Or.inl rfl)) (pgs_cons (pg_name (i := 4) scInit.nd rfl (Or.inl rfl)) pgs_nil)))) (fun _ _ _ _ _ => pts_nil) (fun _ _ _ _ _ => (pv 3)) (fun _ _ _ _ _ => (pv 4))) rfl)
      (pss_cons
      (ps_fld (pv 0) (pe_call G_find_courses hr_find_courses (by rfl) g_find_courses F_find_courses.kp b_find_courses .nil pass0 (pa_cons (fldK (K := K) (pv 0) rfl) pa_nil)) rfl)
      (pss_cons
      (ps_fld (pv 0) (pe_dc (own := [("low", 4)]) (g := gName 4) (tt := tYes) (by rfl) scInit.nd (pi_tup (pe_op op_catT (fldK (K := K) (pv 0) rfl) (pe_tup (pa_cons (pe_glob (v := .str "sea") (by rfl) C.SEA ⟨_, rfl⟩) pa_nil)))) (blkOk_by (own := [("low", 4)]) (N := scInit_N) (sc := defScope scInit_S) (by decide +kernel)) (fun _ _ _ _ _ => (pg_name (i := 4) scInit.nd rfl (Or.inl rfl))) (fun _ _ _ _ _ => pts_nil) (fun _ _ _ _ _ => (pv 4)) (fun _ _ _ _ _ => (pe_call G_directly_above hr_directly_above (by rfl) g_directly_above F_directly_above.kp b_directly_above .nil pass0 (pa_cons (fldK (K := K) (pv 0) rfl) (pa_cons (pv 4) pa_nil))))) rfl)
      (pss_cons
      (ps_fld (pv 0) (pe_dc (own := [("weir", 3)]) (g := gName 3) (tt := tYes) (by rfl) scInit.nd (pi_tup (fldK (K := K) (pv 0) rfl)) (blkOk_by (own := [("weir", 3)]) (N := scInit_N) (sc := defScope scInit_S) (by decide +kernel)) (fun _ _ _ _ _ => (pg_name (i := 3) scInit.nd rfl (Or.inl rfl))) (fun _ _ _ _ _ => pts_nil) (fun _ _ _ _ _ => (pv 3)) (fun _ _ _ _ _ => (pe_call G_find_upstream hr_find_upstream (by rfl) g_find_upstream F_find_upstream.kp b_find_upstream .nil pass0 (pa_cons (fldK (K := K) (pv 0) rfl) (pa_cons (pv 3) pa_nil))))) rfl)
      (pss_one
      (ps_fld (pv 0) (pe_call G_order_by_depth hr_order_by_depth (by rfl) g_order_by_depth F_order_by_depth.kp b_order_by_depth .nil pass0 (pa_cons (fldK (K := K) (pv 0) rfl) pa_nil)) rfl))))))))), ?_⟩
    have hins : ∀ {o : HO} {a : Addr} {H' : Hp} {fs : List (Str × V)}, H' p = some (.ins Cr dx fs) → H' a = some o → (∀ z1 z2 z3, o ≠ .ins z1 z2 z3) → a ≠ p := fun h1 h2 n => ne_of h2 h1 (n _ _ _)
    have tupsU : ∀ {H1 H2 : Hp} {fs : List (Str × V)} {c : Addr} {ns : List Str} {g : Str → List Str}, H1 p = some (.ins Cr dx fs) → Upto p H1 H2 → TupsAt H1 c ns g → TupsAt H2 c ns g := fun h1 u t => by
      obtain ⟨ta, q1, q2⟩ := t.ex
      exact ⟨ta, u _ _ q1 (hins h1 q1 (fun _ _ _ z => by cases z)), fun x hx => (q2 x hx).to fun v e _ _ _ n4 _ => u _ _ e (ne_of e h1 (n4 _ _ _))⟩
    have hRm := hG.most
    have hAl : (rowsOf AR).length = AR.length := List.length_map _
    have hnl : (namesOf AR).length = AR.length := nmlen AR
    have hnd := hG.nm.nd
    have rowat : ∀ {i : Nat} (hi : i < AR.length), (namesOf AR)[i]? = some AR[i].2.1 ∧ lowR (rowsOf AR) AR[i].2.1 = AR[i].2.2 := fun {i} hi => by
      refine ⟨?_, low_at hnd (List.mem_map.mpr ⟨_, List.getElem_mem hi, rfl⟩)⟩
      show (((AR.map (·.2)).map (·.1)))[i]? = _
      rw [List.getElem?_map, List.getElem?_map, List.getElem?_eq_getElem hi]
      rfl
    -- _need_rows(rows)
    refine ⟨_, rfl, l, AR, rfl, hR, hG, fun H1 s1 => ?_⟩
    have p1 := s1 _ _ hp
    have R1 := hR.same s1
    -- self.weirs
    refine ⟨_, rfl, l, rfl, ⟨_, .inl (.inl R1.lst)⟩, fun D hD => ?_⟩
    have sD : Same H1 (upd H1 D (.lst [])) := same_upd hD
    refine lc_list (K := K) (a := l) (xs := AR.map fun q => V.ref q.1) (fun i H2 => Same H1 H2 ∧ H2 D = some (.lst (((namesOf AR).take i).map V.str))) ⟨sD, by rw [upd_same, List.take_zero]; rfl⟩ (fun i H2 hi h => .inl (.inl (h.1 _ _ R1.lst))) ?_ ?_
    · rintro i x H2 hx ⟨s2, hl⟩
      have hi : i < AR.length := by
        have := (List.getElem?_eq_some_iff.mp hx).1
        rw [List.length_map] at this
        exact this
      have ex := row_at hx hi
      subst ex
      refine ⟨rfl, ?_⟩
      unfold tYes
      refine iteT ?_
      refine ⟨_, rfl, AR[i].1, _, _, _, rfl, rfl, .inl (.inl (s2 _ _ (R1.tup _ (List.getElem_mem hi)))), atI_nat (j := 0) rfl, _, hl, ?_, fun b o hb => ?_, ?_⟩
      · rw [List.length_map, List.length_take]
        exact small1000 (by omega)
      · rw [upd_ne (ne_of_none hb hD)]
        exact s2 b o hb
      · rw [upd_same, List.take_add_one, (rowat hi).1, List.map_append]
        rfl
    rintro H2 ⟨s2, hl⟩
    rw [List.take_of_length_le (by rw [hnl, List.length_map]; exact Nat.le_refl _)] at hl
    refine ⟨D, _, rfl, .inl ⟨.inl (.inl hl), fun tw nw => ?_⟩⟩
    have s3 : Same H (upd H2 tw (.tup ((namesOf AR).map V.str))) := (s1.trans s2).trans (same_upd nw)
    have w3 : (upd H2 tw (.tup ((namesOf AR).map V.str))) tw = some (.tup ((namesOf AR).map V.str)) := upd_same
    generalize upd H2 tw (.tup ((namesOf AR).map V.str)) = H3 at s3 w3
    have p3 := s3 _ _ hp
    refine ⟨_, rfl, p, Cr, dx, _, rfl, p3, T.cl, T.weirs, by show 0 < 1000; decide, ?_⟩
    have u4 : Upto p H (upd H3 p (.ins Cr dx (f1 (.ref tw)))) := (Upto.of s3).trans Upto.at_
    have w4 : (upd H3 p (.ins Cr dx (f1 (.ref tw)))) tw = some (.tup ((namesOf AR).map V.str)) := by
      rw [upd_ne (hins p3 w3 (fun _ _ _ z => by cases z))]
      exact w3
    have p4 : (upd H3 p (.ins Cr dx (f1 (.ref tw)))) p = some (.ins Cr dx (f1 (.ref tw))) := upd_same
    show tSeq _ _ _ _ (upd H3 p (.ins Cr dx (f1 (.ref tw))))
    generalize upd H3 p (.ins Cr dx (f1 (.ref tw))) = H4 at u4 w4 p4
    have R4 : RowsAt H4 l AR := ⟨u4 _ _ hR.lst (hins hp hR.lst (fun _ _ _ z => by cases z)), fun q hq => u4 _ _ (hR.tup q hq) (hins hp (hR.tup q hq) (fun _ _ _ z => by cases z))⟩
    -- self._rows
    refine ⟨_, rfl, l, _, rfl, .inl ⟨.inl (.inl R4.lst), fun tr nr => ?_⟩⟩
    have keepP : ∀ {Hk : Hp} {fs : List (Str × V)} {o X : HO} {a : Addr}, Hk p = some (.ins Cr dx fs) → Hk a = some o → (∀ z1 z2 z3, o ≠ .ins z1 z2 z3) → (upd Hk p X) a = some o := fun h1 h2 n => by
      rw [upd_ne (hins h1 h2 n)]
      exact h2
    have rowsU : ∀ {H1 H2 : Hp}, Upto p H H2 → RowsAt H2 l AR := fun u => ⟨u _ _ hR.lst (hins hp hR.lst (fun _ _ _ z => by cases z)), fun q hq => u _ _ (hR.tup q hq) (hins hp (hR.tup q hq) (fun _ _ _ z => by cases z))⟩
    have s5 : Same H4 (upd H4 tr (.tup (AR.map fun q => V.ref q.1))) := same_upd nr
    have r5 : (upd H4 tr (.tup (AR.map fun q => V.ref q.1))) tr = some (.tup (AR.map fun q => V.ref q.1)) := upd_same
    generalize upd H4 tr (.tup (AR.map fun q => V.ref q.1)) = H5 at s5 r5
    have p5 := s5 _ _ p4
    have w5 := s5 _ _ w4
    refine ⟨_, rfl, p, Cr, dx, _, rfl, p5, T.cl, T._rows, by have := l1 (.ref tw); omega, ?_⟩
    have u6 : Upto p H (upd H5 p (.ins Cr dx (f2 (.ref tw) (.ref tr)))) := (u4.trans (Upto.of s5)).trans Upto.at_
    have w6 : (upd H5 p (.ins Cr dx (f2 (.ref tw) (.ref tr)))) tw = _ := keepP p5 w5 (fun _ _ _ z => by cases z)
    have r6 : (upd H5 p (.ins Cr dx (f2 (.ref tw) (.ref tr)))) tr = _ := keepP p5 r5 (fun _ _ _ z => by cases z)
    have p6 : (upd H5 p (.ins Cr dx (f2 (.ref tw) (.ref tr)))) p = some (.ins Cr dx (f2 (.ref tw) (.ref tr))) := upd_same
    show tSeq _ _ _ _ (upd H5 p (.ins Cr dx (f2 (.ref tw) (.ref tr))))
    generalize upd H5 p (.ins Cr dx (f2 (.ref tw) (.ref tr))) = H6 at u6 w6 r6 p6
    have R6 : RowsAt H6 l AR := rowsU (H1 := H6) u6
    -- self._below
    refine ⟨_, rfl, l, rfl, ⟨_, .inl (.inl R6.lst)⟩, fun db ndb => ?_⟩
    refine dc_it (walk_list (K := K) (a := l) (xs := AR.map fun q => V.ref q.1)) (fun i H7 => Same H6 H7 ∧ H7 db = some (.dK (kmap (fun y => .str (lowR (rowsOf AR) y)) ((namesOf AR).take i)))) ⟨same_upd ndb, by rw [upd_same, List.take_zero]; rfl⟩ (fun i H7 hi h => .inl (.inl (h.1 _ _ R6.lst))) ?_ ?_
    · rintro i x H7 H7' hi ⟨s7, hb7⟩ ⟨e, hx⟩
      subst e
      rw [List.length_map] at hi
      have ex := row_at hx hi
      subst ex
      obtain ⟨hn, hlow⟩ := rowat hi
      refine ⟨AR[i].1, _, rfl, .inl (.inl (s7 _ _ (R6.tup _ (List.getElem_mem hi)))), rfl, _, _, rfl, _, _, rfl, rfl, rfl, ?_⟩
      unfold tYes
      refine iteT ?_
      refine ⟨_, rfl, _, rfl, _, Sum.inr AR[i].2.1, rfl, hb7, ?_, fun b o hb => ?_, ?_⟩
      · rw [kmap_len, List.length_take]
        exact small1000 (by omega)
      · rw [upd_ne (ne_of_none hb ndb)]
        exact s7 b o hb
      · have hput := kmap_put (f := fun y => V.str (lowR (rowsOf AR) y)) (nodup_take hnd hn)
        rw [hlow] at hput
        rw [upd_same, hput, List.take_add_one, hn]
        rfl
    rintro H7 ⟨s7, hb7⟩
    rw [List.take_of_length_le (by rw [hnl, List.length_map]; exact Nat.le_refl _)] at hb7
    have p7 := s7 _ _ p6
    have w7 := s7 _ _ w6
    have r7 := s7 _ _ r6
    refine ⟨_, rfl, p, Cr, dx, _, rfl, p7, T.cl, T._below, by have := l2 (.ref tw) (.ref tr); omega, ?_⟩
    have u8 : Upto p H (upd H7 p (.ins Cr dx (f3 (.ref tw) (.ref tr) (.ref db)))) := (u6.trans (Upto.of s7)).trans Upto.at_
    have w8 : (upd H7 p (.ins Cr dx (f3 (.ref tw) (.ref tr) (.ref db)))) tw = _ := keepP p7 w7 (fun _ _ _ z => by cases z)
    have r8 : (upd H7 p (.ins Cr dx (f3 (.ref tw) (.ref tr) (.ref db)))) tr = _ := keepP p7 r7 (fun _ _ _ z => by cases z)
    have b8 : (upd H7 p (.ins Cr dx (f3 (.ref tw) (.ref tr) (.ref db)))) db = _ := keepP p7 hb7 (fun _ _ _ z => by cases z)
    have p8 : (upd H7 p (.ins Cr dx (f3 (.ref tw) (.ref tr) (.ref db)))) p = some (.ins Cr dx (f3 (.ref tw) (.ref tr) (.ref db))) := upd_same
    show tSeq _ _ _ _ (upd H7 p (.ins Cr dx (f3 (.ref tw) (.ref tr) (.ref db))))
    generalize upd H7 p (.ins Cr dx (f3 (.ref tw) (.ref tr) (.ref db))) = H8 at u8 w8 r8 b8 p8
    -- self._courses
    refine ⟨_, rfl, p, Cr, dx, _, _, rfl, p8, T.cl, T._below, g3b _ _ _, db, rowsOf AR, rfl, b8, hG, fun H9 dc s9 ndc c9 => ?_⟩
    have p9 := s9 _ _ p8
    refine ⟨_, rfl, p, Cr, dx, _, rfl, p9, T.cl, T._courses, by have := l3 (.ref tw) (.ref tr) (.ref db); omega, ?_⟩
    have ua : Upto p H (upd H9 p (.ins Cr dx (f4 (.ref tw) (.ref tr) (.ref db) (.ref dc)))) := (u8.trans (Upto.of s9)).trans Upto.at_
    have wa : (upd H9 p (.ins Cr dx (f4 (.ref tw) (.ref tr) (.ref db) (.ref dc)))) tw = _ := keepP p9 (s9 _ _ w8) (fun _ _ _ z => by cases z)
    have ra : (upd H9 p (.ins Cr dx (f4 (.ref tw) (.ref tr) (.ref db) (.ref dc)))) tr = _ := keepP p9 (s9 _ _ r8) (fun _ _ _ z => by cases z)
    have ba : (upd H9 p (.ins Cr dx (f4 (.ref tw) (.ref tr) (.ref db) (.ref dc)))) db = _ := keepP p9 (s9 _ _ b8) (fun _ _ _ z => by cases z)
    have ca : TupsAt (upd H9 p (.ins Cr dx (f4 (.ref tw) (.ref tr) (.ref db) (.ref dc)))) dc (namesOf AR) (course (rowsOf AR)) := tupsU p9 Upto.at_ c9
    have pa : (upd H9 p (.ins Cr dx (f4 (.ref tw) (.ref tr) (.ref db) (.ref dc)))) p = some (.ins Cr dx (f4 (.ref tw) (.ref tr) (.ref db) (.ref dc))) := upd_same
    show tSeq _ _ _ _ (upd H9 p (.ins Cr dx (f4 (.ref tw) (.ref tr) (.ref db) (.ref dc))))
    generalize upd H9 p (.ins Cr dx (f4 (.ref tw) (.ref tr) (.ref db) (.ref dc))) = Ha at ua wa ra ba ca pa
    -- self._above
    refine ⟨_, rfl, p, Cr, dx, _, _, rfl, pa, T.cl, T.weirs, g4w _ _ _ _, by show 1 ≤ sizeLine; decide, fun q nq => ?_⟩
    have sq : Same Ha (upd Ha q (.tup [.str "sea"])) := same_upd nq
    have hq1 : (upd Ha q (.tup [.str "sea"])) q = some (.tup [.str "sea"]) := upd_same
    generalize upd Ha q (.tup [.str "sea"]) = Hb at sq hq1
    have hne : (namesOf AR).map V.str ≠ [] := fun z => by
      have z2 := congrArg List.length z
      rw [List.length_map, hnl] at z2
      have := hG.one
      have z3 : AR.length = 0 := z2
      omega
    refine ⟨tw, q, _, _, rfl, rfl, .inl (.inl (sq _ _ wa)), .inl (.inl hq1), hne, ?_, (fun z => nomatch z), fun _ tz nz => ?_⟩
    · rw [List.length_map, hnl]
      exact Nat.le_of_lt (small1000 (by show AR.length + 1 ≤ 1000; omega))
    have sz : Same Ha (upd Hb tz (.tup ((namesOf AR).map V.str ++ [.str "sea"]))) := sq.trans (same_upd nz)
    have hz1 : (upd Hb tz (.tup ((namesOf AR).map V.str ++ [.str "sea"]))) tz = some (.tup ((namesOf AR ++ [("sea" : Str)]).map V.str)) := by
      rw [upd_same, List.map_append]
      rfl
    have ezz : (namesOf AR).map V.str ++ [.str "sea"] = (namesOf AR ++ [("sea" : Str)]).map V.str := by
      rw [List.map_append]
      rfl
    generalize upd Hb tz (.tup ((namesOf AR).map V.str ++ [.str "sea"])) = Hc at sz hz1
    refine ⟨tz, rfl, ⟨_, .inl (.inl hz1)⟩, fun da nda => ?_⟩
    have nsea : (namesOf AR ++ [("sea" : Str)]).Nodup := nd_snoc hnd fun z => hG.nm.sea _ z rfl
    refine dc_it (walk_tup (K := K) (a := tz) (xs := (namesOf AR ++ [("sea" : Str)]).map V.str)) (fun i Hd => Same Hc Hd ∧ TupsAt Hd da ((namesOf AR ++ [("sea" : Str)]).take i) (aboveR (rowsOf AR))) ⟨same_upd nda, ⟨fun _ => 0, by rw [upd_same, List.take_zero]; rfl, fun x hx => by rw [List.take_zero] at hx; cases hx⟩⟩ (fun i Hd hi h => .inl (.inl (h.1 _ _ hz1))) ?_ ?_
    · rintro i x Hd Hd' hi ⟨sd, Td⟩ ⟨e, hx⟩
      subst e
      rw [List.length_map] at hi
      obtain ⟨y, hy, rfl⟩ : ∃ y, (namesOf AR ++ [("sea" : Str)])[i]? = some y ∧ x = .str y := by
        rw [List.getElem?_map, List.getElem?_eq_getElem hi] at hx
        exact ⟨_, List.getElem?_eq_getElem hi, (Option.some.inj hx).symm⟩
      refine ⟨rfl, ?_⟩
      unfold tYes
      refine iteT ?_
      refine ⟨_, rfl, _, rfl, p, Cr, dx, _, _, rfl, sd _ _ (sz _ _ pa), T.cl, T._below, g4b _ _ _ _, _, rfl, db, rowsOf AR, y, rfl, sd _ _ (sz _ _ ba), hG, fun He t se nt ht => ?_⟩
      obtain ⟨ta, q1, q2⟩ := (Td.same se).ex
      refine ⟨_, Sum.inr y, rfl, q1, ?_, fun b o hb => ?_, ?_⟩
      · rw [kmap_len, List.length_take, List.length_append, hnl]
        exact small1000 (by show min i (AR.length + 1) ≤ 1000; omega)
      · rw [upd_ne (ne_of_none hb nda)]
        exact se _ _ (sd b o hb)
      · have hm := tups_more q1 q2 (nodup_take nsea hy) ht
        rw [List.take_add_one, hy]
        exact hm
    rintro Hd ⟨sd, Td⟩
    rw [List.length_map, List.take_length] at Td
    have pd := sd _ _ (sz _ _ pa)
    refine ⟨_, rfl, p, Cr, dx, _, rfl, pd, T.cl, T._above, by have := l4 (.ref tw) (.ref tr) (.ref db) (.ref dc); omega, ?_⟩
    have scd : Same Ha Hd := sz.trans sd
    have ue : Upto p H (upd Hd p (.ins Cr dx (f5 (.ref tw) (.ref tr) (.ref db) (.ref dc) (.ref da)))) := (ua.trans (Upto.of scd)).trans Upto.at_
    have we : (upd Hd p (.ins Cr dx (f5 (.ref tw) (.ref tr) (.ref db) (.ref dc) (.ref da)))) tw = _ := keepP pd (scd _ _ wa) (fun _ _ _ z => by cases z)
    have re : (upd Hd p (.ins Cr dx (f5 (.ref tw) (.ref tr) (.ref db) (.ref dc) (.ref da)))) tr = _ := keepP pd (scd _ _ ra) (fun _ _ _ z => by cases z)
    have be : (upd Hd p (.ins Cr dx (f5 (.ref tw) (.ref tr) (.ref db) (.ref dc) (.ref da)))) db = _ := keepP pd (scd _ _ ba) (fun _ _ _ z => by cases z)
    have ce := tupsU (H2 := upd Hd p (.ins Cr dx (f5 (.ref tw) (.ref tr) (.ref db) (.ref dc) (.ref da)))) pd Upto.at_ (ca.same scd)
    have ae := tupsU (H2 := upd Hd p (.ins Cr dx (f5 (.ref tw) (.ref tr) (.ref db) (.ref dc) (.ref da)))) pd Upto.at_ Td
    have pe' : (upd Hd p (.ins Cr dx (f5 (.ref tw) (.ref tr) (.ref db) (.ref dc) (.ref da)))) p = some (.ins Cr dx (f5 (.ref tw) (.ref tr) (.ref db) (.ref dc) (.ref da))) := upd_same
    show tSeq _ _ _ _ (upd Hd p (.ins Cr dx (f5 (.ref tw) (.ref tr) (.ref db) (.ref dc) (.ref da))))
    generalize upd Hd p (.ins Cr dx (f5 (.ref tw) (.ref tr) (.ref db) (.ref dc) (.ref da))) = Hf at ue we re be ce ae pe'
    -- self._upstream
    refine ⟨_, rfl, p, Cr, dx, _, _, rfl, pe', T.cl, T.weirs, g5w _ _ _ _ _, tw, rfl, ⟨_, .inl (.inl we)⟩, fun du ndu => ?_⟩
    refine dc_it (walk_tup (K := K) (a := tw) (xs := (namesOf AR).map V.str)) (fun i Hg => Same Hf Hg ∧ TupsAt Hg du ((namesOf AR).take i) (upR (rowsOf AR))) ⟨same_upd ndu, ⟨fun _ => 0, by rw [upd_same, List.take_zero]; rfl, fun x hx => by rw [List.take_zero] at hx; cases hx⟩⟩ (fun i Hg hi h => .inl (.inl (h.1 _ _ we))) ?_ ?_
    · rintro i x Hg Hg' hi ⟨sg, Tg⟩ ⟨e, hx⟩
      subst e
      rw [List.length_map] at hi
      obtain ⟨y, hy, rfl⟩ : ∃ y, (namesOf AR)[i]? = some y ∧ x = .str y := by
        rw [List.getElem?_map, List.getElem?_eq_getElem hi] at hx
        exact ⟨_, List.getElem?_eq_getElem hi, (Option.some.inj hx).symm⟩
      refine ⟨rfl, ?_⟩
      unfold tYes
      refine iteT ?_
      refine ⟨_, rfl, _, rfl, p, Cr, dx, _, _, rfl, sg _ _ pe', T.cl, T._courses, g5c _ _ _ _ _, _, rfl, dc, rowsOf AR, y, rfl, ce.same sg, hG, fun He t se nt ht => ?_⟩
      obtain ⟨ta, q1, q2⟩ := (Tg.same se).ex
      refine ⟨_, Sum.inr y, rfl, q1, ?_, fun b o hb => ?_, ?_⟩
      · rw [kmap_len, List.length_take, hnl]
        exact small1000 (by omega)
      · rw [upd_ne (ne_of_none hb ndu)]
        exact se _ _ (sg b o hb)
      · have hm := tups_more q1 q2 (nodup_take hnd hy) ht
        rw [List.take_add_one, hy]
        exact hm
    rintro Hg ⟨sg, Tg⟩
    rw [List.length_map, List.take_length] at Tg
    have pg := sg _ _ pe'
    refine ⟨_, rfl, p, Cr, dx, _, rfl, pg, T.cl, T._upstream, by have := l5 (.ref tw) (.ref tr) (.ref db) (.ref dc) (.ref da); omega, ?_⟩
    have uh : Upto p H (upd Hg p (.ins Cr dx (f6 (.ref tw) (.ref tr) (.ref db) (.ref dc) (.ref da) (.ref du)))) := (ue.trans (Upto.of sg)).trans Upto.at_
    have wh : (upd Hg p (.ins Cr dx (f6 (.ref tw) (.ref tr) (.ref db) (.ref dc) (.ref da) (.ref du)))) tw = _ := keepP pg (sg _ _ we) (fun _ _ _ z => by cases z)
    have rh : (upd Hg p (.ins Cr dx (f6 (.ref tw) (.ref tr) (.ref db) (.ref dc) (.ref da) (.ref du)))) tr = _ := keepP pg (sg _ _ re) (fun _ _ _ z => by cases z)
    have bh : (upd Hg p (.ins Cr dx (f6 (.ref tw) (.ref tr) (.ref db) (.ref dc) (.ref da) (.ref du)))) db = _ := keepP pg (sg _ _ be) (fun _ _ _ z => by cases z)
    have ch := tupsU (H2 := upd Hg p (.ins Cr dx (f6 (.ref tw) (.ref tr) (.ref db) (.ref dc) (.ref da) (.ref du)))) pg Upto.at_ (ce.same sg)
    have ah := tupsU (H2 := upd Hg p (.ins Cr dx (f6 (.ref tw) (.ref tr) (.ref db) (.ref dc) (.ref da) (.ref du)))) pg Upto.at_ (ae.same sg)
    have uph := tupsU (H2 := upd Hg p (.ins Cr dx (f6 (.ref tw) (.ref tr) (.ref db) (.ref dc) (.ref da) (.ref du)))) pg Upto.at_ Tg
    have ph : (upd Hg p (.ins Cr dx (f6 (.ref tw) (.ref tr) (.ref db) (.ref dc) (.ref da) (.ref du)))) p = some (.ins Cr dx (f6 (.ref tw) (.ref tr) (.ref db) (.ref dc) (.ref da) (.ref du))) := upd_same
    refine ⟨_, rfl, p, Cr, dx, _, _, rfl, ph, T.cl, T._courses, g6c _ _ _ _ _ _, dc, rowsOf AR, rfl, ch, hG, fun Hi t si nt hti => ?_⟩
    have pi := si _ _ ph
    refine ⟨_, rfl, p, Cr, dx, _, rfl, pi, T.cl, T._deepest_first, by have := l6 (.ref tw) (.ref tr) (.ref db) (.ref dc) (.ref da) (.ref du); omega, ?_⟩
    have R0 : RowsAt Hi l AR := rowsU (H1 := Hi) (uh.trans (Upto.of si))
    refine k _ ((uh.trans (Upto.of si)).trans Upto.at_) ⟨dx, tw, tr, db, dc, da, du, .ref t, upd_same, keepP pi (si _ _ wh) (fun _ _ _ z => by cases z), keepP pi (si _ _ rh) (fun _ _ _ z => by cases z), fun q hq => keepP pi (R0.tup q hq) (fun _ _ _ z => by cases z), keepP pi (si _ _ bh) (fun _ _ _ z => by cases z),
      tupsU pi Upto.at_ (ch.same si), tupsU pi Upto.at_ (ah.same si), tupsU pi Upto.at_ (uph.same si), ⟨t, rfl, keepP pi hti (fun _ _ _ z => by cases z)⟩⟩
end
end K0
end
section
set_option Elab.async false
set_option linter.all false
set_option maxRecDepth 100000
namespace L2
open PySem PySem.Spec PyProof.Rows
/-! ### a def whose promise may speak of how large the heap is at its call -/
structure FnOkN (P : Program) (w : World) (K : PySem.W.Frag) (mg : Str → Option Value) (base : Heap) (CX : CXT) (k : Nat) (f : Addr) (fd : FuncData) (ps : List Str) (sp : Nat → Sp) : Prop where
  len : ∀ n vs H Q E, sp n vs H Q E → vs.length = ps.length
  run : ∀ (A : Around) (outer : List Env) (s : Shared) (H : Hp) (args : Args) (us : List Value) (vs : List V) (Q : VK) (E : XK), Room k A → Env0 P w K mg base A outer s H → BindsTo s fd args (ps.zip us) → Vals vs us → sp s.heap.objs.size vs H Q E →
    codeAny (model P w) A (.call (.ref f) args) (CR CX outer P w H s Q E) s
theorem k0_fn_ofN {CX : CXT} {P : Program} {w : World} {K : PySem.W.Frag} {mg : Str → Option Value} {base : Heap} {k : Nat} {f : Addr} {name qual : Str} {params : Arguments} {body : List Stmt} {scope : Scope} {dV kV doc pm cdv ct oc : Value} {an od : Option Addr}
    {osl : Array (Option Value)} {N ps : List Str} {sp : Nat → Sp} (lk : K.lookup f = some ⟨oc, od, .func (PySem.W.fnOf name qual params body scope dV kV doc pm an cdv ct), osl⟩) (hcd : PySem.W.codeIn K cdv qual = true) (S : FnScope N ps scope)
    (len : ∀ n vs H Q E, sp n vs H Q E → vs.length = ps.length)
    (hbody : ∀ (A : Around) (outer : List Env) (s : Shared) (H : Hp) (vs : List V) (Q : VK) (E : XK), Room k (A.deeper (envOfC qual scope s.heap.objs.size f cdv)) → sp s.heap.objs.size vs H Q E →
      ∃ t, PSs (cxOf CX P w K mg base N qual scope f cdv A outer s H E) body t ∧ t { nx := fun _ H' => Q .non H', rt := Q } (start N vs) H) :
    FnOkN P w K mg base CX (k + 1) f (PySem.W.fnOf name qual params body scope dV kV doc pm an cdv ct) ps sp := by
  refine ⟨len, fun A outer s H args us vs Q E hr e0 hb r hsp => ?_⟩
  have hl := len _ _ _ _ _ hsp
  have KX : K.In s.heap := e0.mod.kin.keeps fun b o e => (e0.bs b o e).1
  have lim : s.heap.NoLimit := e0.mod.nolimit.keeps fun b o e => (e0.bs b o e).1
  have hkind : ∀ y ∈ ps.zip us, scope.names.lookup y.1 = some .local ∨ (scope.names.lookup y.1 = some .cell ∧ ((cellsFrom (s.heap.objs.size + 1) scope.names []).lookup y.1).isSome = true) := fun ⟨n, v⟩ hy => by
    rcases S.par n (List.of_mem_zip hy).1 with q | q
    · exact .inl q
    · exact .inr ⟨q, PySem.W.cellsFrom_some _ _ _ (.inl q)⟩
  refine codeAny_call_function hr.depth (KX _ _ lk) rfl S.co S.gen rfl (PySem.W.codeRec_of KX hcd) (hb _ _ _ _ ?_)
  refine wpAny_newFunctionEnv_cells S.kind hkind fun env he s1 x => ?_
  subst he
  refine ⟨lim.keeps x.toInCall.keep, codeAny_func ?_⟩
  obtain ⟨t, ht, hq⟩ := hbody A outer s H vs Q E (hr.deeper _) hsp
  have I : Inv (cxOf CX P w K mg base N qual scope f cdv A outer s H E) [] (start N vs) H s1 := inv_start S hr.hd e0 hl r x
  refine wpAny_mono (ht.run [] s1 (start N vs) H _ I hq) (fun fl s' hs => ?_) fun e s' hs => hs
  have fin : ∀ {σ' : St} {H' : Hp} {v : V} {u : Value}, Inv (cxOf CX P w K mg base N qual scope f cdv A outer s H E) [] σ' H' s' → RelV v u → Q v H' → CE outer P w H s Q u s' :=
    fun {σ' H' v u} J rv q => ⟨v, H', J.os, J.bare, J.base, J.hok, rv, q⟩
  cases fl with
  | ret u =>
    obtain ⟨v, σ', H', J, rv, q⟩ := hs
    exact fin J rv q
  | next =>
    obtain ⟨σ', H', J, q⟩ := hs
    exact fin (v := V.non) (u := Value.none) J rfl q
  | brk =>
    obtain ⟨_, _, _, q⟩ := hs
    exact False.elim q
  | cont =>
    obtain ⟨_, _, _, q⟩ := hs
    exact False.elim q
/-! ### iter of a tuple -/
def k0_itObj (t : Addr) : Obj := { cls := .type "tuple_iterator", data := .fields #[.ref t, .int 0 0] }
def K0It (t it : Addr) : HO := .ext fun h => h.get? it = some (k0_itObj t)
theorem k0_it_ok {P : Program} {w : World} {H : Hp} {h : Heap} {t it : Addr} (e : h.get? it = some (k0_itObj t)) : ObjOk P w H h it (K0It t it) := ⟨e, ⟨_, e⟩, fun h1 h2 q k => k _ q⟩
theorem k0_call_iter {prog : Program} {w : World} {A : Around} {E : Value → Shared → Prop} {s : Shared} {t : Addr} {items : Array Value} {Q : Value → Shared → Prop} (ht : s.heap.IsTuple t items) (h : Q (.ref s.heap.objs.size) { s with heap := s.heap.push (k0_itObj t) }) :
    wpAny (model prog w) A (call (.builtin "iter") [.ref t]) Q E s := by
  refine Calls.call_function_entry (by decide +kernel) (by decide +kernel) PySem.W.kdk_entry_iter (PySem.W.kdk_args_iter _) ?_
  unfold Builtin.«iter»
  refine wpAny_bind (m := someArgs "iter" 1 2 _) (wpAny_of_eq (a := [Value.ref t]) (by first | rfl | kernel_rfl!) ?_)
  show wpAny _ _ (pyIter (.ref t) >>= _) _ _ _
  refine wpAny_bind (wpAny_pyIter_tuple ht ?_)
  exact wpAny_pure ⟨_, rfl, h⟩
def k0_rIter (K : PySem.W.Frag) (n : Nat) : List V → Hp → VK → Prop := fun xs H Q => ∃ (t : Addr) (zs : List V), xs = [.ref t] ∧ SqT K H t zs ∧ ∀ it, H it = Option.none → n ≤ it → Q (.ref it) (upd H it (K0It t it))
section
variable {X : Cx}
theorem k0_cr_iter : CallR X (.builtin "iter") (k0_rIter X.K X.s_0.heap.objs.size) := by
  intro pins s σ H xs us Q I r h
  obtain ⟨t, zs, rfl, hq, q⟩ := h
  obtain ⟨u, rfl, ru⟩ := vals1 r
  cases ru
  obtain ⟨its, rv, pl, hz⟩ := I.tuple hq
  refine k0_call_iter pl ?_
  exact ⟨.ref s.heap.objs.size, _, I.laid (t' := s.toks) (fun b u e => Heap.get?_push_of_some _ e) (Nat.le_refl _) (k0_it_ok (Heap.get?_push_size _ rfl)), rfl, q _ (I.hok.fresh (Nat.le_refl _)) I.sz⟩
end
/-! ### for x in o, o of a class of the text with an __iter__ that gives a tuple's iterator -/
/-- what such an __iter__ promises -/
def spIterT (K : PySem.W.Frag) (G : Hp → Addr → Addr → Prop) (n : Nat) : Sp := fun vs H Q _ => ∃ (p t : Addr) (zs : List V), vs = [.ref p] ∧ G H p t ∧ SqT K H t zs ∧ ∀ it, H it = Option.none → n ≤ it → Q (.ref it) (upd H it (K0It t it))
def iOwn (K : PySem.W.Frag) (C : Addr) (G : Hp → Addr → Addr → Prop) (te : TE) : TI := fun σ H R => te σ H fun x H1 => ∃ (p dx t : Addr) (fs : List (Str × V)) (zs : List V), x = .ref p ∧ H1 p = some (.ins C dx fs) ∧ G H1 p t ∧ SqT K H1 t zs ∧ R (Itt K t) H1
theorem pi_own {X : Cx} {k : Nat} {C f : Addr} {fd : FuncData} {G : Hp → Addr → Addr → Prop} {tg e : Expr} {te : TE} (F : FnOkN X.prog X.w X.K X.mg X.base CX0 k f fd ["self"] (spIterT X.K G)) (hr : Room k X.A)
    (hs : PySem.W.findIn X.K (.ref C) "__iter__" = some (some (.ref f))) (hf : PySem.W.isFn X.K (.ref f) = true) (hb : Binds X.K fd ["self"] []) (he : PE X e te) : PI X tg e (iOwn X.K C G te) := by
  refine ⟨fun pins s σ H R I h => ?_⟩
  refine thn (he.run pins s σ H _ I h) fun u s1 ⟨x, H1, I1, rx, p, dx, t, fs, zs, ex, hp, hG, ht, q⟩ => ?_
  subst ex
  cases rx
  obtain ⟨mA, J, _⟩ := ins_get I1.hok hp
  obtain ⟨od, J, _⟩ := J.look
  obtain ⟨m, hF⟩ := I1.fr
  refine PySem.W.owit_iter hF I1.ok.mod.kin J hs hf ?_
  have hsp : spIterT X.K G s1.heap.objs.size [.ref p] H1 (fun v H' => ∃ it, v = .ref it ∧ H1 it = Option.none ∧ s1.heap.objs.size ≤ it ∧ H' = upd H1 it (K0It t it)) E0 := ⟨p, t, zs, rfl, hG, ht, fun it n1 n2 => ⟨it, rfl, n1, n2, rfl⟩⟩
  have r2 : Vals [V.ref p] [Value.ref p] := .cons rfl .nil
  refine wpAny_call (codeAny_mono (F.run X.A X.stack s1 H1 ⟨[.ref p], []⟩ [.ref p] [.ref p] _ E0 hr I1.env0 (by
    have := hb s1 [.ref p] I1.kIn (by rfl)
    simpa using this) r2 hsp) fun r s' hq => ?_)
  cases r with
  | error e => exact hq.elim
  | ok fl =>
    cases fl with
    | ret w =>
      obtain ⟨z, H', I', rz, it, ez, n1, n2, eH⟩ := I1.after hq
      subst ez
      cases rz
      subst eH
      have hit : (upd H1 it (K0It t it)) it = some (K0It t it) := upd_same
      have hobj : s'.heap.get? it = some (k0_itObj t) := (I'.hok it _ hit).1
      have st : s'.heap.IsTupleIter it t 0 := ⟨_, hobj, rfl, rfl⟩
      show PySem.W.OwitIt _ _ _ _ (.ref it) s'
      unfold PySem.W.OwitIt
      refine wpAny_specialOf (T := "tuple_iterator") ⟨_, hobj, rfl⟩ PySem.F.slot_tuple_iterator_next.lookup ?_
      have hit' := hit
      unfold K0It at hit'
      have I2 := ItX.inv_drop I' hit'
      rw [ItX.dropH_upd n1] at I2
      have fp := ItX.inv_fp I' hit (Nat.le_trans I1.sz n2)
      rw [ItX.dropH_upd n1] at fp
      refine ⟨it, [it], _, _, H1, rfl, I2, turn_tuple t it, st, fun b hb => ?_, q⟩
      have e : b = it := by simpa using hb
      rw [e]
      exact fp
    | next => exact hq.elim
    | brk => exact hq.elim
    | cont => exact hq.elim
/-! ### len(o), x in o, x not in o by the text's own methods -/
section
variable {X : Cx} {k : Nat} {C f : Addr} {fd : FuncData}
/-- what such a __len__ promises -/
def spLenG (G : Hp → Addr → Nat → Prop) : Sp := fun vs H Q _ => ∃ (p : Addr) (n : Nat), vs = [.ref p] ∧ G H p n ∧ n ≤ 100000 ∧ Q (.int (n : Int)) H
theorem k0_len_own {G : Hp → Addr → Nat → Prop} (F : FnOk X.prog X.w X.K X.mg X.base CX0 k f fd ["self"] (spLenG G)) (hr : Room (k + 1) X.A)
    (hs : PySem.W.findIn X.K (.ref C) "__len__" = some (some (.ref f))) (hf : PySem.W.isFn X.K (.ref f) = true) (hb : Binds X.K fd ["self"] []) :
    CallR X (.builtin "len") (fun xs H Q => ∃ (p dx : Addr) (fs : List (Str × V)) (n : Nat), xs = [.ref p] ∧ H p = some (.ins C dx fs) ∧ G H p n ∧ n ≤ 100000 ∧ Q (.int (n : Int)) H) := by
  intro pins s σ H xs us Q I r h
  obtain ⟨p, dx, fs, n, rfl, hp, hG, hn, q⟩ := h
  obtain ⟨u, rfl, ru⟩ := vals1 r
  cases ru
  obtain ⟨mA, J, _⟩ := ins_get I.hok hp
  obtain ⟨od, J, _⟩ := J.look
  obtain ⟨m, hF⟩ := I.fr
  refine PySem.W.len_K hF I.ok.mod.kin J hs hf ?_
  have hsp : spLenG G [.ref p] H (fun v H' => v = .int (n : Int) ∧ H' = H) E0 := ⟨p, n, rfl, hG, hn, rfl, rfl⟩
  have r2 : Vals [V.ref p] [Value.ref p] := .cons rfl .nil
  have e0 : Env0 X.prog X.w X.K X.mg X.base X.A.in1 X.stack s H := I.env0.in1
  refine wpAny_call (codeAny_mono (F.run X.A.in1 X.stack s H ⟨[.ref p], []⟩ [.ref p] [.ref p] _ E0 (hr.in1) e0 (by
    have := hb s [.ref p] I.kIn (by rfl)
    simpa using this) r2 hsp) fun r s' hq => ?_)
  cases r with
  | error e => exact hq.elim
  | ok fl =>
    cases fl with
    | ret w =>
      obtain ⟨z, H', I', rz, ez, eH⟩ := I.after hq
      subst ez
      subst eH
      obtain ⟨t, rfl⟩ := rz
      exact ⟨⟨by omega, by omega⟩, .int (n : Int), H', I'.tok _, ⟨_, rfl⟩, q⟩
    | next => exact hq.elim
    | brk => exact hq.elim
    | cont => exact hq.elim
/-- what such a __contains__ promises: true or false -/
def spHas (G : Hp → Addr → V → Bool → Prop) : Sp := fun vs H Q _ => ∃ (p : Addr) (x : V) (b : Bool), vs = [.ref p, x] ∧ G H p x b ∧ Q (.bl b) H
def rHas (C : Addr) (neg : Bool) (G : Hp → Addr → V → Bool → Prop) : R2 := fun x y H Q => ∃ (p dx : Addr) (fs : List (Str × V)) (b : Bool), y = .ref p ∧ H p = some (.ins C dx fs) ∧ G H p x b ∧ Q (.bl (if neg then !b else b)) H
theorem k0_has_run {G : Hp → Addr → V → Bool → Prop} (F : FnOk X.prog X.w X.K X.mg X.base CX0 k f fd ["self", "x"] (spHas G)) (hr : Room k X.A) (hb : Binds X.K fd ["self", "x"] []) {pins : List (Addr × Obj)} {σ : St} {H : Hp} {s : Shared} (I : Inv X pins σ H s) {p : Addr} {x : V} {u : Value} {b : Bool} (rx : RelV x u) (hG : G H p x b)
    {R : Value → Shared → Prop} (h : ∀ s', Inv X pins σ H s' → R (.bool b) s') : wpAny (model X.prog X.w) X.A (call (.ref f) [.ref p, u]) R X.xe s := by
  have hsp : spHas G [.ref p, x] H (fun v H' => v = .bl b ∧ H' = H) E0 := ⟨p, x, b, rfl, hG, rfl, rfl⟩
  have r2 : Vals [V.ref p, x] [Value.ref p, u] := .cons rfl (.cons rx .nil)
  refine wpAny_call (codeAny_mono (F.run X.A X.stack s H ⟨[.ref p, u], []⟩ [.ref p, u] [.ref p, x] _ E0 hr I.env0 (by
    have := hb s [.ref p, u] I.kIn (by rfl)
    simpa using this) r2 hsp) fun r s' hq => ?_)
  cases r with
  | error e => exact hq.elim
  | ok fl =>
    cases fl with
    | ret w =>
      obtain ⟨z, H', I', rz, ez, eH⟩ := I.after hq
      subst ez
      subst eH
      cases rz
      exact h s' I'
    | next => exact hq.elim
    | brk => exact hq.elim
    | cont => exact hq.elim
theorem k0_in_own {K : PySem.W.Frag} {G : Hp → Addr → V → Bool → Prop} (F : FnOk X.prog X.w X.K X.mg X.base CX0 k f fd ["self", "x"] (spHas G)) (hr : Room k X.A)
    (hs : PySem.W.findIn X.K (.ref C) "__contains__" = some (some (.ref f))) (hf : PySem.W.isFn X.K (.ref f) = true) (hb : Binds X.K fd ["self", "x"] []) : OpR X (compareOp .In) (rHas C false G) := by
  intro pins s σ H x y v u Q I rx ry h
  obtain ⟨p, dx, fs, b, rfl, hp, hG, q⟩ := h
  cases ry
  obtain ⟨mA, J, _⟩ := ins_get I.hok hp
  obtain ⟨od, J, _⟩ := J.look
  obtain ⟨m, hF⟩ := I.fr
  refine PySem.W.in_K hF I.ok.mod.kin J hs hf (k0_has_run F hr hb I rx hG fun s' I' => ?_)
  exact wpAny_truthy_bool ⟨.bl b, H, I', rfl, q⟩
theorem k0_notIn_own {K : PySem.W.Frag} {G : Hp → Addr → V → Bool → Prop} (F : FnOk X.prog X.w X.K X.mg X.base CX0 k f fd ["self", "x"] (spHas G)) (hr : Room k X.A)
    (hs : PySem.W.findIn X.K (.ref C) "__contains__" = some (some (.ref f))) (hf : PySem.W.isFn X.K (.ref f) = true) (hb : Binds X.K fd ["self", "x"] []) : OpR X (compareOp .NotIn) (rHas C true G) := by
  intro pins s σ H x y v u Q I rx ry h
  obtain ⟨p, dx, fs, b, rfl, hp, hG, q⟩ := h
  cases ry
  obtain ⟨mA, J, _⟩ := ins_get I.hok hp
  obtain ⟨od, J, _⟩ := J.look
  obtain ⟨m, hF⟩ := I.fr
  refine PySem.W.notIn_K hF I.ok.mod.kin J hs hf (k0_has_run F hr hb I rx hG fun s' I' => ?_)
  exact wpAny_truthy_bool ⟨.bl (!b), H, I', rfl, q⟩
end
end L2
end
section
set_option linter.all false
namespace RM
variable {α : Type} [DecidableEq α]
/-! ### the first group in which nothing is met -/
def put (m : α → α → Bool) (n : α) : List (List α) → List (List α)
  | [] => [[n]]
  | g :: gs => if g.any (m n) = true then g :: put m n gs else (g ++ [n]) :: gs
def greedy (m : α → α → Bool) (l : List α) : List (List α) := l.foldl (fun gs n => put m n gs) []
theorem greedy_snoc (m : α → α → Bool) (l : List α) (n : α) : greedy m (l ++ [n]) = put m n (greedy m l) := by
  unfold greedy
  rw [List.foldl_append]
  rfl
theorem put_flat (m : α → α → Bool) (n : α) : ∀ gs : List (List α), (put m n gs).flatten.Perm (n :: gs.flatten)
  | [] => by simp [put]
  | g :: gs => by
    unfold put
    split
    · rw [List.flatten_cons, List.flatten_cons]
      exact ((put_flat m n gs).append_left g).trans List.perm_middle
    · rw [List.flatten_cons, List.flatten_cons, List.append_assoc]
      exact List.perm_middle
theorem snoc_rec {P : List α → Prop} (h0 : P []) (h1 : ∀ l n, P l → P (l ++ [n])) (l : List α) : P l := by
  have key : ∀ k, ∀ l : List α, l.length = k → P l := by
    intro k
    induction k with
    | zero =>
      intro l h
      rw [List.length_eq_zero_iff.mp h]
      exact h0
    | succ k ih =>
      intro l h
      rcases List.eq_nil_or_concat l with e | ⟨t, n, e⟩
      · rw [e] at h
        cases h
      · rw [List.concat_eq_append] at e
        subst e
        refine h1 t n (ih t ?_)
        rw [List.length_append] at h
        simpa using h
  exact key _ l rfl
theorem greedy_flat (m : α → α → Bool) (l : List α) : (greedy m l).flatten.Perm l := by
  refine snoc_rec (P := fun l => (greedy m l).flatten.Perm l) (List.Perm.refl _) (fun l n ih => ?_) l
  rw [greedy_snoc]
  exact (put_flat m n _).trans ((ih.cons n).trans (List.perm_append_comm (l₁ := [n])))
theorem put_mem {m : α → α → Bool} {n : α} {h : List α} : ∀ {gs : List (List α)}, h ∈ put m n gs → h ∈ gs ∨ h = [n] ∨ ∃ g ∈ gs, h = g ++ [n] ∧ g.any (m n) = false
  | [], hh => .inr (.inl (by simpa [put] using hh))
  | g :: gs, hh => by
    unfold put at hh
    split at hh
    · rcases List.mem_cons.mp hh with e | hh
      · exact .inl (e ▸ List.mem_cons_self)
      · rcases put_mem hh with e | e | ⟨g', h1, h2⟩
        · exact .inl (List.mem_cons_of_mem _ e)
        · exact .inr (.inl e)
        · exact .inr (.inr ⟨g', List.mem_cons_of_mem _ h1, h2⟩)
    · rename_i hn
      rcases List.mem_cons.mp hh with e | hh
      · exact .inr (.inr ⟨g, List.mem_cons_self, e, by simpa using hn⟩)
      · exact .inl (List.mem_cons_of_mem _ hh)
/-- no two of a group meet, no group is empty -/
theorem greedy_grp (m : α → α → Bool) (l : List α) : ∀ g ∈ greedy m l, g ≠ [] ∧ g.Pairwise fun a b => m b a = false := by
  refine snoc_rec (P := fun l => ∀ g ∈ greedy m l, g ≠ [] ∧ g.Pairwise fun a b => m b a = false) (fun g hg => by cases hg) (fun l n ih g hg => ?_) l
  rw [greedy_snoc] at hg
  rcases put_mem hg with e | e | ⟨g', h1, h2, h3⟩
  · exact ih g e
  · rw [e]
    exact ⟨by simp, List.pairwise_singleton _ _⟩
  · rw [h2]
    refine ⟨by simp, List.pairwise_append.mpr ⟨(ih g' h1).2, List.pairwise_singleton _ _, fun a ha b hb => ?_⟩⟩
    rw [List.mem_singleton.mp hb]
    have := List.any_eq_false.mp h3 a ha
    simpa using this
theorem put_len (m : α → α → Bool) (n : α) : ∀ gs : List (List α), (put m n gs).length = gs.length ∨ ((∀ g ∈ gs, g.any (m n) = true) ∧ (put m n gs).length = gs.length + 1)
  | [] => .inr ⟨(fun _ h => by cases h), rfl⟩
  | g :: gs => by
    unfold put
    split
    · rename_i hg
      rcases put_len m n gs with e | ⟨h, e⟩
      · exact .inl (by rw [List.length_cons, e, List.length_cons])
      · refine .inr ⟨fun g' hg' => ?_, by rw [List.length_cons, e, List.length_cons]⟩
        rcases List.mem_cons.mp hg' with q | q
        · rw [q]
          exact hg
        · exact h g' q
    · exact .inl rfl
theorem any_count {p : α → Bool} : ∀ {gs : List (List α)}, (∀ g ∈ gs, g.any p = true) → gs.length ≤ gs.flatten.countP p
  | [], _ => Nat.zero_le _
  | g :: gs, h => by
    have ih := any_count fun g' hg' => h g' (List.mem_cons_of_mem _ hg')
    have h1 := h g List.mem_cons_self
    rw [List.flatten_cons, List.countP_append, List.length_cons]
    have : 0 < g.countP p := by
      rw [List.countP_pos_iff]
      obtain ⟨x, hx, px⟩ := List.any_eq_true.mp h1
      exact ⟨x, hx, px⟩
    omega
/-- as few groups as the most that meet -/
theorem greedy_len {m : α → α → Bool} {K : Nat} (l : List α) (h : ∀ d n r, l = d ++ n :: r → d.countP (m n) + 1 ≤ K) : (greedy m l).length ≤ K := by
  refine snoc_rec (P := fun l => (∀ d n r, l = d ++ n :: r → d.countP (m n) + 1 ≤ K) → (greedy m l).length ≤ K) (fun _ => Nat.zero_le _) (fun l n ih h => ?_) l h
  have h1 := ih fun d n' r e => h d n' (r ++ [n]) (by rw [e, List.append_assoc]; rfl)
  rw [greedy_snoc]
  rcases put_len m n (greedy m l) with e | ⟨hall, e⟩
  · rw [e]
    exact h1
  · rw [e]
    have h2 := any_count hall
    rw [(greedy_flat m l).countP_eq] at h2
    have h3 := h l n [] rfl
    omega
theorem one_of {l : List α} (hn : l.Nodup) (h : ∀ a ∈ l, ∀ b ∈ l, a = b) : l.length ≤ 1 := by
  match l, hn, h with
  | [], _, _ => exact Nat.zero_le _
  | [a], _, _ => exact Nat.le_refl _
  | a :: b :: r, hn, h =>
    have e := h a List.mem_cons_self b (List.mem_cons_of_mem _ List.mem_cons_self)
    obtain ⟨h1, _⟩ := List.nodup_cons.mp hn
    exact absurd (e ▸ List.mem_cons_self) h1
/-- those that all meet stand in groups of their own -/
theorem many_groups {S : List α} : ∀ {gs : List (List α)}, S.Nodup → (∀ s ∈ S, s ∈ gs.flatten) → (∀ g ∈ gs, ∀ a ∈ g, ∀ b ∈ g, a ∈ S → b ∈ S → a = b) → S.length ≤ gs.length := by
  intro gs
  induction gs generalizing S with
  | nil =>
    intro _ h _
    match S, h with
    | [], _ => exact Nat.le_refl _
    | s :: r, h => cases h s List.mem_cons_self
  | cons g gs ih =>
    intro hn hs hg
    have e := List.length_eq_countP_add_countP (fun s => decide (s ∈ g)) (l := S)
    rw [List.countP_eq_length_filter, List.countP_eq_length_filter] at e
    have h1 : (S.filter fun s => decide (s ∈ g)).length ≤ 1 := by
      refine one_of (hn.filter _) fun a ha b hb => ?_
      obtain ⟨a1, a2⟩ := List.mem_filter.mp ha
      obtain ⟨b1, b2⟩ := List.mem_filter.mp hb
      exact hg g List.mem_cons_self a (of_decide_eq_true a2) b (of_decide_eq_true b2) a1 b1
    have h2 := ih (S := S.filter fun s => decide ¬decide (s ∈ g) = true) (hn.filter _) (fun s h => by
      obtain ⟨s1, s2⟩ := List.mem_filter.mp h
      have s3 : s ∉ g := by simpa using s2
      have := hs s s1
      rw [List.flatten_cons] at this
      exact (List.mem_append.mp this).resolve_left s3) (fun g' hg' a ha b hb sa sb => hg g' (List.mem_cons_of_mem _ hg') a ha b hb (List.mem_filter.mp sa).1 (List.mem_filter.mp sb).1)
    rw [List.length_cons]
    omega
/-! ### those that do not meet -/
def free (m : α → α → Bool) (l : List α) : List α := l.foldl (fun t n => if t.any (m n) = true then t else t ++ [n]) []
theorem free_snoc (m : α → α → Bool) (l : List α) (n : α) : free m (l ++ [n]) = if (free m l).any (m n) = true then free m l else free m l ++ [n] := by
  unfold free
  rw [List.foldl_append]
  rfl
theorem free_sub (m : α → α → Bool) (l : List α) : (free m l).Sublist l := by
  refine snoc_rec (P := fun l => (free m l).Sublist l) (List.Sublist.refl _) (fun l n ih => ?_) l
  rw [free_snoc]
  split
  · exact ih.trans (List.sublist_append_left l [n])
  · exact ih.append (List.Sublist.refl [n])
theorem free_pw (m : α → α → Bool) (l : List α) : (free m l).Pairwise fun a b => m b a = false := by
  refine snoc_rec (P := fun l => (free m l).Pairwise fun a b => m b a = false) List.Pairwise.nil (fun l n ih => ?_) l
  rw [free_snoc]
  split
  · exact ih
  · rename_i h
    refine List.pairwise_append.mpr ⟨ih, List.pairwise_singleton _ _, fun a ha b hb => ?_⟩
    rw [List.mem_singleton.mp hb]
    have h3 : (free m l).any (m n) = false := by simpa using h
    have := List.any_eq_false.mp h3 a ha
    simpa using this
/-- whoever is not taken meets one that stands ahead and is taken -/
theorem free_all (m : α → α → Bool) (l : List α) : ∀ n ∈ l, n ∈ free m l ∨ ∃ d r, l = d ++ n :: r ∧ ∃ t ∈ d, t ∈ free m l ∧ m n t = true := by
  refine snoc_rec (P := fun l => ∀ n ∈ l, n ∈ free m l ∨ ∃ d r, l = d ++ n :: r ∧ ∃ t ∈ d, t ∈ free m l ∧ m n t = true) (fun n h => by cases h) (fun l n ih x hx => ?_) l
  have keep : ∀ y ∈ free m l, y ∈ free m (l ++ [n]) := fun y hy => by
    rw [free_snoc]
    split
    · exact hy
    · exact List.mem_append_left _ hy
  rcases List.mem_append.mp hx with h | h
  · rcases ih x h with e | ⟨d, r, e, t, t1, t2, t3⟩
    · exact .inl (keep x e)
    · exact .inr ⟨d, r ++ [n], by rw [e, List.append_assoc]; rfl, t, t1, keep t t2, t3⟩
  · rw [List.mem_singleton.mp h]
    by_cases c : (free m l).any (m n) = true
    · obtain ⟨t, t1, t2⟩ := List.any_eq_true.mp c
      exact .inr ⟨l, [], rfl, t, (free_sub m l).subset t1, keep t t1, t2⟩
    · refine .inl ?_
      rw [free_snoc, if_neg c]
      exact List.mem_append_right _ List.mem_cons_self
/-! ### the law's own way -/
/-- the places of the groups in which nothing is met -/
def places (m : α → α → Bool) (n : α) (gs : List (List α)) (k : Nat) : List Nat := match gs with
  | [] => []
  | g :: r => (if g.any (m n) = true then [] else [k]) ++ places m n r (k + 1)
theorem places_none {m : α → α → Bool} {n : α} : ∀ {gs : List (List α)} {k : Nat}, places m n gs k = [] → put m n gs = gs ++ [[n]]
  | [], _, _ => rfl
  | g :: gs, k, h => by
    unfold places at h
    obtain ⟨h1, h2⟩ := List.append_eq_nil_iff.mp h
    unfold put
    split
    · rw [places_none h2]
      rfl
    · rename_i hn
      rw [if_neg hn] at h1
      cases h1
theorem places_some {m : α → α → Bool} {n : α} : ∀ {gs : List (List α)} {k j : Nat} {r : List Nat}, places m n gs k = j :: r → ∃ i g, j = k + i ∧ gs[i]? = some g ∧ put m n gs = gs.set i (g ++ [n])
  | [], _, _, _, h => by cases h
  | g :: gs, k, j, r, h => by
    unfold places at h
    by_cases hn : g.any (m n) = true
    · rw [if_pos hn, List.nil_append] at h
      obtain ⟨i, g', e, h1, h2⟩ := places_some h
      refine ⟨i + 1, g', by omega, h1, ?_⟩
      unfold put
      rw [if_pos hn, h2]
      rfl
    · rw [if_neg hn] at h
      injection h with h1 h2
      refine ⟨0, g, by omega, rfl, ?_⟩
      unfold put
      rw [if_neg hn]
      rfl
/-- the place of the first group in which nothing is met, or how many groups there are -/
theorem put_at {m : α → α → Bool} {n : α} : ∀ {gs : List (List α)} {i : Nat} {g : List α}, (∀ (j : Nat) (h : List α), j < i → gs[j]? = some h → h.any (m n) = true) → gs[i]? = some g → g.any (m n) = false → put m n gs = gs.set i (g ++ [n])
  | [], _, _, _, h, _ => by simp at h
  | g0 :: gs, 0, g, _, h, hn => by
    obtain rfl : g0 = g := Option.some.inj h
    unfold put
    rw [if_neg (by rw [hn]; exact Bool.false_ne_true)]
    rfl
  | g0 :: gs, i + 1, g, hb, h, hn => by
    have h0 := hb 0 g0 (by omega) rfl
    unfold put
    rw [if_pos h0, put_at (i := i) (fun j h hj e => hb (j + 1) h (by omega) e) h hn]
    rfl
theorem put_end {m : α → α → Bool} {n : α} : ∀ {gs : List (List α)}, (∀ (j : Nat) (h : List α), gs[j]? = some h → h.any (m n) = true) → put m n gs = gs ++ [[n]]
  | [], _ => rfl
  | g0 :: gs, hb => by
    have h0 := hb 0 g0 rfl
    unfold put
    rw [if_pos h0, put_end fun j h e => hb (j + 1) h e]
    rfl
theorem put_congr {m m' : α → α → Bool} {n : α} : ∀ {gs : List (List α)}, (∀ g ∈ gs, ∀ a ∈ g, m n a = m' n a) → put m n gs = put m' n gs
  | [], _ => rfl
  | g :: gs, h => by
    have e : g.any (m n) = g.any (m' n) := by
      rw [Bool.eq_iff_iff, List.any_eq_true, List.any_eq_true]
      constructor
      · rintro ⟨x, hx, px⟩
        exact ⟨x, hx, by rw [← h g List.mem_cons_self x hx]; exact px⟩
      · rintro ⟨x, hx, px⟩
        exact ⟨x, hx, by rw [h g List.mem_cons_self x hx]; exact px⟩
    unfold put
    rw [e, put_congr fun g' hg' => h g' (List.mem_cons_of_mem _ hg')]
end RM
end
section
set_option Elab.async false
set_option linter.all false
set_option maxRecDepth 100000
namespace K0
open PySem PySem.Spec PyProof.Rows L2
/-! ### shapes of texts -/
def Plain (y : Str) : Prop := ∀ c ∈ y.cps.toList, c < 1114112
theorem plain_ok {y : Str} (h : Plain y) : PyData.strOk y = true := by
  unfold PyData.strOk
  rw [← Array.all_toList, List.all_eq_true]
  intro c hc
  exact decide_eq_true (h c hc)
theorem canLay_strs : ∀ {l : List Str}, (∀ y ∈ l, Plain y) → PyData.canLayAll0 (l.map PyData.str) = true
  | [], _ => by simp only [List.map_nil, PyData.canLayAll0]
  | y :: l, h => by
    simp only [List.map_cons, PyData.canLayAll0, PyData.canLay0, plain_ok (h y List.mem_cons_self), canLay_strs fun z hz => h z (List.mem_cons_of_mem _ hz), Bool.and_self]
theorem depth_strs : ∀ l : List Str, PyData.depthAll (l.map PyData.str) = 0
  | [] => by simp only [List.map_nil, PyData.depthAll]
  | y :: l => by
    simp only [List.map_cons, PyData.depthAll, PyData.depth, depth_strs l]
    rfl
theorem dp_strs {K : PySem.W.Frag} {H : Hp} : ∀ l : List Str, DpAll K H (l.map V.str) (l.map PyData.str)
  | [] => .nil
  | y :: l => .cons (.str y) (dp_strs l)
theorem shaped_lst {l : List Str} (h : ∀ y ∈ l, Plain y) : SeqAt.shaped (.list (l.map PyData.str)) = true := by
  unfold SeqAt.shaped
  simp only [PyData.canLay0, PyData.depth, canLay_strs h, depth_strs]
  decide
theorem shaped_tup {l : List Str} (h : ∀ y ∈ l, Plain y) : SeqAt.shaped (.tuple (l.map PyData.str)) = true := by
  unfold SeqAt.shaped
  simp only [PyData.canLay0, PyData.depth, canLay_strs h, depth_strs]
  decide
theorem shaped_str {y : Str} (h : Plain y) : SeqAt.shaped (.str y) = true := by
  unfold SeqAt.shaped
  simp only [PyData.canLay0, PyData.depth, plain_ok h]
  rfl
theorem eqv_strs : ∀ l : List Str, PyData.eqvAll (l.map PyData.str) (l.map PyData.str) = true
  | [] => by simp only [List.map_nil, PyData.eqvAll]
  | y :: l => by simp only [List.map_cons, PyData.eqvAll, PyData.eqv, eqv_strs l, beq_self_eq_true, Bool.and_self]
theorem eqv_tups (l : List Str) : PyData.eqv (.tuple (l.map PyData.str)) (.tuple (l.map PyData.str)) = true := by
  simp only [PyData.eqv]
  exact eqv_strs _
theorem eqv_lsts (l : List Str) : PyData.eqv (.list (l.map PyData.str)) (.list (l.map PyData.str)) = true := by
  simp only [PyData.eqv]
  exact eqv_strs _
theorem name_plain {x : Str} (h : NameOk x) : Plain x := fun c hc => by
  have := (h.low c hc).2
  omega
theorem plain_name {R : List Row} (g : GoodRows R) {y : Str} (hy : y ∈ nmsOf R) : Plain y := name_plain (g.nm.ok y hy)
theorem sea_plain : Plain ("sea" : Str) := by
  intro c hc
  have : c = 115 ∨ c = 101 ∨ c = 97 := by simpa [sea_list, seaL] using hc
  omega
theorem course_sub {R : List Row} (g : GoodRows R) {y : Str} (hy : y ∈ nmsOf R) : ∀ z ∈ course R y, z ∈ nmsOf R := fun z hz => by
  obtain ⟨m, c⟩ := course_is g hy
  rw [c.eq] at hz
  obtain ⟨i, hi, e⟩ := List.mem_map.mp hz
  rw [← e]
  exact c.mem i (List.mem_range.mp hi)
/-! ### rights -/
abbrev RRow := Str × Str × Str
structure RtOk (R : List Row) (B : List RRow) : Prop where
  nd : (B.map (·.1)).Nodup
  ok : ∀ r ∈ B, NameOk r.1
  inn : ∀ r ∈ B, r.2.1 ∈ nmsOf R
  last : ∀ r ∈ B, r.2.2 = "sea" ∨ r.2.2 ∈ course R r.2.1
  most : B.length ≤ 40
abbrev rnm (B : List RRow) : List Str := B.map (·.1)
def wayB (R : List Row) (r : RRow) : List Str := if r.2.2 = "sea" then course R r.2.1 else (course R r.2.1).take ((course R r.2.1).idxOf r.2.2 + 1)
def rowB (B : List RRow) (n : Str) : RRow := (B.find? fun r => decide (r.1 = n)).getD ("", "", "sea")
def wayN (R : List Row) (B : List RRow) (n : Str) : List Str := wayB R (rowB B n)
theorem row_of {B : List RRow} (hd : (rnm B).Nodup) {r : RRow} (h : r ∈ B) : rowB B r.1 = r := by
  unfold rowB
  cases e : B.find? (fun q => decide (q.1 = r.1)) with
  | none => exact absurd (decide_eq_true rfl) (List.find?_eq_none.mp e r h)
  | some q =>
    have h1 := List.mem_of_find?_eq_some e
    have h2 : q.1 = r.1 := by
      have h3 := List.find?_some e
      exact of_decide_eq_true h3
    obtain ⟨i, hi⟩ := List.getElem?_of_mem h
    obtain ⟨j, hj⟩ := List.getElem?_of_mem h1
    have g1 : (rnm B)[i]? = some r.1 := by rw [List.getElem?_map, hi]; rfl
    have g2 : (rnm B)[j]? = some r.1 := by rw [List.getElem?_map, hj, ← h2]; rfl
    have : i = j := nd_ix hd g1 g2
    subst this
    rw [hi] at hj
    exact (Option.some.inj hj).symm
theorem way_of {R : List Row} {B : List RRow} (hd : (rnm B).Nodup) {r : RRow} (h : r ∈ B) : wayN R B r.1 = wayB R r := by
  unfold wayN
  rw [row_of hd h]
theorem itr_add (low : Str → Str) : ∀ (i j : Nat) (x : Str), itr low j (itr low i x) = itr low (i + j) x
  | i, 0, x => rfl
  | i, j + 1, x => by
    show low (itr low j (itr low i x)) = low (itr low (i + j) x)
    rw [itr_add low i j x]
/-- further down, the course is what is left of it -/
theorem CourseIs.tail {R : List Row} (g : GoodRows R) {x : Str} {m i : Nat} (c : CourseIs R x m) (hi : i < m) : CourseIs R (itr (lowR R) i x) (m - i) := by
  have hm := c.most
  refine ⟨by omega, by omega, ?_, fun j hj => ?_, ?_⟩
  · refine crs_full _ _ _ _ (by omega) (fun j hj => ?_) ?_
    · rw [itr_add]
      exact g.nm.sea _ (c.mem _ (by omega))
    · rw [itr_add, show i + (m - i) = m by omega]
      exact c.sea
  · rw [itr_add]
    exact c.mem _ (by omega)
  · rw [itr_add, show i + (m - i) = m by omega]
    exact c.sea
/-- a way: the first k of the course -/
structure WayIs (R : List Row) (r : RRow) (m k : Nat) : Prop where
  c : CourseIs R r.2.1 m
  one : 1 ≤ k
  most : k ≤ m
  eq : wayB R r = (List.range k).map fun i => itr (lowR R) i r.2.1
theorem way_is {R : List Row} (g : GoodRows R) {r : RRow} (h1 : r.2.1 ∈ nmsOf R) (h2 : r.2.2 = "sea" ∨ r.2.2 ∈ course R r.2.1) : ∃ m k, WayIs R r m k := by
  obtain ⟨m, c⟩ := course_is g h1
  by_cases hs : r.2.2 = "sea"
  · refine ⟨m, m, c, c.one, Nat.le_refl _, ?_⟩
    unfold wayB
    rw [if_pos hs]
    exact c.eq
  · have h3 := h2.resolve_left hs
    have hl := List.idxOf_lt_length_iff.mpr h3
    rw [c.len] at hl
    refine ⟨m, (course R r.2.1).idxOf r.2.2 + 1, c, by omega, by omega, ?_⟩
    unfold wayB
    rw [if_neg hs]
    generalize (course R r.2.1).idxOf r.2.2 = k at hl ⊢
    rw [c.eq, ← List.map_take, List.take_range, Nat.min_eq_left (by omega)]
def lastW (l : List Str) : Str := l.getLast?.getD ""
theorem WayIs.last {R : List Row} {r : RRow} {m k : Nat} (h : WayIs R r m k) : lastW (wayB R r) = itr (lowR R) (k - 1) r.2.1 := by
  have h1 := h.one
  unfold lastW
  rw [h.eq, List.getLast?_eq_getElem?, List.length_map, List.length_range, List.getElem?_map, List.getElem?_range (by omega)]
  rfl
theorem WayIs.mem {R : List Row} {r : RRow} {m k : Nat} (h : WayIs R r m k) {y : Str} : y ∈ wayB R r ↔ ∃ i, i < k ∧ itr (lowR R) i r.2.1 = y := by
  rw [h.eq, List.mem_map]
  constructor
  · rintro ⟨i, hi, e⟩
    exact ⟨i, List.mem_range.mp hi, e⟩
  · rintro ⟨i, hi, e⟩
    exact ⟨i, List.mem_range.mpr hi, e⟩
theorem WayIs.depth {R : List Row} (g : GoodRows R) {r : RRow} {m k i : Nat} (h : WayIs R r m k) (hi : i < m) : (course R (itr (lowR R) i r.2.1)).length = m - i := (h.c.tail g hi).len
theorem WayIs.sub {R : List Row} {r : RRow} {m k : Nat} (h : WayIs R r m k) : ∀ y ∈ wayB R r, y ∈ nmsOf R := fun y hy => by
  obtain ⟨i, hi, e⟩ := h.mem.mp hy
  rw [← e]
  exact h.c.mem i (by have := h.most; omega)
theorem WayIs.lastIn {R : List Row} {r : RRow} {m k : Nat} (h : WayIs R r m k) : lastW (wayB R r) ∈ wayB R r := by
  rw [h.last]
  exact h.mem.mpr ⟨k - 1, by have := h.one; omega, rfl⟩
/-- rights that meet: the one whose last weir is not deeper passes the last weir of the other -/
theorem meet_last {R : List Row} (g : GoodRows R) {r1 r2 : RRow} {m1 k1 m2 k2 : Nat} (w1 : WayIs R r1 m1 k1) (w2 : WayIs R r2 m2 k2) {y : Str} (h1 : y ∈ wayB R r1) (h2 : y ∈ wayB R r2)
    (hd : (course R (lastW (wayB R r2))).length ≤ (course R (lastW (wayB R r1))).length) : lastW (wayB R r1) ∈ wayB R r2 := by
  obtain ⟨i, hi, ei⟩ := w1.mem.mp h1
  obtain ⟨j, hj, ej⟩ := w2.mem.mp h2
  have a1 := w1.one; have a2 := w1.most; have b1 := w2.one; have b2 := w2.most
  rw [w1.last, w2.last, w1.depth g (by omega), w2.depth g (by omega)] at hd
  have d1 := w1.depth g (i := i) (by omega)
  have d2 := w2.depth g (i := j) (by omega)
  rw [ei] at d1
  rw [ej, d1] at d2
  rw [w1.last]
  refine w2.mem.mpr ⟨j + (k1 - 1 - i), by omega, ?_⟩
  rw [← itr_add, ej, ← ei, itr_add]
  congr 1
  omega
/-! ### the order in which rights are taken away -/
def depthN (R : List Row) (B : List RRow) (n : Str) : Nat := (course R (lastW (wayN R B n))).length
def remR (R : List Row) (B : List RRow) : List Str := (List.range R.length).flatMap fun i => (rnm B).filter fun n => decide (depthN R B n = R.length - i)
theorem WayIs.depthL {R : List Row} (g : GoodRows R) {r : RRow} {m k : Nat} (h : WayIs R r m k) : 1 ≤ (course R (lastW (wayB R r))).length ∧ (course R (lastW (wayB R r))).length ≤ R.length := by
  have a1 := h.one; have a2 := h.most; have a3 := h.c.most
  rw [h.last, h.depth g (by omega)]
  omega
theorem depth_ok {R : List Row} (g : GoodRows R) {B : List RRow} (b : RtOk R B) {n : Str} (hn : n ∈ rnm B) : 1 ≤ depthN R B n ∧ depthN R B n ≤ R.length := by
  obtain ⟨r, hr, rfl⟩ := List.mem_map.mp hn
  obtain ⟨m, k, w⟩ := way_is g (b.inn r hr) (b.last r hr)
  unfold depthN
  rw [way_of b.nd hr]
  exact w.depthL g
theorem rem_pw {R : List Row} {B : List RRow} : (remR R B).Pairwise fun x y => depthN R B y ≤ depthN R B x := by
  unfold remR
  rw [List.pairwise_flatMap]
  refine ⟨fun i hi => ?_, ?_⟩
  · rw [List.pairwise_filter]
    refine List.pairwise_of_forall fun x y h1 h2 => ?_
    rw [of_decide_eq_true h1, of_decide_eq_true h2]
    exact Nat.le_refl _
  · refine List.Pairwise.imp_of_mem (fun {i k} hi hk hik a ha b hb => ?_) (List.pairwise_lt_range (n := R.length))
    rw [of_decide_eq_true (List.mem_filter.mp ha).2, of_decide_eq_true (List.mem_filter.mp hb).2]
    omega
theorem rem_mem {R : List Row} (g : GoodRows R) {B : List RRow} (b : RtOk R B) {n : Str} : n ∈ remR R B ↔ n ∈ rnm B := by
  unfold remR
  rw [List.mem_flatMap]
  constructor
  · rintro ⟨i, _, h⟩
    exact (List.mem_filter.mp h).1
  · intro h
    obtain ⟨h1, h2⟩ := depth_ok g b h
    exact ⟨R.length - depthN R B n, List.mem_range.mpr (by omega), List.mem_filter.mpr ⟨h, decide_eq_true (by omega)⟩⟩
theorem rem_nd {R : List Row} (g : GoodRows R) {B : List RRow} (b : RtOk R B) : (remR R B).Nodup := by
  unfold remR List.Nodup
  rw [List.pairwise_flatMap]
  refine ⟨fun i hi => List.Pairwise.filter _ b.nd, ?_⟩
  refine List.Pairwise.imp_of_mem (fun {i k} hi hk hik a ha c hc e => ?_) (List.pairwise_lt_range (n := R.length))
  have h1 := of_decide_eq_true (List.mem_filter.mp ha).2
  have h2 := of_decide_eq_true (List.mem_filter.mp hc).2
  rw [e, h2] at h1
  have hi := List.mem_range.mp hi
  have hk := List.mem_range.mp hk
  omega
theorem rem_perm {R : List Row} (g : GoodRows R) {B : List RRow} (b : RtOk R B) : (remR R B).Perm (rnm B) :=
  (List.perm_ext_iff_of_nodup (rem_nd g b) b.nd).mpr fun _ => rem_mem g b
/-! ### meeting -/
def meetL (R : List Row) (B : List RRow) (a b : Str) : List Str := (wayN R B a).filter fun y => decide (y ∈ wayN R B b)
def meetB (R : List Row) (B : List RRow) (a b : Str) : Bool := (wayN R B a).any fun y => decide (y ∈ wayN R B b)
theorem meet_iff {R : List Row} {B : List RRow} {a b : Str} : meetB R B a b = true ↔ ∃ y, y ∈ wayN R B a ∧ y ∈ wayN R B b := by
  unfold meetB
  rw [List.any_eq_true]
  constructor
  · rintro ⟨y, h1, h2⟩
    exact ⟨y, h1, of_decide_eq_true h2⟩
  · rintro ⟨y, h1, h2⟩
    exact ⟨y, h1, decide_eq_true h2⟩
theorem meet_symm {R : List Row} {B : List RRow} (a b : Str) : meetB R B a b = meetB R B b a := by
  rw [Bool.eq_iff_iff, meet_iff, meet_iff]
  exact ⟨fun ⟨y, h1, h2⟩ => ⟨y, h2, h1⟩, fun ⟨y, h1, h2⟩ => ⟨y, h2, h1⟩⟩
theorem meetL_any {R : List Row} {B : List RRow} {a b : Str} : (meetL R B a b ≠ []) ↔ meetB R B a b = true := by
  rw [meet_iff]
  unfold meetL
  constructor
  · intro h
    obtain ⟨y, hy⟩ := List.exists_mem_of_ne_nil _ h
    obtain ⟨h1, h2⟩ := List.mem_filter.mp hy
    exact ⟨y, h1, of_decide_eq_true h2⟩
  · rintro ⟨y, h1, h2⟩ e
    have : y ∈ (wayN R B a).filter fun y => decide (y ∈ wayN R B b) := List.mem_filter.mpr ⟨h1, decide_eq_true h2⟩
    rw [e] at this
    cases this
/-- taken away earlier and met: the later one passes the last weir of the earlier -/
theorem meet_rem {R : List Row} (g : GoodRows R) {B : List RRow} (b : RtOk R B) {x y : Str} (hx : x ∈ rnm B) (hy : y ∈ rnm B) (hd : depthN R B y ≤ depthN R B x) (h : meetB R B x y = true) : lastW (wayN R B x) ∈ wayN R B y := by
  obtain ⟨z, h1, h2⟩ := meet_iff.mp h
  obtain ⟨r, hr, rfl⟩ := List.mem_map.mp hx
  obtain ⟨q, hq, rfl⟩ := List.mem_map.mp hy
  obtain ⟨m1, k1, w1⟩ := way_is g (b.inn r hr) (b.last r hr)
  obtain ⟨m2, k2, w2⟩ := way_is g (b.inn q hq) (b.last q hq)
  unfold depthN at hd
  rw [way_of b.nd hr] at hd h1 ⊢
  rw [way_of b.nd hq] at hd h2 ⊢
  exact meet_last g w1 w2 h1 h2 hd
theorem last_in {R : List Row} (g : GoodRows R) {B : List RRow} (b : RtOk R B) {x : Str} (hx : x ∈ rnm B) : lastW (wayN R B x) ∈ wayN R B x ∧ lastW (wayN R B x) ∈ nmsOf R := by
  obtain ⟨r, hr, rfl⟩ := List.mem_map.mp hx
  obtain ⟨m1, k1, w1⟩ := way_is g (b.inn r hr) (b.last r hr)
  rw [way_of b.nd hr]
  exact ⟨w1.lastIn, w1.sub _ w1.lastIn⟩
theorem way_sub {R : List Row} (g : GoodRows R) {B : List RRow} (b : RtOk R B) {x : Str} (hx : x ∈ rnm B) : ∀ y ∈ wayN R B x, y ∈ nmsOf R := by
  obtain ⟨r, hr, rfl⟩ := List.mem_map.mp hx
  obtain ⟨m1, k1, w1⟩ := way_is g (b.inn r hr) (b.last r hr)
  rw [way_of b.nd hr]
  exact w1.sub
def passR (R : List Row) (B : List RRow) (y : Str) : List Str := (rnm B).filter fun n => decide (y ∈ wayN R B n)
end K0
end
section
set_option Elab.async false
set_option linter.all false
set_option maxRecDepth 100000
namespace K0
open PySem PySem.Spec PyProof.Rows L2
/-! ### what a river is asked, for weirs that there are -/
abbrev sIsDown : Stmt := inClass sRiver 11
abbrev sWay : Stmt := inClass sRiver 13
/-- River's own special method -/
structure Sc (K : PySem.W.Frag) (Cr : Addr) : Prop where
  has : ∃ f fd, FnM K "__contains__" "River.__contains__" sContains f fd ∧ PySem.W.findIn K (.ref Cr) "__contains__" = some (some (.ref f)) ∧ PySem.W.isFn K (.ref f) = true
abbrev GHasS (Cr : Addr) : Hp → Addr → V → Bool → Prop := fun H p x b => ∃ AR y, RivAt Cr H p AR ∧ x = .str y ∧ b = decide (y ∈ namesOf AR)
theorem scContains : FnScope ["self", "x"] ["self", "x"] (defScope sContains) := ⟨rfl, rfl, rfl, by decide +kernel, rfl, by decide +kernel, by decide +kernel⟩
theorem scNeed : FnScope ["river", "weir"] ["river", "weir"] (defScope sNeed) := ⟨rfl, rfl, rfl, by decide +kernel, rfl, by decide +kernel, by decide +kernel⟩
theorem scCourseM : FnScope ["self", "weir"] ["self", "weir"] (defScope sCourseM) := ⟨rfl, rfl, rfl, by decide +kernel, rfl, by decide +kernel, by decide +kernel⟩
theorem scDepth : FnScope ["self", "weir"] ["self", "weir"] (defScope sDepth) := ⟨rfl, rfl, rfl, by decide +kernel, rfl, by decide +kernel, by decide +kernel⟩
theorem scIsDown : FnScope ["self", "high", "low"] ["self", "high", "low"] (defScope sIsDown) := ⟨rfl, rfl, rfl, by decide +kernel, rfl, by decide +kernel, by decide +kernel⟩
theorem scWay : FnScope ["self", "intake", "last", "course"] ["self", "intake", "last"] (defScope sWay) := ⟨rfl, rfl, rfl, by decide +kernel, rfl, by decide +kernel, by decide +kernel⟩
theorem scRows : FnScope ["self"] ["self"] (defScope sRows) := ⟨rfl, rfl, rfl, by decide +kernel, rfl, by decide +kernel, by decide +kernel⟩
/-- a tuple of texts -/
def TxR (H : Hp) (t : Addr) (l : List Str) : Prop := Rd H t (.tup (l.map V.str))
theorem TxR.same {H H' : Hp} {t : Addr} {l : List Str} (h : TxR H t l) (s : Same H H') : TxR H' t l := same_rd s h
def spNeedS (Cr : Addr) : Sp := fun vs H Q _ => ∃ (p : Addr) (y : Str) (AR : List (Addr × Row)), vs = [.ref p, .str y] ∧ RivAt Cr H p AR ∧ y ∈ namesOf AR ∧ Q .non H
def spCourseS (Cr : Addr) : Sp := fun vs H Q _ => ∃ (p : Addr) (y : Str) (AR : List (Addr × Row)), vs = [.ref p, .str y] ∧ RivAt Cr H p AR ∧ y ∈ namesOf AR ∧ ∀ t, TxR H t (course (rowsOf AR) y) → Q (.ref t) H
def spDepthS (Cr : Addr) : Sp := fun vs H Q _ => ∃ (p : Addr) (y : Str) (AR : List (Addr × Row)), vs = [.ref p, .str y] ∧ RivAt Cr H p AR ∧ y ∈ namesOf AR ∧ Q (.int ((course (rowsOf AR) y).length : Int)) H
def spDownS (Cr : Addr) : Sp := fun vs H Q _ => ∃ (p : Addr) (a b : Str) (AR : List (Addr × Row)), vs = [.ref p, .str a, .str b] ∧ RivAt Cr H p AR ∧ a ∈ namesOf AR ∧ b ∈ namesOf AR ∧ Q (.bl (decide (b ∈ course (rowsOf AR) a))) H
def spWayS (Cr : Addr) : Sp := fun vs H Q _ => ∃ (p : Addr) (r : RRow) (AR : List (Addr × Row)), vs = [.ref p, .str r.2.1, .str r.2.2] ∧ RivAt Cr H p AR ∧ GoodRows (rowsOf AR) ∧ r.2.1 ∈ namesOf AR ∧ (r.2.2 = "sea" ∨ r.2.2 ∈ course (rowsOf AR) r.2.1) ∧ ∀ t H', Same H H' → TxR H' t (wayB (rowsOf AR) r) → Q (.ref t) H'
def spRows (Cr : Addr) : Sp := fun vs H Q _ => ∃ (p : Addr) (AR : List (Addr × Row)), vs = [.ref p] ∧ RivAt Cr H p AR ∧ ∀ l, H l = none → Q (.ref l) (upd H l (.lst (AR.map fun q => .ref q.1)))
section
variable {P : Program} {w : World} {K : PySem.W.Frag} {mg : Str → Option Value} {base : Heap} {tS tM tL : Tok}
theorem ok_containsS {f Cr : Addr} {fd : FuncData} (F : FnM K "__contains__" "River.__contains__" sContains f fd) (T : Rv K mg Cr) (B : Bl mg) : FnOk P w K mg base CX0 1 f fd ["self", "x"] (spHas (GHasS Cr)) := by
  refine F.ok scContains (fun vs H Q E h => ?_) (fun cdv A outer s H vs Q E hr h => ?_)
  · obtain ⟨p, x, b, rfl, _⟩ := h
    rfl
  · obtain ⟨p, x, b, rfl, ⟨AR, y, R, rfl, rfl⟩, k⟩ := h
    have hu := hu_of hr
    refine ⟨_, PSs.nox (pss_one
      (ps_ret (pe_and (pe_callB call_isi (by rfl) B.isinstance (by decide +kernel) (pa_cons (pv 1) (pa_cons (pe_bltn (v := .ty "str") (by rfl) B.str (by decide +kernel) rfl) pa_nil))) (pe_one (pe_cmp (pc_din hu (pv 1) (fldK (K := K) (pv 0) rfl)) rfl))))), ?_⟩
    obtain ⟨dx, tw, tr, db, dc, da, du, o, h1, h2, h3, h4, h5, h6, h7, h8, h9⟩ := R.ex
    refine ⟨_, rfl, .str y, .ty "str", _, _, true, rfl, .ty "str", .base (.str y), kit_ty (by decide +kernel), true, rfl, iteT ?_⟩
    refine ⟨_, rfl, _, rfl, p, Cr, dx, _, _, rfl, h1, T.cl, T._below, g7b _ _ _ _ _ _ _, ?_⟩
    by_cases hy : y ∈ namesOf AR
    · refine ⟨db, some (.str (lowR (rowsOf AR) y)), rfl, dget_rn (.inl h5) hy, ?_⟩
      rw [decide_eq_true hy] at k
      exact k
    · refine ⟨db, none, rfl, .inl ⟨_, Sum.inr y, .inl h5, rfl, (kmap_not hy).symm⟩, ?_⟩
      rw [decide_eq_false hy] at k
      exact k
theorem ok_needS {f Cr : Addr} {fd : FuncData} (F : FnP K "need_weir" sNeed f fd) (M : Sc K Cr) (T : Rv K mg Cr) (B : Bl mg) : FnOk P w K mg base CX0 2 f fd ["river", "weir"] (spNeedS Cr) := by
  obtain ⟨fC, fdC, FC, hs, hf⟩ := M.has
  have GC : FnOk P w K mg base CX0 1 fC fdC ["self", "x"] (spHas (GHasS Cr)) := ok_containsS FC T B
  have bC : Binds K fdC ["self", "x"] [] := FC.bindsN fun _ _ _ _ _ _ us hl => match us, hl with | [_, _], _ => rfl
  refine F.ok scNeed (fun vs H Q E h => ?_) (fun cdv A outer s H vs Q E hr h => ?_)
  · obtain ⟨p, y, AR, rfl, _⟩ := h
    rfl
  · obtain ⟨p, y, AR, rfl, R, hy, k⟩ := h
    refine ⟨_, PSs.nox (pss_one
      (ps_if (pt_cmpR (k0_notIn_own (K := K) GC hr hs hf bC) (pv 1) (pv 0) (by rfl)) (pss_one
      ps_never) pss_nil)), ?_⟩
    obtain ⟨dx, tw, tr, db, dc, da, du, o, h1, _⟩ := id R.ex
    refine ⟨_, rfl, _, rfl, p, dx, _, true, rfl, h1, ⟨AR, y, R, rfl, (decide_eq_true hy).symm⟩, _, rfl, ?_⟩
    exact iteF k
/-- need_weir and what it promises -/
structure NdS (P : Program) (w : World) (K : PySem.W.Frag) (mg : Str → Option Value) (base : Heap) (Cr : Addr) : Prop where
  ex : ∃ f fd, FnP K "need_weir" sNeed f fd ∧ mg "need_weir" = some (.ref f) ∧ FnOk P w K mg base CX0 2 f fd ["river", "weir"] (spNeedS Cr)
theorem ok_courseS {f Cr : Addr} {fd : FuncData} (F : FnM K "course" "River.course" sCourseM f fd) (D : NdS P w K mg base Cr) (T : Rv K mg Cr) : FnOk P w K mg base CX0 3 f fd ["self", "weir"] (spCourseS Cr) := by
  obtain ⟨fN, fdN, Fneed_weir, gneed_weir, Gneed_weir⟩ := D.ex
  have bneed_weir : Binds K fdN ["river", "weir"] [] := Fneed_weir.bindsN fun _ _ _ _ _ _ us hl => match us, hl with | [_, _], _ => rfl
  refine F.ok scCourseM (fun vs H Q E h => ?_) (fun cdv A outer s H vs Q E hr h => ?_)
  · obtain ⟨p, y, AR, rfl, _⟩ := h
    rfl
  · obtain ⟨p, y, AR, rfl, R, hy, k⟩ := h
    have hu := hu_of hr
    have hrneed_weir : Room 2 _ := hr
    refine ⟨_, PSs.nox (pss_cons
      (ps_expr (pe_call Gneed_weir hrneed_weir (by rfl) gneed_weir Fneed_weir.kp bneed_weir .nil pass0 (pa_cons (pv 0) (pa_cons (pv 1) pa_nil))))
      (pss_one
      (ps_ret (pe_dget hu (fldK (K := K) (pv 0) rfl) (pv 1) (fun _ _ => rfl))))), ?_⟩
    obtain ⟨dx, tw, tr, db, dc, da, du, o, h1, h2, h3, h4, h5, h6, h7, h8, h9⟩ := id R.ex
    obtain ⟨ta, q1, q2⟩ := h6.ex
    refine ⟨_, rfl, _, rfl, p, y, AR, rfl, R, hy, ?_⟩
    exact ⟨_, rfl, p, Cr, dx, _, _, rfl, h1, T.cl, T._courses, g7c _ _ _ _ _ _ _, _, rfl, dc, _, rfl, dget_rn (.inl q1) hy, k _ (q2 y hy).rd⟩
theorem ok_depthS {f fC Cr : Addr} {fd fdC : FuncData} (F : FnM K "depth" "River.depth" sDepth f fd) (FC : FnM K "course" "River.course" sCourseM fC fdC) (Mcourse : Meth K Cr "course" fC) (D : NdS P w K mg base Cr) (T : Rv K mg Cr) (B : Bl mg) : FnOk P w K mg base CX0 4 f fd ["self", "weir"] (spDepthS Cr) := by
  have Gcourse : FnOk P w K mg base CX0 3 fC fdC ["self", "weir"] (spCourseS Cr) := ok_courseS FC D T
  have bcourse : Binds K fdC ["self", "weir"] [] := FC.bindsN fun _ _ _ _ _ _ us hl => match us, hl with | [_, _], _ => rfl
  refine F.ok scDepth (fun vs H Q E h => ?_) (fun cdv A outer s H vs Q E hr h => ?_)
  · obtain ⟨p, y, AR, rfl, _⟩ := h
    rfl
  · obtain ⟨p, y, AR, rfl, R, hy, k⟩ := h
    have hrcourse : Room 3 _ := hr
    refine ⟨_, PSs.nox (pss_one
      (ps_ret (pe_callB (lenK (K := K)) (by rfl) B.len PySem.boot_len (pa_cons (pe_meth (pv 0) T.cl Mcourse Gcourse hrcourse bcourse .nil pass0 (pa_cons (pv 1) pa_nil)) pa_nil)))), ?_⟩
    obtain ⟨dx, tw, tr, db, dc, da, du, o, h1, h2, h3, h4, h5, h6, h7, h8, h9⟩ := id R.ex
    refine ⟨_, rfl, p, dx, _, rfl, h1, g7no _ _ _ _ _ _ _ (by decide +kernel) (by decide +kernel) (by decide +kernel) (by decide +kernel) (by decide +kernel) (by decide +kernel) (by decide +kernel), _, rfl, p, y, AR, rfl, R, hy, fun t ht => ?_⟩
    refine ⟨t, _, rfl, .inr (.inl ht), ?_⟩
    rw [List.length_map]
    exact k
theorem ok_isdownS {f Cr : Addr} {fd : FuncData} (F : FnM K "is_down" "River.is_down" sIsDown f fd) (D : NdS P w K mg base Cr) (T : Rv K mg Cr) : FnOk P w K mg base CX0 3 f fd ["self", "high", "low"] (spDownS Cr) := by
  obtain ⟨fN, fdN, Fneed_weir, gneed_weir, Gneed_weir⟩ := D.ex
  have bneed_weir : Binds K fdN ["river", "weir"] [] := Fneed_weir.bindsN fun _ _ _ _ _ _ us hl => match us, hl with | [_, _], _ => rfl
  refine F.ok scIsDown (fun vs H Q E h => ?_) (fun cdv A outer s H vs Q E hr h => ?_)
  · obtain ⟨p, a, b, AR, rfl, _⟩ := h
    rfl
  · obtain ⟨p, a, b, AR, rfl, R, ha, hb, k⟩ := h
    have hu := hu_of hr
    have hrneed_weir : Room 2 _ := hr
    refine ⟨_, PSs.nox (pss_cons
      (ps_expr (pe_call Gneed_weir hrneed_weir (by rfl) gneed_weir Fneed_weir.kp bneed_weir .nil pass0 (pa_cons (pv 0) (pa_cons (pv 1) pa_nil))))
      (pss_cons
      (ps_expr (pe_call Gneed_weir hrneed_weir (by rfl) gneed_weir Fneed_weir.kp bneed_weir .nil pass0 (pa_cons (pv 0) (pa_cons (pv 2) pa_nil))))
      (pss_one
      (ps_ret (pe_cmpR (inK (K := K)) (pv 2) (pe_dget hu (fldK (K := K) (pv 0) rfl) (pv 1) (fun _ _ => rfl)) (by rfl)))))), ?_⟩
    obtain ⟨dx, tw, tr, db, dc, da, du, o, h1, h2, h3, h4, h5, h6, h7, h8, h9⟩ := id R.ex
    obtain ⟨ta, q1, q2⟩ := h6.ex
    refine ⟨_, rfl, _, rfl, p, a, AR, rfl, R, ha, ?_⟩
    refine ⟨_, rfl, _, rfl, p, b, AR, rfl, R, hb, ?_⟩
    refine ⟨_, rfl, _, rfl, p, Cr, dx, _, _, rfl, h1, T.cl, T._courses, g7c _ _ _ _ _ _ _, _, rfl, dc, _, rfl, dget_rn (.inl q1) ha, ta a, _, rfl, .inr (.inl (q2 a ha).rd), rfl, flat_strs _, ?_⟩
    rw [inV_str]
    exact k
theorem ok_wayS {f Cr : Addr} {fd : FuncData} (F : FnM K "way" "River.way" sWay f fd) (D : NdS P w K mg base Cr) (T : Rv K mg Cr) (C : Gc mg tS tM tL) : FnOk P w K mg base CX0 3 f fd ["self", "intake", "last"] (spWayS Cr) := by
  obtain ⟨fN, fdN, Fneed_weir, gneed_weir, Gneed_weir⟩ := D.ex
  have bneed_weir : Binds K fdN ["river", "weir"] [] := Fneed_weir.bindsN fun _ _ _ _ _ _ us hl => match us, hl with | [_, _], _ => rfl
  refine F.ok scWay (fun vs H Q E h => ?_) (fun cdv A outer s H vs Q E hr h => ?_)
  · obtain ⟨p, r, AR, rfl, _⟩ := h
    rfl
  · obtain ⟨p, r, AR, rfl, R, hG, ha, hl0, k⟩ := h
    have hu := hu_of hr
    have hrneed_weir : Room 2 _ := hr
    refine ⟨_, PSs.nox (pss_cons
      (ps_expr (pe_call Gneed_weir hrneed_weir (by rfl) gneed_weir Fneed_weir.kp bneed_weir .nil pass0 (pa_cons (pv 0) (pa_cons (pv 1) pa_nil))))
      (pss_cons
      (ps_set (i := 3) scWay.nd rfl (Or.inl rfl) (pe_dget hu (fldK (K := K) (pv 0) rfl) (pv 1) (fun _ _ => rfl)))
      (pss_cons
      (ps_if (pt_cmpR op_eq (pv 2) (pe_glob (v := .str "sea") (by rfl) C.SEA ⟨_, rfl⟩) (nomark _)) (pss_one
      (ps_ret (pv 3))) pss_nil)
      (pss_cons
      (ps_expr (pe_call Gneed_weir hrneed_weir (by rfl) gneed_weir Fneed_weir.kp bneed_weir .nil pass0 (pa_cons (pv 0) (pa_cons (pv 2) pa_nil))))
      (pss_cons
      (ps_if (pt_cmpR (notInK (K := K)) (pv 2) (pv 3) (by rfl)) (pss_one
      ps_never) pss_nil)
      (pss_one
      (ps_ret (pe_slice sl_tupA (pv 3) po_none (po_some (pe_op op_add (k0_bmT PySem.F.slot_tuple_index PySem.F.type_tuple_index mt_tup_index (pv 3) (pa_cons (pv 2) pa_nil)) pe_int)))))))))), ?_⟩
    obtain ⟨dx, tw, tr, db, dc, da, du, o, h1, h2, h3, h4, h5, h6, h7, h8, h9⟩ := id R.ex
    obtain ⟨ta, q1, q2⟩ := h6.ex
    refine ⟨_, rfl, _, rfl, p, r.2.1, AR, rfl, R, ha, ?_⟩
    refine ⟨_, rfl, p, Cr, dx, _, _, rfl, h1, T.cl, T._courses, g7c _ _ _ _ _ _ _, _, rfl, dc, _, rfl, dget_rn (.inl q1) ha, ?_⟩
    refine ⟨_, rfl, rfl, _, rfl, ?_⟩
    refine ite2 (fun e => ?_) (fun e => ?_)
    · have e : r.2.2 = "sea" := V.str.inj (of_decide_eq_true e)
      refine ⟨_, rfl, k _ _ (.refl _) ?_⟩
      unfold wayB
      rw [if_pos e]
      exact (q2 _ ha).rd
    · have e : ¬ r.2.2 = "sea" := fun z => e (decide_eq_true (congrArg V.str z))
      have hin := hl0.resolve_left e
      have hb : r.2.2 ∈ namesOf AR := course_sub hG ha _ hin
      refine ⟨_, rfl, _, rfl, p, r.2.2, AR, rfl, R, hb, ?_⟩
      refine ⟨_, rfl, _, rfl, ta r.2.1, _, rfl, .inr (.inl (q2 _ ha).rd), rfl, flat_strs _, _, rfl, ?_⟩
      rw [inV_str, decide_eq_true hin]
      refine iteF ?_
      have hlt := List.idxOf_lt_length_iff.mpr hin
      have hat : (course (rowsOf AR) r.2.1)[(course (rowsOf AR) r.2.1).idxOf r.2.2]? = some r.2.2 := by
        rw [List.getElem?_eq_getElem hlt, List.getElem_idxOf]
      have hfst : ∀ m, m < (course (rowsOf AR) r.2.1).idxOf r.2.2 → (course (rowsOf AR) r.2.1)[m]? ≠ some r.2.2 := fun m hm e => by
        have q := List.not_of_lt_findIdx (p := fun z => z == r.2.2) (xs := course (rowsOf AR) r.2.1) hm
        obtain ⟨hml, e2⟩ := List.getElem?_eq_some_iff.mp e
        rw [e2, beq_self_eq_true] at q
        cases q
      have hl : ((course (rowsOf AR) r.2.1).map V.str).length = (course (rowsOf AR) r.2.1).length := List.length_map _
      have haf := q2 r.2.1 ha
      obtain ⟨ot, pt, et⟩ := id haf
      have hmost : (course (rowsOf AR) r.2.1).length ≤ 40 := by
        obtain ⟨m, c⟩ := course_is hG ha
        rw [c.len]
        exact Nat.le_trans c.most hG.most
      have kw : ∀ t H', Same H H' → TxR H' t ((course (rowsOf AR) r.2.1).take ((course (rowsOf AR) r.2.1).idxOf r.2.2 + 1)) → Q (.ref t) H' := fun t H' s ht => by
        refine k t H' s ?_
        unfold wayB
        rw [if_neg e]
        exact ht
      refine ⟨_, rfl, ?_⟩
      refine ⟨_, rfl, ⟨ta r.2.1, ot, _, rfl, et, pt⟩, ?_⟩
      refine ⟨_, rfl, ta r.2.1, course (rowsOf AR) r.2.1, r.2.2, (course (rowsOf AR) r.2.1).idxOf r.2.2, rfl, rfl, .inl haf.rd, hat, hfst, ?_⟩
      refine ⟨_, _, rfl, rfl, ?_⟩
      have es : HT.sIx ((course (rowsOf AR) r.2.1).map V.str).length ((course (rowsOf AR) r.2.1).map V.str).length (some (((course (rowsOf AR) r.2.1).idxOf r.2.2 : Int) + 1)) = (course (rowsOf AR) r.2.1).idxOf r.2.2 + 1 := by
        have e := HT.sIx_nat ((course (rowsOf AR) r.2.1).map V.str).length ((course (rowsOf AR) r.2.1).map V.str).length ((course (rowsOf AR) r.2.1).idxOf r.2.2 + 1)
        rw [Int.natCast_add] at e
        have e : HT.sIx ((course (rowsOf AR) r.2.1).map V.str).length ((course (rowsOf AR) r.2.1).map V.str).length (some (((course (rowsOf AR) r.2.1).idxOf r.2.2 : Int) + 1)) = min ((course (rowsOf AR) r.2.1).idxOf r.2.2 + 1) ((course (rowsOf AR) r.2.1).map V.str).length := e
        rw [e, hl]
        omega
      refine ⟨_, rfl, ta r.2.1, _, rfl, .inl haf.rd, fun hw => ?_, fun hw t nt => ?_⟩
      · have hw2 := hw.2
        rw [es, hl] at hw2
        refine kw _ H (.refl _) ?_
        rw [List.take_of_length_le (by omega)]
        exact haf.rd
      · refine kw _ _ (same_upd nt) (.inl ?_)
        rw [upd_same]
        unfold cutV
        rw [es, HT.sIx_none, List.drop_zero, Nat.sub_zero, List.map_take]
theorem ok_rows {f Cr : Addr} {fd : FuncData} (F : FnM K "rows" "River.rows" sRows f fd) (T : Rv K mg Cr) (B : Bl mg) : FnOk P w K mg base CX0 1 f fd ["self"] (spRows Cr) := by
  refine F.ok scRows (fun vs H Q E h => ?_) (fun cdv A outer s H vs Q E hr h => ?_)
  · obtain ⟨p, AR, rfl, _⟩ := h
    rfl
  · obtain ⟨p, AR, rfl, R, k⟩ := h
    refine ⟨_, PSs.nox (pss_one
      (ps_ret (pe_callTy (listK (K := K)) (by rfl) B.list (by decide +kernel) (pa_cons (fldK (K := K) (pv 0) rfl) pa_nil)))), ?_⟩
    obtain ⟨dx, tw, tr, db, dc, da, du, o, h1, h2, h3, h4, h5, h6, h7, h8, h9⟩ := R.ex
    exact ⟨_, rfl, p, Cr, dx, _, _, rfl, h1, T.cl, T._rows, g7r _ _ _ _ _ _ _, tr, _, rfl, .inr (.inl (.inl h3)), fun l nl => k l nl⟩
end
end K0
end
section
set_option Elab.async false
set_option linter.all false
set_option maxRecDepth 100000
namespace L2
open PySem PySem.Spec PyProof.Rows
/-! ### comprehensions whose turns only lay new objects -/
/-- what a turn may end in -/
def Put1 (D : Addr) (acc acc' : List V) (H : Hp) (Nx : Hp → Prop) : Prop := ∀ (y : V) (H4 : Hp), Same H H4 → acc' = acc ++ [y] → ∃ a, H4 D = some (.lst a) ∧ a.length < sizeLine ∧ Nx (upd H4 D (.lst (a ++ [y])))
def Skip1 (acc acc' : List V) (H : Hp) (Nx : Hp → Prop) : Prop := ∀ H3, Same H H3 → acc' = acc → Nx H3
def Out1 (H1 : Hp) (D : Addr) (out : Nat → List V) (i : Nat) (H : Hp) : Prop := Same H1 H ∧ H D = some (.lst (out i))
theorem out1_0 {H1 : Hp} {D : Addr} {out : Nat → List V} (hD : H1 D = none) (h0 : out 0 = []) : Out1 H1 D out 0 (upd H1 D (.lst [])) :=
  ⟨fun b o hb => by rw [upd_ne (ne_of_none hb hD)]; exact hb, by rw [upd_same, h0]⟩
theorem out1_put {H1 H : Hp} {D : Addr} {out : Nat → List V} {i : Nat} (hD : H1 D = none) (hl : (out i).length < sizeLine) (h : Out1 H1 D out i H) : Put1 D (out i) (out (i + 1)) H (Out1 H1 D out (i + 1)) := fun y H4 s e => by
  refine ⟨_, s _ _ h.2, hl, fun b o hb => ?_, ?_⟩
  · rw [upd_ne (ne_of_none hb hD)]
    exact s _ _ (h.1 _ _ hb)
  · rw [upd_same, e]
theorem out1_skip {H1 H : Hp} {D : Addr} {out : Nat → List V} {i : Nat} (h : Out1 H1 D out i H) : Skip1 (out i) (out (i + 1)) H (Out1 H1 D out (i + 1)) := fun H3 s e => ⟨h.1.trans s, by rw [s _ _ h.2, e]⟩
section
variable {K : PySem.W.Frag} {a : Addr} {xs : List V} {g : TG} {tt : TT} {te : TE} {vs : List Nat} {σ : St} {H1 : Hp} {D : Addr} {Qd : Hp → Prop}
theorem lc_listO (hD : H1 D = none) (out : Nat → List V) (h0 : out 0 = []) (hz : ∀ i, i ≤ xs.length → (out i).length < sizeLine) (hl : SqL K H1 a xs)
    (hs : ∀ i x H (Nx : Hp → Prop), xs[i]? = some x → Same H1 H → Put1 D (out i) (out (i + 1)) H Nx → Skip1 (out i) (out (i + 1)) H Nx → g x (wipe σ vs) H fun σ2 H2 => wipe σ2 vs = wipe σ vs ∧ tt σ2 H2 fun b H3 =>
      if b = true then te σ2 H3 fun y H4 => ∃ acc, H4 D = some (.lst acc) ∧ acc.length < sizeLine ∧ Nx (upd H4 D (.lst (acc ++ [y]))) else Nx H3) (hd : ∀ H, Same H1 H → H D = some (.lst (out xs.length)) → Qd H) :
    ∃ W : Nat → Nat → Hp → Prop, (∃ m, W 0 m (upd H1 D (.lst []))) ∧ ∀ i m H, W i m H →
      ((Itl K a).stop i H ∧ Qd H) ∨ ((Itl K a).go i H ∧ ∃ Nx : Hp → Prop, (∀ H', Nx H' → ∃ m', m' < m ∧ W (i + 1) m' H') ∧ ∀ x H', (Itl K a).yld i H x H' → g x (wipe σ vs) H' fun σ2 H2 => wipe σ2 vs = wipe σ vs ∧ tt σ2 H2 fun b H3 =>
        if b = true then te σ2 H3 fun y H4 => ∃ acc, H4 D = some (.lst acc) ∧ acc.length < sizeLine ∧ Nx (upd H4 D (.lst (acc ++ [y]))) else Nx H3) :=
  lc_list (Out1 H1 D out) (out1_0 hD h0) (fun i H _ h => h.1.seq hl) (fun i x H hx h => hs i x H _ hx h.1 (out1_put hD (hz i (by have := (List.getElem?_eq_some_iff.mp hx).1; omega)) h) (out1_skip h)) (fun H h => hd H h.1 h.2)
theorem lc_tupO (hD : H1 D = none) (out : Nat → List V) (h0 : out 0 = []) (hz : ∀ i, i ≤ xs.length → (out i).length < sizeLine) (hl : ∀ H, Same H1 H → SqT K H a xs)
    (hs : ∀ i x H (Nx : Hp → Prop), xs[i]? = some x → Same H1 H → Put1 D (out i) (out (i + 1)) H Nx → Skip1 (out i) (out (i + 1)) H Nx → g x (wipe σ vs) H fun σ2 H2 => wipe σ2 vs = wipe σ vs ∧ tt σ2 H2 fun b H3 =>
      if b = true then te σ2 H3 fun y H4 => ∃ acc, H4 D = some (.lst acc) ∧ acc.length < sizeLine ∧ Nx (upd H4 D (.lst (acc ++ [y]))) else Nx H3) (hd : ∀ H, Same H1 H → H D = some (.lst (out xs.length)) → Qd H) :
    ∃ W : Nat → Nat → Hp → Prop, (∃ m, W 0 m (upd H1 D (.lst []))) ∧ ∀ i m H, W i m H →
      ((Itt K a).stop i H ∧ Qd H) ∨ ((Itt K a).go i H ∧ ∃ Nx : Hp → Prop, (∀ H', Nx H' → ∃ m', m' < m ∧ W (i + 1) m' H') ∧ ∀ x H', (Itt K a).yld i H x H' → g x (wipe σ vs) H' fun σ2 H2 => wipe σ2 vs = wipe σ vs ∧ tt σ2 H2 fun b H3 =>
        if b = true then te σ2 H3 fun y H4 => ∃ acc, H4 D = some (.lst acc) ∧ acc.length < sizeLine ∧ Nx (upd H4 D (.lst (acc ++ [y]))) else Nx H3) :=
  lc_tup (Out1 H1 D out) (out1_0 hD h0) (fun i H _ h => hl H h.1) (fun i x H hx h => hs i x H _ hx h.1 (out1_put hD (hz i (by have := (List.getElem?_eq_some_iff.mp hx).1; omega)) h) (out1_skip h)) (fun H h => hd H h.1 h.2)
theorem lc_itO {J : It} {n : Nat} {G : Hp → Prop} {Y : Nat → Hp → V → Hp → Prop} (w : Walk J n G Y) (hD : H1 D = none) (out : Nat → List V) (h0 : out 0 = []) (hz : ∀ i, i ≤ n → (out i).length < sizeLine) (hG : ∀ H, Same H1 H → G H)
    (hs : ∀ i x H H' (Nx : Hp → Prop), i < n → Same H1 H → H D = some (.lst (out i)) → Put1 D (out i) (out (i + 1)) H Nx → Skip1 (out i) (out (i + 1)) H Nx → Y i H x H' → g x (wipe σ vs) H' fun σ2 H2 => wipe σ2 vs = wipe σ vs ∧ tt σ2 H2 fun b H3 =>
      if b = true then te σ2 H3 fun y H4 => ∃ acc, H4 D = some (.lst acc) ∧ acc.length < sizeLine ∧ Nx (upd H4 D (.lst (acc ++ [y]))) else Nx H3) (hd : ∀ H, Same H1 H → H D = some (.lst (out n)) → Qd H) :
    ∃ W : Nat → Nat → Hp → Prop, (∃ m, W 0 m (upd H1 D (.lst []))) ∧ ∀ i m H, W i m H →
      (J.stop i H ∧ Qd H) ∨ (J.go i H ∧ ∃ Nx : Hp → Prop, (∀ H', Nx H' → ∃ m', m' < m ∧ W (i + 1) m' H') ∧ ∀ x H', J.yld i H x H' → g x (wipe σ vs) H' fun σ2 H2 => wipe σ2 vs = wipe σ vs ∧ tt σ2 H2 fun b H3 =>
        if b = true then te σ2 H3 fun y H4 => ∃ acc, H4 D = some (.lst acc) ∧ acc.length < sizeLine ∧ Nx (upd H4 D (.lst (acc ++ [y]))) else Nx H3) :=
  lc_it w (Out1 H1 D out) (out1_0 hD h0) (fun i H _ h => hG H h.1) (fun i x H H' hi h y => hs i x H H' _ hi h.1 h.2 (out1_put hD (hz i (by omega)) h) (out1_skip h) y) (fun H h => hd H h.1 h.2)
end
/-! the dict forms -/
def PutK1 (D : Addr) (acc acc' : List (Key × V)) (H : Hp) (Nx : Hp → Prop) : Prop := ∀ (k : Key) (z : V) (H5 : Hp), Same H H5 → acc' = putK acc k z → ∃ kvs k', kV k = kV k' ∧ H5 D = some (.dK kvs) ∧ kvs.length < sizeLine ∧ Nx (upd H5 D (.dK (putK kvs k' z)))
def OutK (H1 : Hp) (D : Addr) (out : Nat → List (Key × V)) (i : Nat) (H : Hp) : Prop := Same H1 H ∧ H D = some (.dK (out i))
theorem outK_0 {H1 : Hp} {D : Addr} {out : Nat → List (Key × V)} (hD : H1 D = none) (h0 : out 0 = []) : OutK H1 D out 0 (upd H1 D (.dK [])) :=
  ⟨fun b o hb => by rw [upd_ne (ne_of_none hb hD)]; exact hb, by rw [upd_same, h0]⟩
theorem outK_put {H1 H : Hp} {D : Addr} {out : Nat → List (Key × V)} {i : Nat} (hD : H1 D = none) (hl : (out i).length < sizeLine) (h : OutK H1 D out i H) : PutK1 D (out i) (out (i + 1)) H (OutK H1 D out (i + 1)) := fun k z H5 s e => by
  refine ⟨_, k, rfl, s _ _ h.2, hl, fun b o hb => ?_, ?_⟩
  · rw [upd_ne (ne_of_none hb hD)]
    exact s _ _ (h.1 _ _ hb)
  · rw [upd_same, e]
section
variable {K : PySem.W.Frag} {a : Addr} {xs : List V} {g : TG} {tt : TT} {tk tv : TE} {vs : List Nat} {σ : St} {H1 : Hp} {D : Addr} {Qd : Hp → Prop}
theorem dc_tupO (hD : H1 D = none) (out : Nat → List (Key × V)) (h0 : out 0 = []) (hz : ∀ i, i ≤ xs.length → (out i).length < sizeLine) (hl : ∀ H, Same H1 H → SqT K H a xs)
    (hs : ∀ i x H (Nx : Hp → Prop), xs[i]? = some x → Same H1 H → PutK1 D (out i) (out (i + 1)) H Nx → g x (wipe σ vs) H fun σ2 H2 => wipe σ2 vs = wipe σ vs ∧ tt σ2 H2 fun b H3 =>
      if b = true then tk σ2 H3 fun y H4 => tv σ2 H4 fun z H5 => ∃ kvs k, y = kV k ∧ H5 D = some (.dK kvs) ∧ kvs.length < sizeLine ∧ Nx (upd H5 D (.dK (putK kvs k z))) else Nx H3) (hd : ∀ H, Same H1 H → H D = some (.dK (out xs.length)) → Qd H) :
    ∃ W : Nat → Nat → Hp → Prop, (∃ m, W 0 m (upd H1 D (.dK []))) ∧ ∀ i m H, W i m H →
      ((Itt K a).stop i H ∧ Qd H) ∨ ((Itt K a).go i H ∧ ∃ Nx : Hp → Prop, (∀ H', Nx H' → ∃ m', m' < m ∧ W (i + 1) m' H') ∧ ∀ x H', (Itt K a).yld i H x H' → g x (wipe σ vs) H' fun σ2 H2 => wipe σ2 vs = wipe σ vs ∧ tt σ2 H2 fun b H3 =>
        if b = true then tk σ2 H3 fun y H4 => tv σ2 H4 fun z H5 => ∃ kvs k, y = kV k ∧ H5 D = some (.dK kvs) ∧ kvs.length < sizeLine ∧ Nx (upd H5 D (.dK (putK kvs k z))) else Nx H3) :=
  dc_tup (OutK H1 D out) (outK_0 hD h0) (fun i H _ h => hl H h.1) (fun i x H hx h => hs i x H _ hx h.1 (outK_put hD (hz i (by have := (List.getElem?_eq_some_iff.mp hx).1; omega)) h)) (fun H h => hd H h.1 h.2)
theorem dc_itO {J : It} {n : Nat} {G : Hp → Prop} {Y : Nat → Hp → V → Hp → Prop} (w : Walk J n G Y) (hD : H1 D = none) (out : Nat → List (Key × V)) (h0 : out 0 = []) (hz : ∀ i, i ≤ n → (out i).length < sizeLine) (hG : ∀ H, Same H1 H → G H)
    (hs : ∀ i x H H' (Nx : Hp → Prop), i < n → Same H1 H → H D = some (.dK (out i)) → PutK1 D (out i) (out (i + 1)) H Nx → Y i H x H' → g x (wipe σ vs) H' fun σ2 H2 => wipe σ2 vs = wipe σ vs ∧ tt σ2 H2 fun b H3 =>
      if b = true then tk σ2 H3 fun y H4 => tv σ2 H4 fun z H5 => ∃ kvs k, y = kV k ∧ H5 D = some (.dK kvs) ∧ kvs.length < sizeLine ∧ Nx (upd H5 D (.dK (putK kvs k z))) else Nx H3) (hd : ∀ H, Same H1 H → H D = some (.dK (out n)) → Qd H) :
    ∃ W : Nat → Nat → Hp → Prop, (∃ m, W 0 m (upd H1 D (.dK []))) ∧ ∀ i m H, W i m H →
      (J.stop i H ∧ Qd H) ∨ (J.go i H ∧ ∃ Nx : Hp → Prop, (∀ H', Nx H' → ∃ m', m' < m ∧ W (i + 1) m' H') ∧ ∀ x H', J.yld i H x H' → g x (wipe σ vs) H' fun σ2 H2 => wipe σ2 vs = wipe σ vs ∧ tt σ2 H2 fun b H3 =>
        if b = true then tk σ2 H3 fun y H4 => tv σ2 H4 fun z H5 => ∃ kvs k, y = kV k ∧ H5 D = some (.dK kvs) ∧ kvs.length < sizeLine ∧ Nx (upd H5 D (.dK (putK kvs k z))) else Nx H3) :=
  dc_it w (OutK H1 D out) (outK_0 hD h0) (fun i H _ h => hG H h.1) (fun i x H H' hi h y => hs i x H H' _ hi h.1 h.2 (outK_put hD (hz i (by omega)) h) y) (fun H h => hd H h.1 h.2)
end
end L2
namespace K0
open PySem PySem.Spec PyProof.Rows L2
/-- a dict from names to tuples of names -/
structure TupsR (H : Hp) (c : Addr) (ns : List Str) (g : Str → List Str) : Prop where
  ex : ∃ ta : Str → Addr, H c = some (.dK (kmap (fun y => .ref (ta y)) ns)) ∧ ∀ y ∈ ns, TxR H (ta y) (g y)
theorem TupsR.same {H H' : Hp} {c : Addr} {ns : List Str} {g : Str → List Str} (t : TupsR H c ns g) (s : Same H H') : TupsR H' c ns g := by
  obtain ⟨ta, q1, q2⟩ := t.ex
  exact ⟨ta, s _ _ q1, fun x hx => (q2 x hx).same s⟩
theorem TxR.upd {H : Hp} {t D : Addr} {l : List Str} {u : HO} (h : TxR H t l) (n : t ≠ D) : TxR (upd H D u) t l := by
  rcases h with e | ⟨o, e⟩
  · exact .inl (by rw [upd_ne n]; exact e)
  · exact .inr ⟨o, by rw [upd_ne n]; exact e⟩
theorem TxR.ne {H : Hp} {t D : Addr} {l : List Str} {kvs : List (Key × V)} (h : TxR H t l) (e : H D = some (.dK kvs)) : t ≠ D := by
  rintro rfl
  rcases h with e2 | ⟨o, e2⟩
  · rw [e] at e2
    cases e2
  · rw [e] at e2
    cases e2
theorem tupsR_more {H : Hp} {D t : Addr} {ns : List Str} {g : Str → List Str} {x : Str} (T : TupsR H D ns g) (hx : x ∉ ns) (ht : TxR H t (g x)) :
    ∃ kvs, H D = some (.dK kvs) ∧ kvs.length = ns.length ∧ TupsR (upd H D (.dK (putK kvs (Sum.inr x) (.ref t)))) D (ns ++ [x]) g := by
  obtain ⟨ta, h1, h2⟩ := T.ex
  refine ⟨_, h1, kmap_len _ _, fun y => if y = x then t else ta y, ?_, fun y hy => ?_⟩
  · rw [upd_same]
    have e1 : kmap (fun y => V.ref (ta y)) ns = kmap (fun y => V.ref (if y = x then t else ta y)) ns := kmap_congr fun y hy => by
      rw [if_neg (fun e => hx (by rw [← e]; exact hy))]
    have e2 : V.ref t = (fun y => V.ref (if y = x then t else ta y)) x := by
      show V.ref t = V.ref (if x = x then t else ta x)
      rw [if_pos rfl]
    rw [e1, e2, kmap_put hx]
  · show TxR _ (if y = x then t else ta y) (g y)
    by_cases e : y = x
    · rw [if_pos e, e]
      exact ht.upd (ht.ne h1)
    · rw [if_neg e]
      have hy' : y ∈ ns := (List.mem_append.mp hy).resolve_right fun z => e (List.mem_singleton.mp z)
      have := h2 y hy'
      exact this.upd (this.ne h1)
/-- a dict comprehension from names to tuples of names -/
theorem dc_itT {J : It} {ns : List Str} {gg : Str → List Str} {G : Hp → Prop} {Y : Nat → Hp → V → Hp → Prop} (w : Walk J ns.length G Y) {g : TG} {tt : TT} {tk tv : TE} {vs : List Nat} {σ : L2.St} {H1 : Hp} {D : Addr} {Qd : Hp → Prop} (hnd : ns.Nodup) (hD : H1 D = none) (hz : ns.length ≤ 900) (hG : ∀ H, Same H1 H → G H)
    (hs : ∀ i x y H H' (Nx : Hp → Prop), ns[i]? = some y → Same H1 H → (∀ t H5, Same H H5 → TxR H5 t (gg y) → ∃ kvs k', V.str y = kV k' ∧ H5 D = some (.dK kvs) ∧ kvs.length < sizeLine ∧ Nx (upd H5 D (.dK (putK kvs k' (.ref t))))) → Y i H x H' → g x (wipe σ vs) H' fun σ2 H2 => wipe σ2 vs = wipe σ vs ∧ tt σ2 H2 fun b H3 =>
      if b = true then tk σ2 H3 fun y H4 => tv σ2 H4 fun z H5 => ∃ kvs k, y = kV k ∧ H5 D = some (.dK kvs) ∧ kvs.length < sizeLine ∧ Nx (upd H5 D (.dK (putK kvs k z))) else Nx H3) (hd : ∀ H, Same H1 H → TupsR H D ns gg → Qd H) :
    ∃ W : Nat → Nat → Hp → Prop, (∃ m, W 0 m (upd H1 D (.dK []))) ∧ ∀ i m H, W i m H →
      (J.stop i H ∧ Qd H) ∨ (J.go i H ∧ ∃ Nx : Hp → Prop, (∀ H', Nx H' → ∃ m', m' < m ∧ W (i + 1) m' H') ∧ ∀ x H', J.yld i H x H' → g x (wipe σ vs) H' fun σ2 H2 => wipe σ2 vs = wipe σ vs ∧ tt σ2 H2 fun b H3 =>
        if b = true then tk σ2 H3 fun y H4 => tv σ2 H4 fun z H5 => ∃ kvs k, y = kV k ∧ H5 D = some (.dK kvs) ∧ kvs.length < sizeLine ∧ Nx (upd H5 D (.dK (putK kvs k z))) else Nx H3) := by
  refine dc_it w (fun i H => Same H1 H ∧ TupsR H D (ns.take i) gg) ⟨same_upd hD, ⟨fun _ => 0, by rw [upd_same, List.take_zero]; rfl, fun y hy => by rw [List.take_zero] at hy; cases hy⟩⟩ (fun i H _ h => hG H h.1) (fun i x H H' hi h y => ?_) (fun H h => hd H h.1 (by have := h.2; rw [List.take_length] at this; exact this))
  have hy : ns[i]? = some ns[i] := List.getElem?_eq_getElem hi
  refine hs i x ns[i] H H' _ hy h.1 (fun t H5 s ht => ?_) y
  have hn := nodup_take hnd hy
  obtain ⟨kvs, e1, e2, e3⟩ := tupsR_more (h.2.same s) hn ht
  refine ⟨kvs, Sum.inr ns[i], rfl, e1, ?_, fun b o hb => ?_, ?_⟩
  · rw [e2, List.length_take]
    exact small1000 (by omega)
  · rw [upd_ne (ne_of_none hb hD)]
    exact s _ _ (h.1 _ _ hb)
  · rw [List.take_add_one, hy]
    exact e3
theorem take_map1 {α β : Type} {l : List α} {f : α → β} {i : Nat} {x : α} (h : l[i]? = some x) : (l.take (i + 1)).map f = (l.take i).map f ++ [f x] := by
  rw [List.take_add_one, h, List.map_append]
  rfl
theorem filt_take {α : Type} {p : α → Bool} {l : List α} {i : Nat} {x : α} (h : l[i]? = some x) : (l.take (i + 1)).filter p = (l.take i).filter p ++ (if p x = true then [x] else []) := by
  rw [List.take_add_one, h, List.filter_append]
  congr 1
  by_cases hp : p x = true
  · rw [if_pos hp, Option.toList_some, List.filter_cons_of_pos hp]
    rfl
  · rw [if_neg hp, Option.toList_some, List.filter_cons_of_neg hp]
    rfl
theorem take_size {α β : Type} {l : List α} {f : α → β} (h : l.length ≤ 900) : ∀ i : Nat, i ≤ (l.map f).length → ((l.take i).map f).length < sizeLine := fun i hi => by
  rw [List.length_map, List.length_take]
  exact small1000 (by omega)
theorem filt_size {α β : Type} {l : List α} {p : α → Bool} {f : α → β} (h : l.length ≤ 900) : ∀ i : Nat, (((l.take i).filter p).map f).length < sizeLine := fun i => by
  have := List.length_filter_le p (l.take i)
  rw [List.length_take] at this
  rw [List.length_map]
  exact small1000 (by omega)
end K0
end
section
set_option Elab.async false
set_option linter.all false
set_option maxRecDepth 100000
set_option maxHeartbeats 1000000
namespace L2
open PySem PySem.Spec PyProof.Rows PySem.Calls
/-! ### enumerate(tuple) -/
def IteT (K : PySem.W.Frag) (a : Addr) : It :=
  ⟨fun i H => ∃ (xs : List V) (x : V), SqT K H a xs ∧ xs[i]? = some x, fun i H v H' => ∃ T x, v = .ref T ∧ H T = none ∧ H' = upd H T (.tup [.int (i : Nat), x]) ∧ ∀ xs, SqT K H a xs → xs[i]? = some x, fun i H => ∃ xs : List V, SqT K H a xs ∧ xs.length ≤ i⟩
theorem turn_enumT {P : Program} {w : World} {K : PySem.W.Frag} {elts : List Expr} {kk : Nat} {tpos : Pos} (a e it : Addr) :
    Turn P w K (.Tuple elts kk tpos) (IteT K a) [e, it] e (fun i h => (∃ old, IsEnum h e it ((i : Nat) : Int) old) ∧ h.IsTupleIter it a i ∧ e ≠ it) where
  mem := by simp
  obj := fun i h st b hb => by
    obtain ⟨⟨old, he⟩, ⟨o, ho, hc, hd⟩, _⟩ := st
    have e' : b = e ∨ b = it := by simpa using hb
    rcases e' with z | z
    · rw [z]; exact ⟨_, he, fun v q => nomatch q⟩
    · rw [z]; exact ⟨o, ho, fun v q => by rw [hd] at q; cases q⟩
  keep := fun i h h' st k => let ⟨⟨old, he⟩, hi, hne⟩ := st; ⟨⟨old, k e (by simp) _ he⟩, hi.at fun o q => k it (by simp) o q, hne⟩
  item := by
    intro X hP hw hK hc i pins s σ H E I hf st hg
    subst hP hw hK
    obtain ⟨⟨old, he⟩, hit, hne⟩ := st
    obtain ⟨xs, x, hq, hx⟩ := hg
    obtain ⟨its, rv, p, hz⟩ := I.tuple hq
    have p : s.heap.IsTuple a its.toArray := p
    obtain ⟨u, hu, ru⟩ := rv.get hx
    have hel : e < s.heap.objs.size := Heap.lt_size he
    have hil : it < s.heap.objs.size := by obtain ⟨_, q, _⟩ := hit; exact Heap.lt_size q
    obtain ⟨ot, hot, hct, hdt⟩ := id p
    have hea : e ≠ a := fun z => by
      have q := he
      unfold IsEnum at q
      rw [z, hot] at q
      rw [Option.some.inj q] at hct
      injection hct with c1
      exact absurd c1 (by decide)
    have hia : a ≠ it := fun z => by
      obtain ⟨o', q, q2, _⟩ := id hit
      rw [← z, hot] at q
      rw [← Option.some.inj q, hct] at q2
      injection q2 with c1
      exact absurd c1 (by decide)
    refine wpAny_pyNext_enum_itemD (Draws.tuple (A := X.A.in1) (show X.A.in1.handled = none from I.ok.hd hc) it a hia its.toArray) he ⟨hit, p⟩ (by
      have := (List.getElem?_eq_some_iff.mp hu).1
      simpa using this) hne (by simp [hne, hea]) fun x' h' tk hP ho hit' hT hsz' hk => ?_
    obtain rfl : u = x' := by
      have q : its.toArray[i]? = some x' := hP
      rw [List.getElem?_toArray, hu] at q
      exact Option.some.inj q
    refine ⟨_, rfl, wpAny_letOwnedTupleGo_enum (s := { s with heap := h', toks := tk + 1 }) ho fun h'' he' sb => ?_⟩
    have hT2 : h''.get? s.heap.objs.size = some { cls := .type "tuple", data := .seq #[.int i tk, u] } := (sb.2 _ (Nat.ne_of_gt hel)).trans hT
    have new : ObjOk X.prog X.w (upd H s.heap.objs.size (.tup [.int (i : Nat), x])) h'' s.heap.objs.size (.tup [.int (i : Nat), x]) :=
      ⟨by show 2 ≤ sizeLine; decide, [.int i tk, u], .cons ⟨_, rfl⟩ (.cons ru .nil), ⟨_, hT2, rfl, _, rfl⟩⟩
    have I1 : Inv X pins σ (upd H s.heap.objs.size (.tup [.int (i : Nat), x])) { s with heap := h'', toks := tk + 1 } :=
      I.turnedNew (ch := [e, it]) (fun b ob hb q => (sb.2 b (fun z => hb (by simp [z]))).trans (hk b ob (fun z => hb (by simp [z])) (fun z => hb (by simp [z])) q)) hf (Nat.le_refl _) new
    refine ⟨.ref s.heap.objs.size, _, I1, rfl, ⟨_, x, rfl, I.hok.fresh (Nat.le_refl _), rfl, fun ys hy => by rw [I.tuple_inj hy hq]; exact hx⟩, ⟨⟨u, ?_⟩, hit'.1.at fun o q => (sb.2 it (Ne.symm hne)).trans q, hne⟩, fun b hb => ?_⟩
    · have e1 : ((i + 1 : Nat) : Int) = (i : Int) + 1 := by omega
      rw [e1]; exact he'
    · have hb' : b < s.heap.objs.size := by
        have e' : b = e ∨ b = it := by simpa using hb
        rcases e' with z | z
        · rw [z]; exact hel
        · rw [z]; exact hil
      rw [upd_ne (Nat.ne_of_lt hb')]
      exact (hf b hb).1
  done := by
    intro X hP hw hK hc i pins s σ H E I hf st hg
    subst hP hw hK
    obtain ⟨⟨old, he⟩, hit, hne⟩ := st
    obtain ⟨xs, hq, hx⟩ := hg
    obtain ⟨its, rv, p, hz⟩ := I.tuple hq
    have p : s.heap.IsTuple a its.toArray := p
    obtain ⟨f0, f1, f2, f3, f4, f5⟩ := hf it (by simp)
    have hl := rv.length
    have hT : s.TypeIs (.ref e) "enumerate" := ⟨_, he, rfl⟩
    unfold pyNext
    refine wpAny_bind (wpAny_attempt (wpAny_callSpecial?_slot (name := Str.ofString "__next__") hT F.slot_enumerate_next
      (wpAny_call_entry F.slot_enumerate_next hT F.entry_enumerate_next ?_ (F.args_enumerate_next_1 _))))
    show wpAny _ _ (field (.ref e) 2 >>= _) _ _ _
    refine wpAny_bind (wpAny_field he rfl (x := .ref it) rfl ?_)
    refine wpAny_bind (wpAny_nextOf_tuple_end (I.ok.hd hc) hit p (by simp; omega) fun h' x he' hx' => ?_)
    obtain ⟨o', ho, hc'⟩ := hx'
    refine wpAny_bind (wpAny_isInstance (T := "StopIteration") (b := true) ⟨o', ho, hc'⟩ isSubtype_stop ?_)
    exact wpAny_pure ⟨rfl, I.turned (t' := s.toks) (fun b ob hb q => he' b ob hb q) f0 f1 f3 f4 f5⟩
  self := fun A i s Q E st h => let ⟨⟨_, he⟩, _⟩ := st; wpAny_pyIter_enum he h
def iEnumT (K : PySem.W.Frag) (ta : TA) : TI := fun σ H R => ta σ H fun vs H1 => ∃ a xs, vs = [.ref a] ∧ SqT K H1 a xs ∧ R (IteT K a) H1
theorem pi_enumT {X : Cx} {e : Expr} {ta : TA} {p pos tpos : Pos} {elts : List Expr} {kk : Nat} (hg : Gl X "enumerate") (hm : X.mg "enumerate" = none) (ha : PA X [e] ta) (hs : starEach [e] X.env = [(false, eval e X.env)] := by rfl) :
    PI X (.Tuple elts kk tpos) (.Call (.Name "enumerate" p) [e] [] pos) (iEnumT X.K ta) := by
  refine ⟨fun pins s σ H R I h => ?_⟩
  refine Call_ (ld_blt I hg hm boot_enumerate (PyProof.Rows.callWith_type1 (thn (ha.run pos pins s σ H _ I h) fun us s1 ⟨vs, H1, I1, r1, q1⟩ => ?_) hs rfl))
  obtain ⟨a, xs, ex, hq, q⟩ := q1
  subst ex
  cases r1 with
  | cons r rr =>
    cases rr
    cases r
    obtain ⟨its, rv, p', hz⟩ := I1.tuple hq
    refine k0_enum_call (begins_tuple a its.toArray) p' fun h' he hit hsz' hk => wpAny_pyIter_enum he ?_
    have I2 : Inv X pins σ H1 { s1 with heap := h' } := I1.kept (t' := s1.toks) hk
    refine ⟨s1.heap.objs.size + 1, [s1.heap.objs.size + 1, s1.heap.objs.size], _, _, H1, rfl, I2, turn_enumT a (s1.heap.objs.size + 1) s1.heap.objs.size, ⟨⟨.none, he⟩, ⟨_, hit, rfl, rfl⟩, Nat.succ_ne_self _⟩, fun b hb => ?_, q⟩
    have e' : b = s1.heap.objs.size + 1 ∨ b = s1.heap.objs.size := by simpa using hb
    have hle : s1.heap.objs.size ≤ b := by
      rcases e' with z | z
      · rw [z]; exact Nat.le_add_right _ _
      · rw [z]; exact Nat.le_refl _
    exact I1.fpOk hle (I1.hok.fresh hle)
theorem walk_enumT {K : PySem.W.Frag} {a : Addr} {xs : List V} : Walk (IteT K a) xs.length (fun H => SqT K H a xs) (YPair (fun i => some (.int (i : Nat))) (fun i => xs[i]?)) := by
  refine ⟨fun i _ hi q => ⟨xs, xs[i], q, by simp [hi]⟩, fun _ q => ⟨xs, q, Nat.le_refl _⟩, fun i H v H' _ q y => ?_⟩
  obtain ⟨T, x, h1, h2, h3, h4⟩ := y
  exact ⟨T, .int (i : Nat), x, h1, h2, h3, rfl, h4 xs q⟩
end L2
end
section
set_option Elab.async false
set_option linter.all false
set_option maxRecDepth 100000
set_option maxHeartbeats 4000000
namespace K0
open PySem PySem.Spec PyProof.Rows L2
/-! ### the rows of rights -/
structure BRows (H : Hp) (l : Addr) (BR : List (Addr × RRow)) : Prop where
  lst : H l = some (.lst (BR.map fun q => V.ref q.1))
  tup : ∀ q ∈ BR, H q.1 = some (.tup [.str q.2.1, .str q.2.2.1, .str q.2.2.2])
abbrev bOf (BR : List (Addr × RRow)) : List RRow := BR.map (·.2)
theorem BRows.same {H H' : Hp} {l : Addr} {BR : List (Addr × RRow)} (r : BRows H l BR) (s : Same H H') : BRows H' l BR := ⟨s _ _ r.lst, fun q hq => s _ _ (r.tup q hq)⟩
theorem brow_at {BR : List (Addr × RRow)} {i : Nat} {x : V} (e : (BR.map fun q => V.ref q.1)[i]? = some x) (hi : i < BR.length) : x = .ref BR[i].1 := by
  rw [List.getElem?_map, List.getElem?_eq_getElem hi] at e
  exact (Option.some.inj e).symm
theorem brow_nm {BR : List (Addr × RRow)} {i : Nat} (hi : i < BR.length) : (rnm (bOf BR))[i]? = some BR[i].2.1 := by
  rw [List.getElem?_map, List.getElem?_map, List.getElem?_eq_getElem hi]
  rfl
theorem riv_upto {Cr : Addr} {H H' : Hp} {p q : Addr} {AR : List (Addr × Row)} (u : Upto p H H') (hp : ∃ C dx fs, H p = some (.ins C dx fs)) (n : q ≠ p) (r : RivAt Cr H q AR) : RivAt Cr H' q AR := by
  obtain ⟨C, dx, fs, hp⟩ := hp
  have kp : ∀ {a : Addr} {o : HO}, H a = some o → (∀ z1 z2 z3, o ≠ .ins z1 z2 z3) → H' a = some o := fun e h => u _ _ e (ne_of e hp (h _ _ _))
  obtain ⟨dx, tw, tr, db, dc, da, du, o, h1, h2, h3, h4, h5, h6, h7, h8, h9⟩ := r.ex
  have tp : ∀ {c : Addr} {ns : List Str} {g : Str → List Str}, TupsAt H c ns g → TupsAt H' c ns g := fun t => by
    obtain ⟨ta, q1, q2⟩ := t.ex
    exact ⟨ta, kp q1 (fun _ _ _ z => by cases z), fun x hx => (q2 x hx).to fun u e _ _ _ h _ => kp e h⟩
  exact ⟨dx, tw, tr, db, dc, da, du, o, u _ _ h1 n, kp h2 (fun _ _ _ z => by cases z), kp h3 (fun _ _ _ z => by cases z), fun z hz => kp (h4 z hz) (fun _ _ _ z => by cases z), kp h5 (fun _ _ _ z => by cases z), tp h6, tp h7, tp h8, h9.to fun _ e => kp e (fun _ _ _ z => by cases z)⟩
theorem txr_upto {H H' : Hp} {p t : Addr} {l : List Str} (u : Upto p H H') (hp : ∃ C dx fs, H p = some (.ins C dx fs)) (h : TxR H t l) : TxR H' t l := by
  obtain ⟨C, dx, fs, hp⟩ := hp
  rcases h with e | ⟨o, e⟩
  · exact .inl (u _ _ e (ne_of e hp (fun z => by cases z)))
  · exact .inr ⟨o, u _ _ e (ne_of e hp (fun z => by cases z))⟩
theorem tupsR_upto {H H' : Hp} {p c : Addr} {ns : List Str} {g : Str → List Str} (u : Upto p H H') (hp : ∃ C dx fs, H p = some (.ins C dx fs)) (t : TupsR H c ns g) : TupsR H' c ns g := by
  obtain ⟨ta, q1, q2⟩ := t.ex
  obtain ⟨C, dx, fs, hp2⟩ := id hp
  exact ⟨ta, u _ _ q1 (ne_of q1 hp2 (fun z => by cases z)), fun x hx => txr_upto u hp (q2 x hx)⟩
abbrev scIsRowR_N : List Str := ["river", "entry"]
theorem scIsRowR : FnScope scIsRowR_N ["river", "entry"] (defScope sIsRowR) := ⟨rfl, rfl, rfl, by decide +kernel, rfl, by decide +kernel, by decide +kernel⟩
def spIsRowR (Cr : Addr) : Sp := fun vs H Q _ => ∃ (q t : Addr) (r : RRow) (AR : List (Addr × Row)), vs = [.ref q, .ref t] ∧ RivAt Cr H q AR ∧ H t = some (.tup [.str r.1, .str r.2.1, .str r.2.2]) ∧ NameOk r.1 ∧ r.2.1 ∈ namesOf AR ∧ (r.2.2 = "sea" ∨ r.2.2 ∈ namesOf AR) ∧ ∀ H', Same H H' → Q (.bl true) H'
abbrev scNeedRowsR_N : List Str := ["river", "rows", "names", "place", "entry", "_", "intake", "last"]
theorem scNeedRowsR : FnScope scNeedRowsR_N ["river", "rows"] (defScope sNeedRowsR) := ⟨rfl, rfl, rfl, by decide +kernel, rfl, by decide +kernel, by decide +kernel⟩
def spNeedRowsR (Cr : Addr) : Sp := fun vs H Q _ => ∃ (q l : Addr) (AR : List (Addr × Row)) (BR : List (Addr × RRow)), vs = [.ref q, .ref l] ∧ RivAt Cr H q AR ∧ GoodRows (rowsOf AR) ∧ BRows H l BR ∧ RtOk (rowsOf AR) (bOf BR) ∧ ∀ H', Same H H' → Q .non H'
section
variable {P : Program} {w : World} {K : PySem.W.Frag} {mg : Str → Option Value} {base : Heap} {tS tM tL : Tok}
theorem ok_isrowR {f fN Cr : Addr} {fd fdN : FuncData} (F : FnP K "_is_row" sIsRowR f fd) (F_is_name : FnP K "is_name" sIsName fN fdN) (gis_name : mg "is_name" = some (.ref fN)) (M : Sc K Cr) (T : Rv K mg Cr) (B : Bl mg) (C : Gc mg tS tM tL) : FnOk P w K mg base CX0 2 f fd ["river", "entry"] (spIsRowR Cr) := by
  obtain ⟨fC, fdC, FC, hs, hf⟩ := M.has
  have GC : FnOk P w K mg base CX0 1 fC fdC ["self", "x"] (spHas (GHasS Cr)) := ok_containsS FC T B
  have bC : Binds K fdC ["self", "x"] [] := FC.bindsN fun _ _ _ _ _ _ us hl => match us, hl with | [_, _], _ => rfl
  have Gis_name : FnOk P w K mg base CX0 1 fN fdN ["value"] spIsName := ok_isname F_is_name B C
  have bis_name : Binds K fdN ["value"] [] := F_is_name.bindsN fun _ _ _ _ _ _ us hl => match us, hl with | [_], _ => rfl
  refine F.ok scIsRowR (fun vs H Q E h => ?_) (fun cdv A outer s H vs Q E hr h => ?_)
  · obtain ⟨q, t, r, AR, rfl, _⟩ := h
    rfl
  · obtain ⟨q, t, r, AR, rfl, R, ht, h1, h2, h3, k⟩ := h
    have hris_name : Room 1 _ := hr
    have Fis_name := F_is_name
    refine ⟨_, PSs.nox (pss_cons
      (ps_if (PW.pt (pw_or (pt_not (pt_val (pe_callB call_isi (by rfl) B.isinstance (by decide +kernel) (pa_cons (pv 1) (pa_cons (pe_bltn (v := .ty "tuple") (by rfl) B.tuple (by decide +kernel) rfl) pa_nil))))) (pw_or1 (pt_cmpR op_ne (pe_callB (lenK (K := K)) (by rfl) B.len PySem.boot_len (pa_cons (pv 1) pa_nil)) pe_int (nomark _))))) (pss_one
      (ps_ret pe_bl)) pss_nil)
      (pss_one
      (ps_ret (pe_and (pe_call Gis_name hris_name (by rfl) gis_name Fis_name.kp bis_name .nil pass0 (pa_cons (pe_ix (ixTK (K := K)) (pv 1) pe_int (fun _ _ => rfl)) pa_nil)) (pe_and (pe_cmpR (k0_in_own (K := K) GC hr hs hf bC) (pe_ix (ixTK (K := K)) (pv 1) pe_int (fun _ _ => rfl)) (pv 0) (by rfl)) (pe_one (pe_or (pe_cmpR op_eq (pe_ix (ixTK (K := K)) (pv 1) pe_int (fun _ _ => rfl)) (pe_glob (v := .str "sea") (by rfl) C.SEA ⟨_, rfl⟩) (nomark _)) (pe_one (pe_cmpR (k0_in_own (K := K) GC hr hs hf bC) (pe_ix (ixTK (K := K)) (pv 1) pe_int (fun _ _ => rfl)) (pv 0) (by rfl)))))))))), ?_⟩
    have g : ∀ H', Same H H' → SqT K H' t [.str r.1, .str r.2.1, .str r.2.2] := fun H' s => .inl (.inl (s _ _ ht))
    refine ⟨_, rfl, .ref t, .ty "tuple", _, _, true, rfl, .ty "tuple", .base (.tup ht), kit_ty (by decide +kernel), _, rfl, ?_⟩
    refine iteF ?_
    refine ⟨_, rfl, t, _, rfl, .inr (g _ (.refl _)), rfl, _, rfl, ?_⟩
    refine iteNS rfl ?_
    refine ⟨_, rfl, t, _, _, _, rfl, rfl, g _ (.refl _), atI_nat (j := 0) rfl, r.1, rfl, h1, fun H1 s1 => ⟨_, rfl, iteT ?_⟩⟩
    have R1 := Same.riv s1 R
    obtain ⟨dx, tw, tr, db, dc, da, du, o, i1, _⟩ := id R1.ex
    refine ⟨_, rfl, t, _, _, _, rfl, rfl, g _ s1, atI_nat (j := 1) rfl, _, rfl, q, dx, _, true, rfl, i1, ⟨AR, r.2.1, R1, rfl, (decide_eq_true h2).symm⟩, _, rfl, iteT ?_⟩
    refine ⟨_, rfl, t, _, _, _, rfl, rfl, g _ s1, atI_nat (j := 2) rfl, rfl, ?_⟩
    by_cases e : r.2.2 = "sea"
    · rw [e, decide_eq_true rfl]
      exact ⟨_, rfl, iteT (k H1 s1)⟩
    · rw [decide_eq_false (fun z => e (V.str.inj z))]
      refine ⟨_, rfl, iteF ?_⟩
      refine ⟨_, rfl, t, _, _, _, rfl, rfl, g _ s1, atI_nat (j := 2) rfl, _, rfl, q, dx, _, true, rfl, i1, ⟨AR, r.2.2, R1, rfl, (decide_eq_true (h3.resolve_left e)).symm⟩, ?_⟩
      exact k H1 s1
theorem ok_needrowsR {f fN fR fI Cr : Addr} {fd fdN fdR fdI : FuncData} (F : FnP K "_need_rows" sNeedRowsR f fd) (F_is_name : FnP K "is_name" sIsName fN fdN) (gis_name : mg "is_name" = some (.ref fN))
    (F_is_rowR : FnP K "_is_row" sIsRowR fR fdR) (g_is_rowR : mg "is_row_rights" = some (.ref fR)) (Fis_down : FnM K "is_down" "River.is_down" sIsDown fI fdI) (Mis_down : Meth K Cr "is_down" fI) (D : NdS P w K mg base Cr) (M : Sc K Cr) (T : Rv K mg Cr) (B : Bl mg) (C : Gc mg tS tM tL) :
    FnOk P w K mg base CX0 4 f fd ["river", "rows"] (spNeedRowsR Cr) := by
  have G_is_rowR : FnOk P w K mg base CX0 2 fR fdR ["river", "entry"] (spIsRowR Cr) := ok_isrowR F_is_rowR F_is_name gis_name M T B C
  have b_is_rowR : Binds K fdR ["river", "entry"] [] := F_is_rowR.bindsN fun _ _ _ _ _ _ us hl => match us, hl with | [_, _], _ => rfl
  have Gis_down : FnOk P w K mg base CX0 3 fI fdI ["self", "high", "low"] (spDownS Cr) := ok_isdownS Fis_down D T
  have bis_down : Binds K fdI ["self", "high", "low"] [] := Fis_down.bindsN fun _ _ _ _ _ _ us hl => match us, hl with | [_, _, _], _ => rfl
  refine F.ok scNeedRowsR (fun vs H Q E h => ?_) (fun cdv A outer s H vs Q E hr h => ?_)
  · obtain ⟨q, l, AR, BR, rfl, _⟩ := h
    rfl
  · obtain ⟨q, l, AR, BR, rfl, R, hG, hR, hB, k⟩ := h
    have hu := hu_of hr
    have hr_is_rowR : Room 2 _ := hr.mono (by decide)
    have hris_down : Room 3 _ := hr
    refine ⟨_, PSs.nox (pss_cons
      (ps_if (PW.pt (pw_or (pt_not (pt_val (pe_callB call_isi (by rfl) B.isinstance (by decide +kernel) (pa_cons (pv 1) (pa_cons (pe_bltn (v := .ty "list") (by rfl) B.list (by decide +kernel) rfl) pa_nil))))) (pw_or1 (pt_cmpR op_gt (pe_callB (lenK (K := K)) (by rfl) B.len PySem.boot_len (pa_cons (pv 1) pa_nil)) (pe_glob (v := .int 40) (by rfl) C.MOST_ROWS ⟨_, rfl⟩) (nomark _))))) (pss_one
      ps_never) pss_nil)
      (pss_cons
      (ps_set (i := 2) scNeedRowsR.nd rfl (Or.inl rfl) pe_dnewK)
      (pss_cons
      (ps_for PassesOwn.never rfl (pi_enum (by rfl) B.enumerate (pa_cons (pv 1) pa_nil)) (tgK (K := K) (n := 2) (by rfl) (pgs_cons (pg_name (i := 3) scNeedRowsR.nd rfl (Or.inl rfl)) (pgs_cons (pg_name (i := 4) scNeedRowsR.nd rfl (Or.inl rfl)) pgs_nil))) (pss_cons
      (ps_if (PW.pt (pw_or (pt_not (pt_val (pe_call G_is_rowR hr_is_rowR (by rfl) g_is_rowR F_is_rowR.kp b_is_rowR .nil pass0 (pa_cons (pv 0) (pa_cons (pv 4) pa_nil))))) (pw_or1 (pt_cmp (pc_din hu (pe_ix (ixTK (K := K)) (pv 4) pe_int (fun _ _ => rfl)) (pv 2)))))) (pss_one
      ps_never) pss_nil)
      (pss_one
      (ps_dput hu (pv 2) (pe_ix (ixTK (K := K)) (pv 4) pe_int (fun _ _ => rfl)) pe_bl rfl))))
      (pss_one
      (ps_for PassesOwn.never rfl (pi_enum (by rfl) B.enumerate (pa_cons (pv 1) pa_nil)) (tgK (K := K) (n := 2) (by rfl) (pgs_cons (pg_name (i := 3) scNeedRowsR.nd rfl (Or.inl rfl)) (pgs_cons (tgK (K := K) (n := 3) (by rfl) (pgs_cons (pg_name (i := 5) scNeedRowsR.nd rfl (Or.inl rfl)) (pgs_cons (pg_name (i := 6) scNeedRowsR.nd rfl (Or.inl rfl)) (pgs_cons (pg_name (i := 7) scNeedRowsR.nd rfl (Or.inl rfl)) pgs_nil)))) pgs_nil))) (pss_one
      (ps_if (PW.pt (pw_and (pt_cmpR op_ne (pv 7) (pe_glob (v := .str "sea") (by rfl) C.SEA ⟨_, rfl⟩) (nomark _)) (pw_and1 (pt_not (pt_val (pe_meth (pv 0) T.cl Mis_down Gis_down hris_down bis_down .nil pass0 (pa_cons (pv 6) (pa_cons (pv 7) pa_nil)))))))) (pss_one
      ps_never) pss_nil))))))), ?_⟩
    refine ⟨_, rfl, .ref l, .ty "list", _, _, true, rfl, .ty "list", .base (.lst hR.lst), kit_ty (by decide +kernel), _, rfl, ?_⟩
    refine iteF ?_
    have hm := hB.most
    have hlb : (bOf BR).length = BR.length := List.length_map _
    have hnd := hB.nd
    refine ⟨_, rfl, l, _, rfl, .inl (.inl (.inl hR.lst)), _, _, rfl, rfl, _, rfl, ?_⟩
    refine iteDn (by rw [List.length_map]; omega) ?_
    intro D hD
    have s0 : Same H (upd H D (.dK [])) := same_upd hD
    refine ⟨_, rfl, l, _, rfl, s0.seq (.inl (.inl hR.lst)), ?_⟩
    refine for_it (walk_enum (xs := BR.map fun q => V.ref q.1)) (fun i σ H2 => ∃ (v3 v4 v5 v6 v7 : Option V), σ = [some (.ref q), some (.ref l), some (.ref D), v3, v4, v5, v6, v7] ∧ Same H H2 ∧ H2 D = some (.dK (kmap (fun _ => .bl true) ((rnm (bOf BR)).take i))))
      ⟨_, _, _, _, _, rfl, s0, by rw [upd_same, List.take_zero]; rfl⟩ (fun _ _ _ _ h => by obtain ⟨_, _, _, _, _, _, s, _⟩ := h; exact s.seq (.inl (.inl hR.lst))) ?_ ?_
    · rintro i x σ H2 H3 hi ⟨v3, v4, v5, v6, v7, rfl, s2, hD2⟩ ⟨Tt, x1, x2, rfl, hT, rfl, e1, e2⟩
      rw [List.length_map] at hi
      have hx1 : x1 = .int (i : Int) := (Option.some.inj e1).symm
      subst hx1
      have hx2 : x2 = .ref BR[i].1 := brow_at e2 hi
      subst hx2
      have hmem : BR[i] ∈ BR := List.getElem_mem hi
      have hrow : BR[i].2 ∈ bOf BR := List.mem_map.mpr ⟨_, hmem, rfl⟩
      have s3 : Same H (upd H2 Tt (.tup [.int (i : Int), .ref BR[i].1])) := s2.trans (same_upd hT)
      have hD3 : (upd H2 Tt (.tup [.int (i : Int), .ref BR[i].1])) D = some (.dK (kmap (fun _ => .bl true) ((rnm (bOf BR)).take i))) := by
        rw [upd_ne (ne_of_none hD2 hT)]
        exact hD2
      have hni := brow_nm hi
      have hnot : BR[i].2.1 ∉ (rnm (bOf BR)).take i := nodup_take hnd hni
      have hlast : BR[i].2.2.2 = "sea" ∨ BR[i].2.2.2 ∈ namesOf AR := (hB.last _ hrow).imp_right fun z => course_sub hG (hB.inn _ hrow) _ z
      refine ⟨Tt, _, rfl, .inl (.inl upd_same), rfl, _, _, rfl, _, _, rfl, rfl, ?_⟩
      refine ⟨_, rfl, _, rfl, q, BR[i].1, BR[i].2, AR, rfl, Same.riv s3 R, s3 _ _ (hR.tup _ hmem), hB.ok _ hrow, hB.inn _ hrow, hlast, fun H4 s4 => ⟨_, rfl, ?_⟩⟩
      refine iteF ?_
      have s5 : Same H H4 := s3.trans s4
      have hD4 := s4 _ _ hD3
      have ht4 : SqT K H4 BR[i].1 [.str BR[i].2.1, .str BR[i].2.2.1, .str BR[i].2.2.2] := .inl (.inl (s5 _ _ (hR.tup _ hmem)))
      refine ⟨_, rfl, BR[i].1, _, _, _, rfl, rfl, ht4, atI_nat (j := 0) rfl, _, rfl, D, _, rfl, DGet.k (k := Sum.inr BR[i].2.1) hD4, _, rfl, ?_⟩
      rw [kmap_not hnot]
      refine iteF ?_
      refine ⟨_, rfl, _, rfl, BR[i].1, _, _, _, rfl, rfl, ht4, atI_nat (j := 0) rfl, D, _, rfl, DPut.k (k := Sum.inr BR[i].2.1) hD4 ?_, ?_⟩
      · rw [kmap_len, List.length_take, List.length_map]
        exact small1000 (by omega)
      · refine ⟨_, _, _, _, _, rfl, fun b o hb => ?_, ?_⟩
        · rw [upd_ne (ne_of_none hb hD)]
          exact s5 b o hb
        · have := kmap_put (f := fun _ => .bl true) hnot
          rw [upd_same, this, List.take_add_one, hni]
          rfl
    · rintro σ H2 ⟨v3, v4, v5, v6, v7, rfl, s2, hD2⟩
      refine ⟨_, rfl, l, _, rfl, s2.seq (.inl (.inl hR.lst)), ?_⟩
      refine for_it (walk_enum (xs := BR.map fun q => V.ref q.1)) (fun i σ H3 => ∃ (v3 v4 v5 v6 v7 : Option V), σ = [some (.ref q), some (.ref l), some (.ref D), v3, v4, v5, v6, v7] ∧ Same H2 H3)
        ⟨_, _, _, _, _, rfl, .refl _⟩ (fun _ _ _ _ h => by obtain ⟨_, _, _, _, _, _, s⟩ := h; exact (s2.trans s).seq (.inl (.inl hR.lst))) ?_ ?_
      · rintro i x σ H3 H4 hi ⟨v3, v4, v5, v6, v7, rfl, s3⟩ ⟨Tt, x1, x2, rfl, hT, rfl, e1, e2⟩
        rw [List.length_map] at hi
        have hx2 : x2 = .ref BR[i].1 := brow_at e2 hi
        subst hx2
        have hmem : BR[i] ∈ BR := List.getElem_mem hi
        have hrow : BR[i].2 ∈ bOf BR := List.mem_map.mpr ⟨_, hmem, rfl⟩
        have s4 : Same H2 (upd H3 Tt (.tup [x1, .ref BR[i].1])) := s3.trans (same_upd hT)
        have ht4 : SqT K (upd H3 Tt (.tup [x1, .ref BR[i].1])) BR[i].1 [.str BR[i].2.1, .str BR[i].2.2.1, .str BR[i].2.2.2] := .inl (.inl (s4 _ _ (s2 _ _ (hR.tup _ hmem))))
        refine ⟨Tt, _, rfl, .inl (.inl upd_same), rfl, _, _, rfl, _, _, rfl, _, _, rfl, ht4, rfl, _, _, rfl, _, _, rfl, _, _, rfl, rfl, rfl, ?_⟩
        refine ⟨_, rfl, rfl, _, rfl, ?_⟩
        refine ite2 (fun h1 => ?_) (fun h1 => ?_)
        · have hmm : BR[i].2.2.2 ∈ course (rowsOf AR) BR[i].2.2.1 := by
            rcases hB.last _ hrow with e | e
            · rw [decide_eq_true (congrArg V.str e)] at h1
              cases h1
            · exact e
          have R4 : RivAt Cr (upd H3 Tt (.tup [x1, .ref BR[i].1])) q AR := Same.riv (s2.trans s4) R
          obtain ⟨dx, tw, tr, db, dc, da, du, o, i1, _⟩ := id R4.ex
          refine ⟨_, rfl, q, dx, _, rfl, i1, g7no _ _ _ _ _ _ _ (by decide +kernel) (by decide +kernel) (by decide +kernel) (by decide +kernel) (by decide +kernel) (by decide +kernel) (by decide +kernel), _, rfl, _, rfl, q, _, _, AR, rfl, R4, hB.inn _ hrow, course_sub hG (hB.inn _ hrow) _ hmm, ?_⟩
          rw [decide_eq_true hmm]
          refine ⟨_, rfl, iteF ?_⟩
          exact ⟨_, _, _, _, _, rfl, s4⟩
        · exact ⟨_, _, _, _, _, rfl, s4⟩
      · rintro σ H3 ⟨v3, v4, v5, v6, v7, rfl, s3⟩
        exact k H3 (s2.trans s3)
end
end K0
end
section
set_option Elab.async false
set_option linter.all false
set_option maxRecDepth 100000
set_option maxHeartbeats 4000000
namespace K0
open PySem PySem.Spec PyProof.Rows L2
/-! ### Rights -/
abbrev sGInit : Stmt := inClass sRights 0
abbrev sGContains : Stmt := inClass sRights 4
abbrev sThose : Stmt := inClass sRights 5
abbrev sGRows : Stmt := inClass sRights 6
abbrev sGLast : Stmt := inClass sRights 8
abbrev sGWay : Stmt := inClass sRights 10
abbrev sGPassing : Stmt := inClass sRights 12
structure Rg (K : PySem.W.Frag) (mg : Str → Option Value) (C : Addr) : Prop where
  cl : Cls K C
  river : NoAttr K C "river"
  names : NoAttr K C "names"
  _rows : NoAttr K C "_rows"
  _ways : NoAttr K C "_ways"
  _lasts : NoAttr K C "_lasts"
  _passing : NoAttr K C "_passing"
  mgC : mg "Rights" = some (.ref C)
def r1 (a : V) : List (Str × V) := putF "river" a []
def r2 (a b : V) : List (Str × V) := putF "names" b (r1 a)
def r3 (a b c : V) : List (Str × V) := putF "_rows" c (r2 a b)
def r4 (a b c d : V) : List (Str × V) := putF "_ways" d (r3 a b c)
def r5 (a b c d e : V) : List (Str × V) := putF "_lasts" e (r4 a b c d)
def r6 (a b c d e g : V) : List (Str × V) := putF "_passing" g (r5 a b c d e)
section
variable (a b c d e g : V)
theorem rl1 : (r1 a).length ≤ 1 := putF_len _ _ _
theorem rl2 : (r2 a b).length ≤ 2 := Nat.le_trans (putF_len _ _ _) (Nat.succ_le_succ (rl1 a))
theorem rl3 : (r3 a b c).length ≤ 3 := Nat.le_trans (putF_len _ _ _) (Nat.succ_le_succ (rl2 a b))
theorem rl4 : (r4 a b c d).length ≤ 4 := Nat.le_trans (putF_len _ _ _) (Nat.succ_le_succ (rl3 a b c))
theorem rl5 : (r5 a b c d e).length ≤ 5 := Nat.le_trans (putF_len _ _ _) (Nat.succ_le_succ (rl4 a b c d))
theorem rr2n : (r2 a b).lookup ("names" : Str) = some b := by rw [r2, lookup_putF, if_pos rfl]
theorem rr5n : (r5 a b c d e).lookup ("names" : Str) = some b := by
  rw [r5, lookup_putF, if_neg (by decide +kernel), r4, lookup_putF, if_neg (by decide +kernel), r3, lookup_putF, if_neg (by decide +kernel), rr2n]
theorem rr5w : (r5 a b c d e).lookup ("_ways" : Str) = some d := by
  rw [r5, lookup_putF, if_neg (by decide +kernel), r4, lookup_putF, if_pos rfl]
theorem rr6r : (r6 a b c d e g).lookup ("river" : Str) = some a := by
  rw [r6, lookup_putF, if_neg (by decide +kernel), r5, lookup_putF, if_neg (by decide +kernel), r4, lookup_putF, if_neg (by decide +kernel), r3, lookup_putF, if_neg (by decide +kernel), r2, lookup_putF, if_neg (by decide +kernel), r1, lookup_putF, if_pos rfl]
theorem rr6n : (r6 a b c d e g).lookup ("names" : Str) = some b := by rw [r6, lookup_putF, if_neg (by decide +kernel), rr5n]
theorem rr6o : (r6 a b c d e g).lookup ("_rows" : Str) = some c := by
  rw [r6, lookup_putF, if_neg (by decide +kernel), r5, lookup_putF, if_neg (by decide +kernel), r4, lookup_putF, if_neg (by decide +kernel), r3, lookup_putF, if_pos rfl]
theorem rr6w : (r6 a b c d e g).lookup ("_ways" : Str) = some d := by rw [r6, lookup_putF, if_neg (by decide +kernel), rr5w]
theorem rr6p : (r6 a b c d e g).lookup ("_passing" : Str) = some g := by rw [r6, lookup_putF, if_pos rfl]
theorem rr5no {m : Str} (h1 : (["river", "names", "_rows", "_ways", "_lasts", "_passing"] : List Str).contains m = false) : (r5 a b c d e).lookup m = none := by
  simp only [List.contains_cons, List.contains_nil, Bool.or_false, Bool.or_eq_false_iff, beq_eq_false_iff_ne] at h1
  rw [r5, lookup_putF, if_neg h1.2.2.2.2.1, r4, lookup_putF, if_neg h1.2.2.2.1, r3, lookup_putF, if_neg h1.2.2.1, r2, lookup_putF, if_neg h1.2.1, r1, lookup_putF, if_neg h1.1]
  rfl
theorem rr6no {m : Str} (h1 : (["river", "names", "_rows", "_ways", "_lasts", "_passing"] : List Str).contains m = false) : (r6 a b c d e g).lookup m = none := by
  have h2 := h1
  simp only [List.contains_cons, List.contains_nil, Bool.or_false, Bool.or_eq_false_iff, beq_eq_false_iff_ne] at h1
  rw [r6, lookup_putF, if_neg h1.2.2.2.2.2, rr5no _ _ _ _ _ h2]
end
/-- rights of these rows stand at p, over the river at q -/
structure RigAt (Cg Cr : Addr) (H : Hp) (p q : Addr) (AR : List (Addr × Row)) (BR : List (Addr × RRow)) : Prop where
  ex : ∃ (dx tn tr dw dl dp : Addr), H p = some (.ins Cg dx (r6 (.ref q) (.ref tn) (.ref tr) (.ref dw) (.ref dl) (.ref dp))) ∧ RivAt Cr H q AR ∧ TxR H tn (rnm (bOf BR)) ∧ H tr = some (.tup (BR.map fun q => V.ref q.1)) ∧
    (∀ z ∈ BR, H z.1 = some (.tup [.str z.2.1, .str z.2.2.1, .str z.2.2.2])) ∧ TupsR H dw (rnm (bOf BR)) (wayN (rowsOf AR) (bOf BR)) ∧ TupsR H dp (namesOf AR) (passR (rowsOf AR) (bOf BR))
theorem RigAt.same {Cg Cr : Addr} {H H' : Hp} {p q : Addr} {AR : List (Addr × Row)} {BR : List (Addr × RRow)} (r : RigAt Cg Cr H p q AR BR) (s : Same H H') : RigAt Cg Cr H' p q AR BR := by
  obtain ⟨dx, tn, tr, dw, dl, dp, h1, h2, h3, h4, h5, h6, h7⟩ := r.ex
  exact ⟨dx, tn, tr, dw, dl, dp, s _ _ h1, Same.riv s h2, h3.same s, s _ _ h4, fun z hz => s _ _ (h5 z hz), h6.same s, h7.same s⟩
abbrev scThose_N : List Str := ["self", "weir", "name"]
abbrev scThose_S : Stmt := sThose
theorem scThose : FnScope scThose_N ["self", "weir"] (defScope sThose) := ⟨rfl, rfl, rfl, by decide +kernel, rfl, by decide +kernel, by decide +kernel⟩
def spThose (Cg : Addr) : Sp := fun vs H Q _ => ∃ (p dx tn dw : Addr) (fs : List (Str × V)) (y : Str) (R : List Row) (B : List RRow), vs = [.ref p, .str y] ∧ H p = some (.ins Cg dx fs) ∧ fs.lookup ("names" : Str) = some (.ref tn) ∧ fs.lookup ("_ways" : Str) = some (.ref dw) ∧ TxR H tn (rnm B) ∧ TupsR H dw (rnm B) (wayN R B) ∧ B.length ≤ 40 ∧
  ∀ t H', Same H H' → TxR H' t (passR R B y) → Q (.ref t) H'
abbrev scGInit_N : List Str := ["self", "river", "rows", "row", "name", "intake", "last", "weir"]
abbrev scGInit_S : Stmt := sGInit
theorem scGInit : FnScope scGInit_N ["self", "river", "rows"] (defScope sGInit) := ⟨rfl, rfl, rfl, by decide +kernel, rfl, by decide +kernel, by decide +kernel⟩
def spGInit (Cg Cr : Addr) : Sp := fun vs H Q _ => ∃ (p q l dx : Addr) (AR : List (Addr × Row)) (BR : List (Addr × RRow)), vs = [.ref p, .ref q, .ref l] ∧ H p = some (.ins Cg dx []) ∧ RivAt Cr H q AR ∧ GoodRows (rowsOf AR) ∧ BRows H l BR ∧ RtOk (rowsOf AR) (bOf BR) ∧
  ∀ H', Upto p H H' → RigAt Cg Cr H' p q AR BR → Q .non H'
section
variable {P : Program} {w : World} {K : PySem.W.Frag} {mg : Str → Option Value} {base : Heap} {tS tM tL : Tok}
theorem ok_those {f Cg : Addr} {fd : FuncData} (F : FnM K "_those_over" "Rights._those_over" sThose f fd) (TG : Rg K mg Cg) (B : Bl mg) : FnOk P w K mg base CX0 1 f fd ["self", "weir"] (spThose Cg) := by
  refine F.ok scThose (fun vs H Q E h => ?_) (fun cdv A outer s H vs Q E hr h => ?_)
  · obtain ⟨p, dx, tn, dw, fs, y, R, B, rfl, _⟩ := h
    rfl
  · obtain ⟨p, dx, tn, dw, fs, y, R, BB, rfl, hp, l1, l2, hn, hw, hB, k⟩ := h
    have hu := hu_of hr
    refine ⟨_, PSs.nox (pss_one
      (ps_ret (pe_callTy (tupleK (K := K)) (by rfl) B.tuple (by decide +kernel) (pa_cons (pe_lc (own := [("name", 2)]) (g := gName 2) (by rfl) scThose.nd (pi_tup (fldK (K := K) (pv 0) rfl)) (blkOk_by (own := [("name", 2)]) (N := scThose_N) (sc := defScope scThose_S) (by decide +kernel)) (fun _ _ _ _ _ => (pg_name (i := 2) scThose.nd rfl (Or.inl rfl))) (fun _ _ _ _ _ => (pts_one (pt_cmpR (inK (K := K)) (pv 1) (pe_dget hu (fldK (K := K) (pv 0) rfl) (pv 2) (fun _ _ => rfl)) (by rfl)))) (fun _ _ _ _ _ => (pv 2))) pa_nil)))), ?_⟩
    obtain ⟨ta, w1, w2⟩ := hw.ex
    have hlb : (rnm BB).length = BB.length := List.length_map _
    refine ⟨_, rfl, p, Cg, dx, _, _, rfl, hp, TG.cl, TG.names, l1, tn, rfl, ⟨_, .inl hn⟩, fun D hD => ?_⟩
    refine lc_tupO (K := K) (a := tn) (xs := (rnm BB).map V.str) hD (fun i => (((rnm BB).take i).filter fun n => decide (y ∈ wayN R BB n)).map V.str) (by rw [List.take_zero]; rfl) (fun i _ => filt_size (by omega) i) (fun H2 s => .inl (hn.same s)) ?_ ?_
    · intro i x H2 Nx hx s put skip
      rw [List.getElem?_map] at hx
      obtain ⟨n, hn2, rfl⟩ := Option.map_eq_some_iff.mp hx
      have hnm : n ∈ rnm BB := List.mem_of_getElem? hn2
      refine ⟨rfl, ?_⟩
      refine ⟨_, rfl, _, rfl, p, Cg, dx, _, _, rfl, s _ _ hp, TG.cl, TG._ways, l2, _, rfl, dw, _, rfl, dget_rn (.inl (s _ _ w1)) hnm, ta n, _, rfl, .inr (.inl ((w2 n hnm).same s)), rfl, flat_strs _, _, rfl, ?_⟩
      rw [inV_str]
      have e := filt_take (p := fun n => decide (y ∈ wayN R BB n)) hn2
      refine ite2 (fun h => ?_) (fun h => ?_)
      · have h : decide (y ∈ wayN R BB n) = true := h
        rw [if_pos h] at e
        refine ⟨_, rfl, put _ _ (.refl _) ?_⟩
        rw [e, List.map_append]
        rfl
      · have h : ¬ decide (y ∈ wayN R BB n) = true := h
        rw [if_neg h, List.append_nil] at e
        exact skip _ (.refl _) (congrArg _ e)
    · intro H2 s2 hl
      rw [List.length_map, List.take_length] at hl
      refine ⟨D, _, rfl, .inl ⟨.inl (.inl hl), fun t nt => ?_⟩⟩
      refine k t _ (s2.trans (same_upd nt)) (.inl ?_)
      rw [upd_same]
      rfl
/-- the functions that the making of rights calls -/
structure Mg (P : Program) (w : World) (K : PySem.W.Frag) (mg : Str → Option Value) (base : Heap) (Cg Cr : Addr) : Prop where
  isName : ∃ f fd, FnP K "is_name" sIsName f fd ∧ mg "is_name" = some (.ref f)
  isRow : ∃ f fd, FnP K "_is_row" sIsRowR f fd ∧ mg "is_row_rights" = some (.ref f)
  needRows : ∃ f fd, FnP K "_need_rows" sNeedRowsR f fd ∧ mg "need_rows_rights" = some (.ref f)
  isDown : ∃ f fd, FnM K "is_down" "River.is_down" sIsDown f fd ∧ Meth K Cr "is_down" f
  way : ∃ f fd, FnM K "way" "River.way" sWay f fd ∧ Meth K Cr "way" f
  those : ∃ f fd, FnM K "_those_over" "Rights._those_over" sThose f fd ∧ Meth K Cg "_those_over" f
  D : NdS P w K mg base Cr
  M : Sc K Cr
theorem ok_ginit {f Cg Cr : Addr} {fd : FuncData} (F : FnM K "__init__" "Rights.__init__" sGInit f fd) (G : Mg P w K mg base Cg Cr) (TG : Rg K mg Cg) (T : Rv K mg Cr) (B : Bl mg) (C : Gc mg tS tM tL) : FnOk P w K mg base CX0 5 f fd ["self", "river", "rows"] (spGInit Cg Cr) := by
  obtain ⟨a1, d1, F1, m1⟩ := G.isName
  obtain ⟨a2, d2, F2, m2⟩ := G.isRow
  obtain ⟨a3, d3, F_need_rowsR, g_need_rowsR⟩ := G.needRows
  obtain ⟨a4, d4, F4, m4⟩ := G.isDown
  obtain ⟨a5, d5, Fway, Mway⟩ := G.way
  obtain ⟨a6, d6, F_those_over, M_those_over⟩ := G.those
  have G_need_rowsR : FnOk P w K mg base CX0 4 a3 d3 ["river", "rows"] (spNeedRowsR Cr) := ok_needrowsR F_need_rowsR F1 m1 F2 m2 F4 m4 G.D G.M T B C
  have b_need_rowsR : Binds K d3 ["river", "rows"] [] := F_need_rowsR.bindsN fun _ _ _ _ _ _ us hl => match us, hl with | [_, _], _ => rfl
  have Gway : FnOk P w K mg base CX0 3 a5 d5 ["self", "intake", "last"] (spWayS Cr) := ok_wayS Fway G.D T C
  have bway : Binds K d5 ["self", "intake", "last"] [] := Fway.bindsN fun _ _ _ _ _ _ us hl => match us, hl with | [_, _, _], _ => rfl
  have G_those_over : FnOk P w K mg base CX0 1 a6 d6 ["self", "weir"] (spThose Cg) := ok_those F_those_over TG B
  have b_those_over : Binds K d6 ["self", "weir"] [] := F_those_over.bindsN fun _ _ _ _ _ _ us hl => match us, hl with | [_, _], _ => rfl
  refine F.ok scGInit (fun vs H Q E h => ?_) (fun cdv A outer s H vs Q E hr h => ?_)
  · obtain ⟨p, q, l, dx, AR, BR, rfl, _⟩ := h
    rfl
  · obtain ⟨p, q, l, dx, AR, BR, rfl, hp, R, hG, hR, hB, k⟩ := h
    have hu := hu_of hr
    have hr_need_rowsR : Room 4 _ := hr
    have hrway : Room 3 _ := hr.mono (by decide)
    have hr_those_over : Room 1 _ := hr.mono (by decide)
    refine ⟨_, PSs.nox (pss_cons
      (ps_expr (pe_call G_need_rowsR hr_need_rowsR (by rfl) g_need_rowsR F_need_rowsR.kp b_need_rowsR .nil pass0 (pa_cons (pv 1) (pa_cons (pv 2) pa_nil))))
      (pss_cons
      (ps_fld (pv 0) (pv 1) rfl)
      (pss_cons
      (ps_fld (pv 0) (pe_callTy (tupleK (K := K)) (by rfl) B.tuple (by decide +kernel) (pa_cons (pe_lc (own := [("row", 3)]) (g := gName 3) (tt := tYes) (by rfl) scGInit.nd (pi_list (pv 2)) (blkOk_by (own := [("row", 3)]) (N := scGInit_N) (sc := defScope scGInit_S) (by decide +kernel)) (fun _ _ _ _ _ => (pg_name (i := 3) scGInit.nd rfl (Or.inl rfl))) (fun _ _ _ _ _ => pts_nil) (fun _ _ _ _ _ => (pe_ix (ixTK (K := K)) (pv 3) pe_int (fun _ _ => rfl)))) pa_nil)) rfl)
      (pss_cons
      (ps_fld (pv 0) (pe_callTy (tupleK (K := K)) (by rfl) B.tuple (by decide +kernel) (pa_cons (pv 2) pa_nil)) rfl)
      (pss_cons
      (ps_fld (pv 0) (pe_dc (own := [("name", 4), ("intake", 5), ("last", 6)]) (tt := tYes) (by rfl) scGInit.nd (pi_list (pv 2)) (blkOk_by (own := [("name", 4), ("intake", 5), ("last", 6)]) (N := scGInit_N) (sc := defScope scGInit_S) (by decide +kernel)) (fun _ _ _ _ _ => (tgK (K := K) (n := 3) (by rfl) (pgs_cons (pg_name (i := 4) scGInit.nd rfl (Or.inl rfl)) (pgs_cons (pg_name (i := 5) scGInit.nd rfl (Or.inl rfl)) (pgs_cons (pg_name (i := 6) scGInit.nd rfl (Or.inl rfl)) pgs_nil))))) (fun _ _ _ _ _ => pts_nil) (fun _ _ _ _ _ => (pv 4)) (fun _ _ _ _ _ => (pe_meth (pv 1) T.cl Mway Gway hrway bway .nil pass0 (pa_cons (pv 5) (pa_cons (pv 6) pa_nil))))) rfl)
      (pss_cons
      (ps_fld (pv 0) (pe_dc (own := [("row", 3)]) (g := gName 3) (tt := tYes) (by rfl) scGInit.nd (pi_list (pv 2)) (blkOk_by (own := [("row", 3)]) (N := scGInit_N) (sc := defScope scGInit_S) (by decide +kernel)) (fun _ _ _ _ _ => (pg_name (i := 3) scGInit.nd rfl (Or.inl rfl))) (fun _ _ _ _ _ => pts_nil) (fun _ _ _ _ _ => (pe_ix (ixTK (K := K)) (pv 3) pe_int (fun _ _ => rfl))) (fun _ _ _ _ _ => (pe_ix (ixTK (K := K)) (pv 3) pe_int (fun _ _ => rfl)))) rfl)
      (pss_one
      (ps_fld (pv 0) (pe_dc (own := [("weir", 7)]) (g := gName 7) (tt := tYes) (by rfl) scGInit.nd (pi_tup (fldK (K := K) (pv 1) rfl)) (blkOk_by (own := [("weir", 7)]) (N := scGInit_N) (sc := defScope scGInit_S) (by decide +kernel)) (fun _ _ _ _ _ => (pg_name (i := 7) scGInit.nd rfl (Or.inl rfl))) (fun _ _ _ _ _ => pts_nil) (fun _ _ _ _ _ => (pv 7)) (fun _ _ _ _ _ => (pe_meth (pv 0) TG.cl M_those_over G_those_over hr_those_over b_those_over .nil pass0 (pa_cons (pv 7) pa_nil)))) rfl)))))))), ?_⟩
    have hm := hB.most
    have hlb : (bOf BR).length = BR.length := List.length_map _
    have hln : (rnm (bOf BR)).length = BR.length := by rw [List.length_map, List.length_map]
    have hnd := hB.nd
    have hRm := hG.most
    have hAl : (rowsOf AR).length = AR.length := List.length_map _
    have hnl : (namesOf AR).length = AR.length := nmlen AR
    have notp : ∀ {Hk : Hp} {fs : List (Str × V)} {o : HO} {a : Addr}, Hk p = some (.ins Cg dx fs) → Hk a = some o → (∀ z1 z2 z3, o ≠ .ins z1 z2 z3) → a ≠ p := fun h1 h2 n => ne_of h2 h1 (n _ _ _)
    have hqp : ∀ {Hk : Hp} {fs : List (Str × V)}, Hk p = some (.ins Cg dx fs) → RivAt Cr Hk q AR → fs.lookup ("weirs" : Str) = none → q ≠ p := fun h1 r hno e => by
      obtain ⟨dx2, tw, tr, db, dc, da, du, o, j1, _⟩ := r.ex
      rw [e, h1] at j1
      injection j1 with j1
      injection j1 with j2 j3 j4
      rw [j4, g7w] at hno
      cases hno
    have hq0 : q ≠ p := hqp hp R rfl
    -- need_rows
    refine ⟨_, rfl, _, rfl, q, l, AR, BR, rfl, R, hG, hR, hB, fun H1 t1 => ?_⟩
    have p1 := t1 _ _ hp
    have R1 := Same.riv t1 R
    have b1 := hR.same t1
    -- self.river
    refine ⟨_, rfl, _, rfl, p, Cg, dx, _, rfl, p1, TG.cl, TG.river, by show 0 < 1000; decide, ?_⟩
    have step : ∀ {Hk : Hp} {fs fs2 : List (Str × V)}, Hk p = some (.ins Cg dx fs) → Upto p H Hk → RivAt Cr Hk q AR → BRows Hk l BR →
        Upto p H (upd Hk p (.ins Cg dx fs2)) ∧ RivAt Cr (upd Hk p (.ins Cg dx fs2)) q AR ∧ BRows (upd Hk p (.ins Cg dx fs2)) l BR ∧ Upto p Hk (upd Hk p (.ins Cg dx fs2)) := fun {Hk fs fs2} h1 u r b =>
      ⟨u.trans Upto.at_, riv_upto Upto.at_ ⟨_, _, _, h1⟩ hq0 r, ⟨by rw [upd_ne (notp h1 b.lst (fun _ _ _ z => by cases z))]; exact b.lst, fun z hz => by rw [upd_ne (notp h1 (b.tup z hz) (fun _ _ _ z => by cases z))]; exact b.tup z hz⟩, Upto.at_⟩
    obtain ⟨u2, R2, b2, v2⟩ := step (fs2 := r1 (.ref q)) p1 (Upto.of t1) R1 b1
    have p2 : (upd H1 p (.ins Cg dx (r1 (.ref q)))) p = some (.ins Cg dx (r1 (.ref q))) := upd_same
    show tSeq _ _ _ _ (upd H1 p (.ins Cg dx (r1 (.ref q))))
    generalize upd H1 p (.ins Cg dx (r1 (.ref q))) = H2 at u2 R2 b2 v2 p2
    -- self.names
    refine ⟨_, rfl, l, rfl, ⟨_, .inl (.inl b2.lst)⟩, fun D hD => ?_⟩
    refine lc_listO (K := K) (a := l) (xs := BR.map fun q => V.ref q.1) hD (fun i => ((rnm (bOf BR)).take i).map V.str) (by rw [List.take_zero]; rfl) (fun i hi => take_size (by omega) i (by rw [List.length_map] at hi ⊢; omega)) (.inl (.inl b2.lst)) ?_ ?_
    · intro i x H3 Nx hx s put skip
      have hi : i < BR.length := by
        have := (List.getElem?_eq_some_iff.mp hx).1
        rw [List.length_map] at this
        exact this
      have ex := brow_at hx hi
      subst ex
      refine ⟨rfl, ?_⟩
      unfold tYes
      refine iteT ?_
      refine ⟨_, rfl, BR[i].1, _, _, _, rfl, rfl, .inl (.inl (s _ _ (b2.tup _ (List.getElem_mem hi)))), atI_nat (j := 0) rfl, put _ _ (.refl _) (take_map1 (brow_nm hi))⟩
    intro H3 s3 hl
    rw [List.length_map, ← hln, List.take_length] at hl
    refine ⟨D, _, rfl, .inl ⟨.inl (.inl hl), fun tn ntn => ?_⟩⟩
    have s4 : Same H2 (upd H3 tn (.tup ((rnm (bOf BR)).map V.str))) := s3.trans (same_upd ntn)
    have n4 : TxR (upd H3 tn (.tup ((rnm (bOf BR)).map V.str))) tn (rnm (bOf BR)) := .inl upd_same
    generalize upd H3 tn (.tup ((rnm (bOf BR)).map V.str)) = H4 at s4 n4
    have p4 := s4 _ _ p2
    have R4 := Same.riv s4 R2
    have b4 := b2.same s4
    have u4 : Upto p H H4 := u2.trans (Upto.of s4)
    refine ⟨_, rfl, p, Cg, dx, _, rfl, p4, TG.cl, TG.names, by have := rl1 (.ref q); omega, ?_⟩
    obtain ⟨u5, R5, b5, v5⟩ := step (fs2 := r2 (.ref q) (.ref tn)) p4 u4 R4 b4
    have p5 : (upd H4 p (.ins Cg dx (r2 (.ref q) (.ref tn)))) p = some (.ins Cg dx (r2 (.ref q) (.ref tn))) := upd_same
    have n5 := txr_upto v5 ⟨_, _, _, p4⟩ n4
    show tSeq _ _ _ _ (upd H4 p (.ins Cg dx (r2 (.ref q) (.ref tn))))
    generalize upd H4 p (.ins Cg dx (r2 (.ref q) (.ref tn))) = H5 at u5 R5 b5 v5 p5 n5
    -- self._rows
    refine ⟨_, rfl, l, _, rfl, .inl ⟨.inl (.inl b5.lst), fun tr ntr => ?_⟩⟩
    have s6 : Same H5 (upd H5 tr (.tup (BR.map fun q => V.ref q.1))) := same_upd ntr
    have o6 : (upd H5 tr (.tup (BR.map fun q => V.ref q.1))) tr = some (.tup (BR.map fun q => V.ref q.1)) := upd_same
    generalize upd H5 tr (.tup (BR.map fun q => V.ref q.1)) = H6 at s6 o6
    have p6 := s6 _ _ p5
    have R6 := Same.riv s6 R5
    have b6 := b5.same s6
    have n6 := n5.same s6
    have u6 : Upto p H H6 := u5.trans (Upto.of s6)
    refine ⟨_, rfl, p, Cg, dx, _, rfl, p6, TG.cl, TG._rows, by have := rl2 (.ref q) (.ref tn); omega, ?_⟩
    obtain ⟨u7, R7, b7, v7⟩ := step (fs2 := r3 (.ref q) (.ref tn) (.ref tr)) p6 u6 R6 b6
    have p7 : (upd H6 p (.ins Cg dx (r3 (.ref q) (.ref tn) (.ref tr)))) p = some (.ins Cg dx (r3 (.ref q) (.ref tn) (.ref tr))) := upd_same
    have n7 := txr_upto v7 ⟨_, _, _, p6⟩ n6
    have o7 : (upd H6 p (.ins Cg dx (r3 (.ref q) (.ref tn) (.ref tr)))) tr = some (.tup (BR.map fun q => V.ref q.1)) := v7 _ _ o6 (notp p6 o6 (fun _ _ _ z => by cases z))
    show tSeq _ _ _ _ (upd H6 p (.ins Cg dx (r3 (.ref q) (.ref tn) (.ref tr))))
    generalize upd H6 p (.ins Cg dx (r3 (.ref q) (.ref tn) (.ref tr))) = H7 at u7 R7 b7 v7 p7 n7 o7
    -- self._ways
    refine ⟨_, rfl, l, rfl, ⟨_, .inl (.inl b7.lst)⟩, fun dw ndw => ?_⟩
    have hle : (BR.map fun q => V.ref q.1).length = (rnm (bOf BR)).length := by rw [hln, List.length_map]
    have wl := walk_list (K := K) (a := l) (xs := BR.map fun q => V.ref q.1)
    rw [hle] at wl
    refine dc_itT (gg := wayN (rowsOf AR) (bOf BR)) wl hnd ndw (by omega) (fun H8 s => .inl (.inl (s _ _ b7.lst))) ?_ ?_
    · rintro i x y H8 H8' Nx hy s put ⟨rfl, hx⟩
      have hi : i < BR.length := by
        have := (List.getElem?_eq_some_iff.mp hx).1
        rw [List.length_map] at this
        exact this
      have ex := brow_at hx hi
      subst ex
      rw [brow_nm hi] at hy
      obtain rfl : BR[i].2.1 = y := Option.some.inj hy
      have hmem : BR[i] ∈ BR := List.getElem_mem hi
      have hrow : BR[i].2 ∈ bOf BR := List.mem_map.mpr ⟨_, hmem, rfl⟩
      refine ⟨BR[i].1, _, rfl, .inl (.inl (s _ _ (b7.tup _ hmem))), rfl, _, _, rfl, _, _, rfl, _, _, rfl, rfl, rfl, ?_⟩
      unfold tYes
      refine iteT ?_
      have R8 := Same.riv s R7
      obtain ⟨dx2, tw, tr2, db, dc, da, du, o, i1, _⟩ := id R8.ex
      refine ⟨_, rfl, _, rfl, q, dx2, _, rfl, i1, g7no _ _ _ _ _ _ _ (by decide +kernel) (by decide +kernel) (by decide +kernel) (by decide +kernel) (by decide +kernel) (by decide +kernel) (by decide +kernel), _, rfl, _, rfl, q, BR[i].2, AR, rfl, R8, hG, hB.inn _ hrow, hB.last _ hrow, fun t H9 s9 ht => ?_⟩
      rw [← way_of hnd hrow] at ht
      exact put t H9 s9 ht
    intro H8 s8 hw8
    have p8 := s8 _ _ p7
    have R8 := Same.riv s8 R7
    have b8 := b7.same s8
    have n8 := n7.same s8
    have o8 := s8 _ _ o7
    have u8 : Upto p H H8 := u7.trans (Upto.of s8)
    refine ⟨_, rfl, p, Cg, dx, _, rfl, p8, TG.cl, TG._ways, by have := rl3 (.ref q) (.ref tn) (.ref tr); omega, ?_⟩
    obtain ⟨u9, R9, b9, v9⟩ := step (fs2 := r4 (.ref q) (.ref tn) (.ref tr) (.ref dw)) p8 u8 R8 b8
    have p9 : (upd H8 p (.ins Cg dx (r4 (.ref q) (.ref tn) (.ref tr) (.ref dw)))) p = some (.ins Cg dx (r4 (.ref q) (.ref tn) (.ref tr) (.ref dw))) := upd_same
    have n9 := txr_upto v9 ⟨_, _, _, p8⟩ n8
    have o9 : (upd H8 p (.ins Cg dx (r4 (.ref q) (.ref tn) (.ref tr) (.ref dw)))) tr = some (.tup (BR.map fun q => V.ref q.1)) := v9 _ _ o8 (notp p8 o8 (fun _ _ _ z => by cases z))
    have w9 := tupsR_upto v9 ⟨_, _, _, p8⟩ hw8
    show tSeq _ _ _ _ (upd H8 p (.ins Cg dx (r4 (.ref q) (.ref tn) (.ref tr) (.ref dw))))
    generalize upd H8 p (.ins Cg dx (r4 (.ref q) (.ref tn) (.ref tr) (.ref dw))) = H9 at u9 R9 b9 v9 p9 n9 o9 w9
    -- self._lasts
    refine ⟨_, rfl, l, rfl, ⟨_, .inl (.inl b9.lst)⟩, fun dl ndl => ?_⟩
    refine dc_itO (walk_list (K := K) (a := l) (xs := BR.map fun q => V.ref q.1)) ndl (fun i => kmap (fun n => .str (rowB (bOf BR) n).2.2) ((rnm (bOf BR)).take i)) (by rw [List.take_zero]; rfl) (fun i hi => by rw [kmap_len, List.length_take]; exact small1000 (by omega)) (fun H10 s => .inl (.inl (s _ _ b9.lst))) ?_ ?_
    · rintro i x H10 H10' Nx hi s hcur put ⟨rfl, hx⟩
      have hi : i < BR.length := by rw [List.length_map] at hi; exact hi
      have ex := brow_at hx hi
      subst ex
      have hmem : BR[i] ∈ BR := List.getElem_mem hi
      have hrow : BR[i].2 ∈ bOf BR := List.mem_map.mpr ⟨_, hmem, rfl⟩
      refine ⟨rfl, ?_⟩
      unfold tYes
      refine iteT ?_
      refine ⟨_, rfl, BR[i].1, _, _, _, rfl, rfl, .inl (.inl (s _ _ (b9.tup _ hmem))), atI_nat (j := 0) rfl, _, rfl, BR[i].1, _, _, _, rfl, rfl, .inl (.inl (s _ _ (b9.tup _ hmem))), atI_nat (j := 2) rfl, ?_⟩
      refine put (Sum.inr BR[i].2.1) _ _ (.refl _) ?_
      have e := kmap_put (f := fun n => V.str (rowB (bOf BR) n).2.2) (nodup_take hnd (brow_nm hi))
      rw [row_of hnd hrow] at e
      rw [List.take_add_one, brow_nm hi]
      exact e.symm
    intro H10 s10 _
    have p10 := s10 _ _ p9
    have R10 := Same.riv s10 R9
    have b10 := b9.same s10
    have n10 := n9.same s10
    have o10 := s10 _ _ o9
    have w10 := w9.same s10
    have u10 : Upto p H H10 := u9.trans (Upto.of s10)
    refine ⟨_, rfl, p, Cg, dx, _, rfl, p10, TG.cl, TG._lasts, by have := rl4 (.ref q) (.ref tn) (.ref tr) (.ref dw); omega, ?_⟩
    obtain ⟨u11, R11, b11, v11⟩ := step (fs2 := r5 (.ref q) (.ref tn) (.ref tr) (.ref dw) (.ref dl)) p10 u10 R10 b10
    have p11 : (upd H10 p (.ins Cg dx (r5 (.ref q) (.ref tn) (.ref tr) (.ref dw) (.ref dl)))) p = some (.ins Cg dx (r5 (.ref q) (.ref tn) (.ref tr) (.ref dw) (.ref dl))) := upd_same
    have n11 := txr_upto v11 ⟨_, _, _, p10⟩ n10
    have o11 : (upd H10 p (.ins Cg dx (r5 (.ref q) (.ref tn) (.ref tr) (.ref dw) (.ref dl)))) tr = some (.tup (BR.map fun q => V.ref q.1)) := v11 _ _ o10 (notp p10 o10 (fun _ _ _ z => by cases z))
    have w11 := tupsR_upto v11 ⟨_, _, _, p10⟩ w10
    show Ends.nx _ _ (upd H10 p (.ins Cg dx (r5 (.ref q) (.ref tn) (.ref tr) (.ref dw) (.ref dl))))
    generalize upd H10 p (.ins Cg dx (r5 (.ref q) (.ref tn) (.ref tr) (.ref dw) (.ref dl))) = H11 at u11 R11 b11 v11 p11 n11 o11 w11
    -- self._passing
    obtain ⟨dx3, tw, tr3, db, dc, da, du, o, i1, i2, _⟩ := id R11.ex
    refine ⟨_, rfl, q, Cr, dx3, _, _, rfl, i1, T.cl, T.weirs, g7w _ _ _ _ _ _ _, tw, rfl, ⟨_, .inl (.inl i2)⟩, fun dp ndp => ?_⟩
    have hle2 : ((namesOf AR).map V.str).length = (namesOf AR).length := List.length_map _
    have wt := walk_tup (K := K) (a := tw) (xs := (namesOf AR).map V.str)
    rw [hle2] at wt
    refine dc_itT (gg := passR (rowsOf AR) (bOf BR)) wt hG.nm.nd ndp (by omega) (fun H12 s => .inl (.inl (s _ _ i2))) ?_ ?_
    · rintro i x y H12 H12' Nx hy s put ⟨rfl, hx⟩
      rw [List.getElem?_map, hy] at hx
      obtain rfl : V.str y = x := Option.some.inj hx
      refine ⟨rfl, ?_⟩
      unfold tYes
      refine iteT ?_
      refine ⟨_, rfl, _, rfl, p, dx, _, rfl, s _ _ p11, rr5no _ _ _ _ _ (by decide +kernel), _, rfl, p, dx, tn, dw, _, y, rowsOf AR, bOf BR, rfl, s _ _ p11, rr5n _ _ _ _ _, rr5w _ _ _ _ _, n11.same s, w11.same s, hm, fun t H13 s13 ht => put t H13 s13 ht⟩
    intro H12 s12 hp12
    have p12 := s12 _ _ p11
    refine ⟨_, rfl, p, Cg, dx, _, rfl, p12, TG.cl, TG._passing, by have := rl5 (.ref q) (.ref tn) (.ref tr) (.ref dw) (.ref dl); omega, ?_⟩
    have v13 : Upto p H12 (upd H12 p (.ins Cg dx (r6 (.ref q) (.ref tn) (.ref tr) (.ref dw) (.ref dl) (.ref dp)))) := Upto.at_
    have hpx : ∃ C dx fs, H12 p = some (.ins C dx fs) := ⟨_, _, _, p12⟩
    have b12 := b11.same s12
    refine k _ ((u11.trans (Upto.of s12)).trans v13) ⟨dx, tn, tr, dw, dl, dp, upd_same, riv_upto v13 hpx hq0 (Same.riv s12 R11), txr_upto v13 hpx (n11.same s12), v13 _ _ (s12 _ _ o11) (notp p12 (s12 _ _ o11) (fun _ _ _ z => by cases z)), fun z hz => v13 _ _ (b12.tup z hz) (notp p12 (b12.tup z hz) (fun _ _ _ z => by cases z)), tupsR_upto v13 hpx (w11.same s12), tupsR_upto v13 hpx hp12⟩
end
end K0
end
section
set_option Elab.async false
set_option linter.all false
set_option maxRecDepth 100000
set_option maxHeartbeats 4000000
namespace L2
open PySem PySem.Spec PyProof.Rows
def tTru (K : PySem.W.Frag) (ta : TE) : TT := fun σ H Q => ta σ H fun x H' => ∃ k, TruV K x H' k ∧ Q k H'
theorem pt_tru {X : Cx} {K : PySem.W.Frag} {a : Expr} {ta : TE} (ha : PE X a ta) (he : ∀ whole, isTrue a X.env whole = (do let v ← whole; standAt a.pos; holding [v] (truthy v)) := by intro _; rfl) (e : X.K = K := by rfl) : PT X a (tTru K ta) := e ▸ pt_truth ha he
end L2
namespace K0
open PySem PySem.Spec PyProof.Rows L2
/-! ### what rights are asked, for rights that there are -/
structure Gm (K : PySem.W.Frag) (Cg : Addr) : Prop where
  has : ∃ f fd, FnM K "__contains__" "Rights.__contains__" sGContains f fd ∧ PySem.W.findIn K (.ref Cg) "__contains__" = some (some (.ref f)) ∧ PySem.W.isFn K (.ref f) = true
abbrev GHasG (Cg Cr : Addr) : Hp → Addr → V → Bool → Prop := fun H p x b => ∃ q AR BR n, RigAt Cg Cr H p q AR BR ∧ x = .str n ∧ b = decide (n ∈ rnm (bOf BR))
theorem scGContains : FnScope ["self", "x"] ["self", "x"] (defScope sGContains) := ⟨rfl, rfl, rfl, by decide +kernel, rfl, by decide +kernel, by decide +kernel⟩
theorem scNeedR : FnScope ["rights", "name"] ["rights", "name"] (defScope sNeedR) := ⟨rfl, rfl, rfl, by decide +kernel, rfl, by decide +kernel, by decide +kernel⟩
theorem scGLast : FnScope ["self", "name"] ["self", "name"] (defScope sGLast) := ⟨rfl, rfl, rfl, by decide +kernel, rfl, by decide +kernel, by decide +kernel⟩
theorem scGWay : FnScope ["self", "name"] ["self", "name"] (defScope sGWay) := ⟨rfl, rfl, rfl, by decide +kernel, rfl, by decide +kernel, by decide +kernel⟩
theorem scGPassing : FnScope ["self", "weir"] ["self", "weir"] (defScope sGPassing) := ⟨rfl, rfl, rfl, by decide +kernel, rfl, by decide +kernel, by decide +kernel⟩
theorem scGRows : FnScope ["self"] ["self"] (defScope sGRows) := ⟨rfl, rfl, rfl, by decide +kernel, rfl, by decide +kernel, by decide +kernel⟩
abbrev scMeet_N : List Str := ["rights", "one", "other", "way", "other_way", "weir"]
abbrev scMeet_S : Stmt := sMeet
theorem scMeet : FnScope scMeet_N ["rights", "one", "other"] (defScope sMeet) := ⟨rfl, rfl, rfl, by decide +kernel, rfl, by decide +kernel, by decide +kernel⟩
/-- what stands at p, and that all is in order -/
structure RigOk (Cg Cr : Addr) (H : Hp) (p q : Addr) (AR : List (Addr × Row)) (BR : List (Addr × RRow)) : Prop where
  at_ : RigAt Cg Cr H p q AR BR
  g : GoodRows (rowsOf AR)
  b : RtOk (rowsOf AR) (bOf BR)
theorem RigOk.same {Cg Cr : Addr} {H H' : Hp} {p q : Addr} {AR : List (Addr × Row)} {BR : List (Addr × RRow)} (r : RigOk Cg Cr H p q AR BR) (s : Same H H') : RigOk Cg Cr H' p q AR BR := ⟨r.at_.same s, r.g, r.b⟩
abbrev wyN (AR : List (Addr × Row)) (BR : List (Addr × RRow)) (n : Str) : List Str := wayN (rowsOf AR) (bOf BR) n
def spNeedG (Cg Cr : Addr) : Sp := fun vs H Q _ => ∃ (p q : Addr) (n : Str) (AR : List (Addr × Row)) (BR : List (Addr × RRow)), vs = [.ref p, .str n] ∧ RigOk Cg Cr H p q AR BR ∧ n ∈ rnm (bOf BR) ∧ Q .non H
def spLastG (Cg Cr : Addr) : Sp := fun vs H Q _ => ∃ (p q : Addr) (n : Str) (AR : List (Addr × Row)) (BR : List (Addr × RRow)), vs = [.ref p, .str n] ∧ RigOk Cg Cr H p q AR BR ∧ n ∈ rnm (bOf BR) ∧ Q (.str (lastW (wyN AR BR n))) H
def spWayG (Cg Cr : Addr) : Sp := fun vs H Q _ => ∃ (p q : Addr) (n : Str) (AR : List (Addr × Row)) (BR : List (Addr × RRow)), vs = [.ref p, .str n] ∧ RigOk Cg Cr H p q AR BR ∧ n ∈ rnm (bOf BR) ∧ ∀ t, TxR H t (wyN AR BR n) → Q (.ref t) H
def spPassG (Cg Cr : Addr) : Sp := fun vs H Q _ => ∃ (p q : Addr) (y : Str) (AR : List (Addr × Row)) (BR : List (Addr × RRow)), vs = [.ref p, .str y] ∧ RigOk Cg Cr H p q AR BR ∧ y ∈ namesOf AR ∧ ∀ t, TxR H t (passR (rowsOf AR) (bOf BR) y) → Q (.ref t) H
def spRowsG (Cg Cr : Addr) : Sp := fun vs H Q _ => ∃ (p q : Addr) (AR : List (Addr × Row)) (BR : List (Addr × RRow)), vs = [.ref p] ∧ RigOk Cg Cr H p q AR BR ∧ ∀ l, H l = none → Q (.ref l) (upd H l (.lst (BR.map fun q => .ref q.1)))
def spMeet (Cg Cr : Addr) : Sp := fun vs H Q _ => ∃ (p q : Addr) (a b : Str) (AR : List (Addr × Row)) (BR : List (Addr × RRow)), vs = [.ref p, .str a, .str b] ∧ RigOk Cg Cr H p q AR BR ∧ a ∈ rnm (bOf BR) ∧ b ∈ rnm (bOf BR) ∧ ∀ t H', Same H H' → TxR H' t (meetL (rowsOf AR) (bOf BR) a b) → Q (.ref t) H'
def metR (R : List Row) (B : List RRow) (a : Str) : List Str := (rnm B).filter fun o => decide (o ≠ a) && meetB R B a o
theorem way_ne {R : List Row} (g : GoodRows R) {B : List RRow} (b : RtOk R B) {n : Str} (hn : n ∈ rnm B) : atI ((wayN R B n).map V.str) (-1) = some (.str (lastW (wayN R B n))) ∧ (wayN R B n).length ≤ 40 := by
  obtain ⟨r, hr, rfl⟩ := List.mem_map.mp hn
  obtain ⟨m, k, w⟩ := way_is g (b.inn r hr) (b.last r hr)
  rw [way_of b.nd hr]
  have h1 := w.one; have h2 := w.most; have h3 := w.c.most; have h4 := g.most
  constructor
  · rw [w.last, w.eq]
    exact last_of h1
  · rw [w.eq, List.length_map, List.length_range]
    omega
section
variable {P : Program} {w : World} {K : PySem.W.Frag} {mg : Str → Option Value} {base : Heap} {tS tM tL : Tok}
theorem ok_gcontains {f Cg Cr : Addr} {fd : FuncData} (F : FnM K "__contains__" "Rights.__contains__" sGContains f fd) (TG : Rg K mg Cg) (B : Bl mg) : FnOk P w K mg base CX0 1 f fd ["self", "x"] (spHas (GHasG Cg Cr)) := by
  refine F.ok scGContains (fun vs H Q E h => ?_) (fun cdv A outer s H vs Q E hr h => ?_)
  · obtain ⟨p, x, b, rfl, _⟩ := h
    rfl
  · obtain ⟨p, x, b, rfl, ⟨q, AR, BR, n, R, rfl, rfl⟩, k⟩ := h
    have hu := hu_of hr
    refine ⟨_, PSs.nox (pss_one
      (ps_ret (pe_and (pe_callB call_isi (by rfl) B.isinstance (by decide +kernel) (pa_cons (pv 1) (pa_cons (pe_bltn (v := .ty "str") (by rfl) B.str (by decide +kernel) rfl) pa_nil))) (pe_one (pe_cmp (pc_din hu (pv 1) (fldK (K := K) (pv 0) rfl)) rfl))))), ?_⟩
    obtain ⟨dx, tn, tr, dw, dl, dp, h1, h2, h3, h4, h5, h6, h7⟩ := R.ex
    obtain ⟨ta, w1, w2⟩ := h6.ex
    refine ⟨_, rfl, .str n, .ty "str", _, _, true, rfl, .ty "str", .base (.str n), kit_ty (by decide +kernel), true, rfl, iteT ?_⟩
    refine ⟨_, rfl, _, rfl, p, Cg, dx, _, _, rfl, h1, TG.cl, TG._ways, rr6w _ _ _ _ _ _, ?_⟩
    by_cases hy : n ∈ rnm (bOf BR)
    · refine ⟨dw, some (.ref (ta n)), rfl, dget_rn (.inl w1) hy, ?_⟩
      rw [decide_eq_true hy] at k
      exact k
    · refine ⟨dw, none, rfl, .inl ⟨_, Sum.inr n, .inl w1, rfl, (kmap_not hy).symm⟩, ?_⟩
      rw [decide_eq_false hy] at k
      exact k
theorem ok_needG {f Cg Cr : Addr} {fd : FuncData} (F : FnP K "need_right" sNeedR f fd) (M : Gm K Cg) (TG : Rg K mg Cg) (B : Bl mg) : FnOk P w K mg base CX0 2 f fd ["rights", "name"] (spNeedG Cg Cr) := by
  obtain ⟨fC, fdC, FC, hs, hf⟩ := M.has
  have GC : FnOk P w K mg base CX0 1 fC fdC ["self", "x"] (spHas (GHasG Cg Cr)) := ok_gcontains FC TG B
  have bC : Binds K fdC ["self", "x"] [] := FC.bindsN fun _ _ _ _ _ _ us hl => match us, hl with | [_, _], _ => rfl
  refine F.ok scNeedR (fun vs H Q E h => ?_) (fun cdv A outer s H vs Q E hr h => ?_)
  · obtain ⟨p, q, n, AR, BR, rfl, _⟩ := h
    rfl
  · obtain ⟨p, q, n, AR, BR, rfl, R, hn, k⟩ := h
    refine ⟨_, PSs.nox (pss_one
      (ps_if (pt_cmpR (k0_notIn_own (K := K) GC hr hs hf bC) (pv 1) (pv 0) (by rfl)) (pss_one
      ps_never) pss_nil)), ?_⟩
    obtain ⟨dx, tn, tr, dw, dl, dp, h1, _⟩ := id R.at_.ex
    refine ⟨_, rfl, _, rfl, p, dx, _, true, rfl, h1, ⟨q, AR, BR, n, R.at_, rfl, (decide_eq_true hn).symm⟩, _, rfl, ?_⟩
    exact iteF k
/-- need_right and what it promises -/
structure NdG (P : Program) (w : World) (K : PySem.W.Frag) (mg : Str → Option Value) (base : Heap) (Cg Cr : Addr) : Prop where
  ex : ∃ f fd, FnP K "need_right" sNeedR f fd ∧ mg "need_right" = some (.ref f) ∧ FnOk P w K mg base CX0 2 f fd ["rights", "name"] (spNeedG Cg Cr)
theorem ok_lastG {f Cg Cr : Addr} {fd : FuncData} (F : FnM K "last" "Rights.last" sGLast f fd) (D : NdG P w K mg base Cg Cr) (TG : Rg K mg Cg) : FnOk P w K mg base CX0 3 f fd ["self", "name"] (spLastG Cg Cr) := by
  obtain ⟨fN, fdN, Fneed_right, gneed_right, Gneed_right⟩ := D.ex
  have bneed_right : Binds K fdN ["rights", "name"] [] := Fneed_right.bindsN fun _ _ _ _ _ _ us hl => match us, hl with | [_, _], _ => rfl
  refine F.ok scGLast (fun vs H Q E h => ?_) (fun cdv A outer s H vs Q E hr h => ?_)
  · obtain ⟨p, q, n, AR, BR, rfl, _⟩ := h
    rfl
  · obtain ⟨p, q, n, AR, BR, rfl, R, hn, k⟩ := h
    have hu := hu_of hr
    have hrneed_right : Room 2 _ := hr
    refine ⟨_, PSs.nox (pss_cons
      (ps_expr (pe_call Gneed_right hrneed_right (by rfl) gneed_right Fneed_right.kp bneed_right .nil pass0 (pa_cons (pv 0) (pa_cons (pv 1) pa_nil))))
      (pss_one
      (ps_ret (pe_ix (ixTK (K := K)) (pe_dget hu (fldK (K := K) (pv 0) rfl) (pv 1) (fun _ _ => rfl)) (pe_un un_neg pe_int) (fun _ _ => rfl))))), ?_⟩
    obtain ⟨dx, tn, tr, dw, dl, dp, h1, h2, h3, h4, h5, h6, h7⟩ := id R.at_.ex
    obtain ⟨ta, w1, w2⟩ := h6.ex
    refine ⟨_, rfl, _, rfl, p, q, n, AR, BR, rfl, R, hn, ?_⟩
    exact ⟨_, rfl, p, Cg, dx, _, _, rfl, h1, TG.cl, TG._ways, rr6w _ _ _ _ _ _, _, rfl, dw, _, rfl, dget_rn (.inl w1) hn, _, rfl, ta n, _, _, _, rfl, rfl, .inl (w2 n hn), (way_ne R.g R.b hn).1, k⟩
theorem ok_wayG {f Cg Cr : Addr} {fd : FuncData} (F : FnM K "way" "Rights.way" sGWay f fd) (D : NdG P w K mg base Cg Cr) (TG : Rg K mg Cg) : FnOk P w K mg base CX0 3 f fd ["self", "name"] (spWayG Cg Cr) := by
  obtain ⟨fN, fdN, Fneed_right, gneed_right, Gneed_right⟩ := D.ex
  have bneed_right : Binds K fdN ["rights", "name"] [] := Fneed_right.bindsN fun _ _ _ _ _ _ us hl => match us, hl with | [_, _], _ => rfl
  refine F.ok scGWay (fun vs H Q E h => ?_) (fun cdv A outer s H vs Q E hr h => ?_)
  · obtain ⟨p, q, n, AR, BR, rfl, _⟩ := h
    rfl
  · obtain ⟨p, q, n, AR, BR, rfl, R, hn, k⟩ := h
    have hu := hu_of hr
    have hrneed_right : Room 2 _ := hr
    refine ⟨_, PSs.nox (pss_cons
      (ps_expr (pe_call Gneed_right hrneed_right (by rfl) gneed_right Fneed_right.kp bneed_right .nil pass0 (pa_cons (pv 0) (pa_cons (pv 1) pa_nil))))
      (pss_one
      (ps_ret (pe_dget hu (fldK (K := K) (pv 0) rfl) (pv 1) (fun _ _ => rfl))))), ?_⟩
    obtain ⟨dx, tn, tr, dw, dl, dp, h1, h2, h3, h4, h5, h6, h7⟩ := id R.at_.ex
    obtain ⟨ta, w1, w2⟩ := h6.ex
    refine ⟨_, rfl, _, rfl, p, q, n, AR, BR, rfl, R, hn, ?_⟩
    exact ⟨_, rfl, p, Cg, dx, _, _, rfl, h1, TG.cl, TG._ways, rr6w _ _ _ _ _ _, _, rfl, dw, _, rfl, dget_rn (.inl w1) hn, k _ (w2 n hn)⟩
theorem ok_passG {f Cg Cr : Addr} {fd : FuncData} (F : FnM K "passing" "Rights.passing" sGPassing f fd) (D : NdS P w K mg base Cr) (TG : Rg K mg Cg) : FnOk P w K mg base CX0 3 f fd ["self", "weir"] (spPassG Cg Cr) := by
  obtain ⟨fN, fdN, Fneed_weir, gneed_weir, Gneed_weir⟩ := D.ex
  have bneed_weir : Binds K fdN ["river", "weir"] [] := Fneed_weir.bindsN fun _ _ _ _ _ _ us hl => match us, hl with | [_, _], _ => rfl
  refine F.ok scGPassing (fun vs H Q E h => ?_) (fun cdv A outer s H vs Q E hr h => ?_)
  · obtain ⟨p, q, y, AR, BR, rfl, _⟩ := h
    rfl
  · obtain ⟨p, q, y, AR, BR, rfl, R, hy, k⟩ := h
    have hu := hu_of hr
    have hrneed_weir : Room 2 _ := hr
    refine ⟨_, PSs.nox (pss_cons
      (ps_expr (pe_call Gneed_weir hrneed_weir (by rfl) gneed_weir Fneed_weir.kp bneed_weir .nil pass0 (pa_cons (fldK (K := K) (pv 0) rfl) (pa_cons (pv 1) pa_nil))))
      (pss_one
      (ps_ret (pe_dget hu (fldK (K := K) (pv 0) rfl) (pv 1) (fun _ _ => rfl))))), ?_⟩
    obtain ⟨dx, tn, tr, dw, dl, dp, h1, h2, h3, h4, h5, h6, h7⟩ := id R.at_.ex
    obtain ⟨ta, w1, w2⟩ := h7.ex
    refine ⟨_, rfl, p, Cg, dx, _, _, rfl, h1, TG.cl, TG.river, rr6r _ _ _ _ _ _, _, rfl, q, y, AR, rfl, h2, hy, ?_⟩
    exact ⟨_, rfl, p, Cg, dx, _, _, rfl, h1, TG.cl, TG._passing, rr6p _ _ _ _ _ _, _, rfl, dp, _, rfl, dget_rn (.inl w1) hy, k _ (w2 y hy)⟩
theorem ok_rowsG {f Cg Cr : Addr} {fd : FuncData} (F : FnM K "rows" "Rights.rows" sGRows f fd) (TG : Rg K mg Cg) (B : Bl mg) : FnOk P w K mg base CX0 1 f fd ["self"] (spRowsG Cg Cr) := by
  refine F.ok scGRows (fun vs H Q E h => ?_) (fun cdv A outer s H vs Q E hr h => ?_)
  · obtain ⟨p, q, AR, BR, rfl, _⟩ := h
    rfl
  · obtain ⟨p, q, AR, BR, rfl, R, k⟩ := h
    refine ⟨_, PSs.nox (pss_one
      (ps_ret (pe_callTy (listK (K := K)) (by rfl) B.list (by decide +kernel) (pa_cons (fldK (K := K) (pv 0) rfl) pa_nil)))), ?_⟩
    obtain ⟨dx, tn, tr, dw, dl, dp, h1, h2, h3, h4, h5, h6, h7⟩ := id R.at_.ex
    exact ⟨_, rfl, p, Cg, dx, _, _, rfl, h1, TG.cl, TG._rows, rr6o _ _ _ _ _ _, tr, _, rfl, .inr (.inl (.inl h4)), fun l nl => k l nl⟩
theorem ok_meet {f fW Cg Cr : Addr} {fd fdW : FuncData} (F : FnP K "meet" sMeet f fd) (Fway : FnM K "way" "Rights.way" sGWay fW fdW) (Mway : Meth K Cg "way" fW) (D : NdG P w K mg base Cg Cr) (TG : Rg K mg Cg) (B : Bl mg) : FnOk P w K mg base CX0 4 f fd ["rights", "one", "other"] (spMeet Cg Cr) := by
  have Gway : FnOk P w K mg base CX0 3 fW fdW ["self", "name"] (spWayG Cg Cr) := ok_wayG Fway D TG
  have bway : Binds K fdW ["self", "name"] [] := Fway.bindsN fun _ _ _ _ _ _ us hl => match us, hl with | [_, _], _ => rfl
  refine F.ok scMeet (fun vs H Q E h => ?_) (fun cdv A outer s H vs Q E hr h => ?_)
  · obtain ⟨p, q, a, b, AR, BR, rfl, _⟩ := h
    rfl
  · obtain ⟨p, q, a, b, AR, BR, rfl, R, ha, hb, k⟩ := h
    have hrway : Room 3 _ := hr
    refine ⟨_, PSs.nox (pss_cons
      (ps_set (i := 3) scMeet.nd rfl (Or.inl rfl) (pe_meth (pv 0) TG.cl Mway Gway hrway bway .nil pass0 (pa_cons (pv 1) pa_nil)))
      (pss_cons
      (ps_set (i := 4) scMeet.nd rfl (Or.inr rfl) (pe_meth (pv 0) TG.cl Mway Gway hrway bway .nil pass0 (pa_cons (pv 2) pa_nil)))
      (pss_one
      (ps_ret (pe_callTy (tupleK (K := K)) (by rfl) B.tuple (by decide +kernel) (pa_cons (pe_lc (own := [("weir", 5)]) (g := gName 5) (by rfl) scMeet.nd (pi_tup (pv 3)) (blkOk_by (own := [("weir", 5)]) (N := scMeet_N) (sc := defScope scMeet_S) (by decide +kernel)) (fun _ _ _ _ _ => (pg_name (i := 5) scMeet.nd rfl (Or.inl rfl))) (fun _ _ _ _ _ => (pts_one (pt_cmpR (inK (K := K)) (pv 5) (pv 4) (by rfl)))) (fun _ _ _ _ _ => (pv 5))) pa_nil)))))), ?_⟩
    obtain ⟨dx, tn, tr, dw, dl, dp, h1, _⟩ := id R.at_.ex
    have hz : (wyN AR BR a).length ≤ 40 := (way_ne R.g R.b ha).2
    refine ⟨_, rfl, p, dx, _, rfl, h1, rr6no _ _ _ _ _ _ (by decide +kernel), _, rfl, p, q, a, AR, BR, rfl, R, ha, fun t1 ht1 => ?_⟩
    refine ⟨_, rfl, p, dx, _, rfl, h1, rr6no _ _ _ _ _ _ (by decide +kernel), _, rfl, p, q, b, AR, BR, rfl, R, hb, fun t2 ht2 => ?_⟩
    refine ⟨_, rfl, t1, rfl, ⟨_, .inl ht1⟩, fun D0 hD => ?_⟩
    refine lc_tupO (K := K) (a := t1) (xs := (wyN AR BR a).map V.str) hD (fun i => (((wyN AR BR a).take i).filter fun y => decide (y ∈ wyN AR BR b)).map V.str) (by rw [List.take_zero]; rfl) (fun i _ => filt_size (by omega) i) (fun H2 s => .inl (ht1.same s)) ?_ ?_
    · intro i x H2 Nx hx s put skip
      rw [List.getElem?_map] at hx
      obtain ⟨y, hy, rfl⟩ := Option.map_eq_some_iff.mp hx
      refine ⟨rfl, ?_⟩
      refine ⟨_, rfl, _, rfl, t2, _, rfl, .inr (.inl (ht2.same s)), rfl, flat_strs _, _, rfl, ?_⟩
      rw [inV_str]
      have e := filt_take (p := fun z => decide (z ∈ wyN AR BR b)) hy
      refine ite2 (fun h => ?_) (fun h => ?_)
      · have h : decide (y ∈ wyN AR BR b) = true := h
        rw [if_pos h] at e
        refine ⟨_, rfl, put _ _ (.refl _) ?_⟩
        rw [e, List.map_append]
        rfl
      · have h : ¬ decide (y ∈ wyN AR BR b) = true := h
        rw [if_neg h, List.append_nil] at e
        exact skip _ (.refl _) (congrArg _ e)
    · intro H2 s2 hl
      rw [List.length_map, List.take_length] at hl
      refine ⟨D0, _, rfl, .inl ⟨.inl (.inl hl), fun t nt => ?_⟩⟩
      refine k t _ (s2.trans (same_upd nt)) (.inl ?_)
      rw [upd_same]
      rfl
end
end K0
end
section
set_option Elab.async false
set_option linter.all false
set_option maxRecDepth 100000
set_option maxHeartbeats 4000000
namespace K0
open PySem PySem.Spec PyProof.Rows L2
/-! ### the law draws rights -/
structure RNm (ns : List Str) : Prop where
  nd : ns.Nodup
  ok : ∀ x ∈ ns, NameOk x
theorem cut_take (xs : List V) (m : Nat) : cutV xs none (some (m : Int)) = xs.take m := by
  unfold cutV
  rw [HT.sIx_nat, HT.sIx_none, List.drop_zero, Nat.sub_zero, List.take_eq_take_iff]
  omega
theorem nodup_set {ns : List Str} {x : Str} (h : ns.Nodup) (hx : x ∉ ns) : ∀ i : Nat, (ns.set i x).Nodup := by
  induction ns with
  | nil => exact fun i => by simp
  | cons a r ih =>
    obtain ⟨h1, h2⟩ := List.nodup_cons.mp h
    intro i
    cases i with
    | zero => exact List.nodup_cons.mpr ⟨fun z => hx (List.mem_cons_of_mem _ z), h2⟩
    | succ i =>
      refine List.nodup_cons.mpr ⟨fun z => ?_, ih h2 (fun z => hx (List.mem_cons_of_mem _ z)) i⟩
      rcases List.mem_or_eq_of_mem_set z with e | e
      · exact h1 e
      · exact hx (e ▸ List.mem_cons_self)
theorem split3 {α β γ : Type} {R C : α → β → γ → Prop} {G : Prop} (use : (∀ a b c, R a b c → C a b c) → G) (key : ∀ a b c, R a b c → C a b c) : G := use key
abbrev scRNames_N : List Str := ["_law_bag_here", "_law_rows", "_law_many", "_law_names_here", "_law_row"]
abbrev scRNames_S : Stmt := sRNames
theorem scRNames : FnScope scRNames_N ["_law_bag_here", "_law_rows", "_law_many"] (defScope sRNames) := ⟨rfl, rfl, rfl, by decide +kernel, rfl, by decide +kernel, by decide +kernel⟩
def spRNames : Sp := fun vs H Q _ => ∃ (p l : Addr) (m : Nat) (AR : List (Addr × Row)), vs = [.ref p, .ref l, .int (m : Int)] ∧ BagAt H p ∧ l ≠ p ∧ RowsAt H l AR ∧ GoodRows (rowsOf AR) ∧ m ≤ 40 ∧
  ∀ (H' : Hp) (z : Addr) (ns : List Str), Upto p H H' → BagAt H' p → H z = none → z ≠ p → H' z = some (.lst (ns.map V.str)) → ns.length = m → RNm ns → Q (.ref z) H'
/-- what stands between the steps -/
structure RnS (H : Hp) (p l : Addr) (AR : List (Addr × Row)) (m : Nat) (H' : Hp) (z : Addr) (ns : List Str) : Prop where
  u : Upto p H H'
  bag : BagAt H' p
  new : H z = none
  zp : z ≠ p
  lst : H' z = some (.lst (ns.map V.str))
  len : ns.length = m
  ok : RNm ns
  sea : ("sea" : Str) ∉ ns
section
variable {P : Program} {w : World} {K : PySem.W.Frag} {mg : Str → Option Value} {base : Heap} {tS tM tL : Tok}
theorem ok_rnames {f : Addr} {fd : FuncData} (F : FnP K "_law_right_names" sRNames f fd) (T : Hf K mg) : FnOk P w K mg base CX0 4 f fd ["_law_bag_here", "_law_rows", "_law_many"] spRNames := by
  have B := T.B
  obtain ⟨fT, fdT, F_law_take, g_law_take⟩ := T.take
  obtain ⟨fO, fdO, F_law_of, g_law_of⟩ := T.of
  obtain ⟨fM, fdM, F_law_mixed, g_law_mixed⟩ := T.mixed
  obtain ⟨fN, fdN, F_law_names, g_law_names⟩ := T.names
  have G_law_take : FnOk P w K mg base CX0 1 fT fdT ["_law_bag_here", "_law_many"] spTake := ok_take F_law_take B
  have b_law_take : Binds K fdT ["_law_bag_here", "_law_many"] [] := F_law_take.bindsN fun _ _ _ _ _ _ us hl => match us, hl with | [_, _], _ => rfl
  have G_law_mixed : FnOk P w K mg base CX0 2 fM fdM ["_law_bag_here", "_law_some"] (spMixed K) := ok_mixed F_law_mixed F_law_take B g_law_take
  have b_law_mixed : Binds K fdM ["_law_bag_here", "_law_some"] [] := F_law_mixed.bindsN fun _ _ _ _ _ _ us hl => match us, hl with | [_, _], _ => rfl
  have G_law_names : FnOk P w K mg base CX0 3 fN fdN ["_law_bag_here", "_law_many"] spNames := ok_names F_law_names F_law_take F_law_of B g_law_take g_law_of
  have b_law_names : Binds K fdN ["_law_bag_here", "_law_many"] [] := F_law_names.bindsN fun _ _ _ _ _ _ us hl => match us, hl with | [_, _], _ => rfl
  refine F.ok scRNames (fun vs H Q E h => ?_) (fun cdv A outer s H vs Q E hr h => ?_)
  · obtain ⟨p, l, m, AR, rfl, _⟩ := h
    rfl
  · obtain ⟨p, l, m, AR, rfl, hB, hlp, hR, hG, hm, k⟩ := h
    have hr_law_take : Room 1 _ := hr.mono (by decide)
    have hr_law_mixed : Room 2 _ := hr.mono (by decide)
    have hr_law_names : Room 3 _ := hr
    refine ⟨_, PSs.nox (pss_cons
      (ps_set (i := 3) scRNames.nd rfl (Or.inl rfl) (pe_call G_law_names hr_law_names (by rfl) g_law_names F_law_names.kp b_law_names .nil pass0 (pa_cons (pv 0) (pa_cons (pv 2) pa_nil))))
      (pss_cons
      (ps_if (PW.pt (pw_and (pt_cmpR op_le (pv 2) (pe_callB (lenK (K := K)) (by rfl) B.len PySem.boot_len (pa_cons (pv 1) pa_nil)) (nomark _)) (pw_and1 (pt_cmpR op_eq (pe_call G_law_take hr_law_take (by rfl) g_law_take F_law_take.kp b_law_take .nil pass0 (pa_cons (pv 0) (pa_cons pe_int pa_nil))) pe_int (nomark _))))) (pss_one
      (ps_set (i := 3) scRNames.nd rfl (Or.inl rfl) (pe_slice sl_list (pe_lc (own := [("_law_row", 4)]) (g := gName 4) (tt := tYes) (by rfl) scRNames.nd (pi_list (pe_call G_law_mixed hr_law_mixed (by rfl) g_law_mixed F_law_mixed.kp b_law_mixed .nil pass0 (pa_cons (pv 0) (pa_cons (pv 1) pa_nil)))) (blkOk_by (own := [("_law_row", 4)]) (N := scRNames_N) (sc := defScope scRNames_S) (by decide +kernel)) (fun _ _ _ _ _ => (pg_name (i := 4) scRNames.nd rfl (Or.inl rfl))) (fun _ _ _ _ _ => pts_nil) (fun _ _ _ _ _ => (pe_ix (ixTK (K := K)) (pv 4) pe_int (fun _ _ => rfl)))) po_none (po_some (pv 2))))) pss_nil)
      (pss_cons
      (ps_if (PW.pt (pw_and (pt_cmpR op_gt (pv 2) pe_int (nomark _)) (pw_and1 (pt_cmpR op_eq (pe_call G_law_take hr_law_take (by rfl) g_law_take F_law_take.kp b_law_take .nil pass0 (pa_cons (pv 0) (pa_cons pe_int pa_nil))) pe_int (nomark _))))) (pss_one
      (ps_asg pe_str (pg_sub (pv 3) (pe_call G_law_take hr_law_take (by rfl) g_law_take F_law_take.kp b_law_take .nil pass0 (pa_cons (pv 0) (pa_cons (pv 2) pa_nil))) set_list))) pss_nil)
      (pss_one
      (ps_ret (pv 3)))))), ?_⟩
    have hAl : (rowsOf AR).length = AR.length := List.length_map _
    have hRm := hG.most
    have hnl : (namesOf AR).length = AR.length := nmlen AR
    refine ⟨_, rfl, _, rfl, p, m, rfl, hB, by omega, fun H1 z ns u1 B1 nz zp hz hlen hok => ?_⟩
    have hseaN : ("sea" : Str) ∉ ns := fun q => hok.sea _ q rfl
    have st0 : RnS H p l AR m H1 z ns := ⟨u1, B1, nz, zp, hz, hlen, ⟨hok.nd, hok.ok⟩, hseaN⟩
    have hR1 : RowsAt H1 l AR := hR.upto hB hlp u1
    refine split3 (α := Hp) (β := Addr) (γ := List Str) (R := fun H2 z2 ns2 => RnS H p l AR m H2 z2 ns2) (C := ?C) ?use ?key
    case use =>
      intro key
      refine ⟨_, rfl, _, rfl, l, _, rfl, .inl (.inl (.inl hR1.lst)), _, _, rfl, rfl, _, rfl, ?_⟩
      refine ite2 (fun hc => ?_) (fun hc => ?_)
      · have hc : m ≤ AR.length := by
          have := of_decide_eq_true hc
          rw [List.length_map] at this
          omega
        refine ⟨_, rfl, p, 3, rfl, B1, by decide, by decide, fun r xs hr0 hr1 hx => ?_⟩
        have u2 : Upto p H (upd H1 p (.lst xs)) := u1.trans Upto.at_
        have B2 : BagAt (upd H1 p (.lst xs)) p := ⟨xs, upd_same, hx⟩
        have hz2 : (upd H1 p (.lst xs)) z = some (.lst (ns.map V.str)) := by rw [upd_ne zp]; exact hz
        have hR2 : RowsAt (upd H1 p (.lst xs)) l AR := hR1.upto B1 hlp Upto.at_
        generalize upd H1 p (.lst xs) = H2 at u2 B2 hz2 hR2
        refine ⟨rfl, _, rfl, ?_⟩
        refine ite2 (fun hc2 => ?_) (fun hc2 => ?_)
        · refine ⟨_, rfl, _, rfl, p, l, _, rfl, B2, hlp, .inl (.inl hR2.lst), by rw [List.length_map]; omega, fun H3 y zs u3 B3 ny nyp hy hp => ?_⟩
          obtain ⟨AR', ezs, hp'⟩ := perm_lift hp AR rfl
          subst ezs
          have hR3 : RowsAt H3 l AR := hR2.upto B2 hlp u3
          have tup3 : ∀ q ∈ AR', H3 q.1 = some (.tup [.str q.2.1, .str q.2.2]) := fun q hq => hR3.tup q (hp'.mem_iff.mp hq)
          have hlen' : AR'.length = AR.length := hp'.length_eq
          refine ⟨y, rfl, ⟨_, .inl (.inl hy)⟩, fun D hD => ?_⟩
          refine lc_listO (K := K) (a := y) (xs := AR'.map fun q => V.ref q.1) hD (fun i => ((namesOf AR').take i).map V.str) (by rw [List.take_zero]; rfl) (fun i hi => by rw [List.length_map, List.length_take, nmlen]; exact small1000 (by omega)) (.inl (.inl hy)) ?_ ?_
          · intro i x H4 Nx hx s put skip
            have hi : i < AR'.length := by
              have := (List.getElem?_eq_some_iff.mp hx).1
              rw [List.length_map] at this
              exact this
            have ex := row_at hx hi
            subst ex
            have hni : (namesOf AR')[i]? = some AR'[i].2.1 := by
              show ((AR'.map (·.2)).map (·.1))[i]? = _
              rw [List.getElem?_map, List.getElem?_map, List.getElem?_eq_getElem hi]
              rfl
            refine ⟨rfl, ?_⟩
            unfold tYes
            refine iteT ?_
            exact ⟨_, rfl, AR'[i].1, _, _, _, rfl, rfl, .inl (.inl (s _ _ (tup3 _ (List.getElem_mem hi)))), atI_nat (j := 0) rfl, put _ _ (.refl _) (take_map1 hni)⟩
          intro H4 s4 hl4
          rw [List.length_map, ← nmlen AR', List.take_length] at hl4
          refine ⟨_, rfl, _, rfl, D, _, rfl, .inl (.inl hl4), fun z2 nz2 => ?_⟩
          obtain ⟨b3, hb3, hv3⟩ := id B3
          have u5 : Upto p H (upd H4 z2 (.lst (cutV ((namesOf AR').map V.str) none (some (m : Int))))) := (((u2.trans u3).trans (Upto.of s4))).trans (Upto.of (same_upd nz2))
          have z2p : z2 ≠ p := fun e => by
            rw [e, s4 _ _ hb3] at nz2
            cases nz2
          have B5 : BagAt (upd H4 z2 (.lst (cutV ((namesOf AR').map V.str) none (some (m : Int))))) p := ⟨b3, by rw [upd_ne z2p.symm]; exact s4 _ _ hb3, hv3⟩
          have hz5 : (upd H4 z2 (.lst (cutV ((namesOf AR').map V.str) none (some (m : Int))))) z2 = some (.lst (((namesOf AR').take m).map V.str)) := by rw [upd_same, cut_take, List.map_take]
          generalize upd H4 z2 (.lst (cutV ((namesOf AR').map V.str) none (some (m : Int)))) = H5 at u5 B5 hz5
          have hHz2 : H z2 = none := by
            cases e : H z2 with
            | none => rfl
            | some o =>
              rw [s4 _ _ (u3 _ _ (u2 _ _ e z2p) z2p)] at nz2
              cases nz2
          have hG' : GoodRows (rowsOf AR') := hG.perm (hp'.map _)
          have hst : RnS H p l AR m H5 z2 ((namesOf AR').take m) := ⟨u5, B5, hHz2, z2p, hz5, by rw [List.length_take, nmlen]; omega, ⟨hG'.nm.nd.sublist (List.take_sublist _ _), fun x hx => hG'.nm.ok x (List.mem_of_mem_take hx)⟩, fun q => hG'.nm.sea _ (List.mem_of_mem_take q) rfl⟩
          generalize (namesOf AR').take m = ns5 at hst
          exact key H5 z2 ns5 hst
        · exact key H2 z ns ⟨u2, B2, nz, zp, hz2, hlen, ⟨hok.nd, hok.ok⟩, hseaN⟩
      · exact key H1 z ns st0
    case key =>
      intro H2 z2 ns2 S
      have B2 := S.bag
      refine ⟨_, rfl, _, _, rfl, rfl, _, rfl, ?_⟩
      refine ite2 (fun hc => ?_) (fun hc => ?_)
      · have hc : 0 < m := by
          have := of_decide_eq_true hc
          omega
        refine ⟨_, rfl, p, 6, rfl, B2, by decide, by decide, fun r xs hr0 hr1 hx => ⟨rfl, _, rfl, ?_⟩⟩
        have u3 : Upto p H (upd H2 p (.lst xs)) := S.u.trans Upto.at_
        have B3 : BagAt (upd H2 p (.lst xs)) p := ⟨xs, upd_same, hx⟩
        have hz3 : (upd H2 p (.lst xs)) z2 = some (.lst (ns2.map V.str)) := by rw [upd_ne S.zp]; exact S.lst
        generalize upd H2 p (.lst xs) = H3 at u3 B3 hz3
        refine ite2 (fun hc2 => ?_) (fun hc2 => ?_)
        · refine ⟨_, rfl, _, rfl, _, rfl, p, (m : Int), rfl, B3, by omega, by omega, fun r2 xs2 hr2 hr3 hx2 => ?_⟩
          obtain ⟨rn, rfl⟩ : ∃ rn : Nat, r2 = (rn : Int) := ⟨r2.toNat, by omega⟩
          have u4 : Upto p H (upd H3 p (.lst xs2)) := u3.trans Upto.at_
          have B4 : BagAt (upd H3 p (.lst xs2)) p := ⟨xs2, upd_same, hx2⟩
          have hz4 : (upd H3 p (.lst xs2)) z2 = some (.lst (ns2.map V.str)) := by rw [upd_ne S.zp]; exact hz3
          generalize upd H3 p (.lst xs2) = H4 at u4 B4 hz4
          have hlen2 := S.len
          have hrn : rn < ns2.length := by omega
          refine ⟨z2, _, _, rn, rfl, rfl, hz4, ?_, ?_⟩
          · unfold ixN
            rw [List.length_map]
            simp only [Int.natCast_nonneg, if_true]
            rw [if_pos (by omega)]
            rfl
          · rw [show (ns2.map V.str).set rn (.str "sea") = (ns2.set rn "sea").map V.str by rw [List.map_set]]
            obtain ⟨b4, hb4, hv4⟩ := id B4
            refine ⟨_, rfl, k _ z2 (ns2.set rn "sea") (fun b o hb hn => ?_) ⟨b4, by rw [upd_ne S.zp.symm]; exact hb4, hv4⟩ S.new S.zp upd_same (by rw [List.length_set]; exact hlen2) ⟨nodup_set S.ok.nd S.sea rn, fun x hx => ?_⟩⟩
            · rw [upd_ne (ne_of_none hb S.new)]
              exact u4 _ _ hb hn
            · rcases List.mem_or_eq_of_mem_set hx with e | e
              · exact S.ok.ok x e
              · rw [e]
                exact sea_ok
        · exact ⟨_, rfl, k H3 z2 ns2 u3 B3 S.new S.zp hz3 S.len S.ok⟩
      · exact ⟨_, rfl, k H2 z2 ns2 S.u B2 S.new S.zp S.lst S.len S.ok⟩
end
end K0
end
section
set_option Elab.async false
set_option linter.all false
set_option maxRecDepth 100000
namespace K0
open PySem PySem.Spec PyProof.Rows L2
theorem iteYes {c A B : Prop} [Decidable c] (hc : ¬ c) (h : A) : if (!decide c) = true then A else B := by
  rw [decide_eq_false hc]
  exact iteT h
theorem iteNo {c A B : Prop} [Decidable c] (hc : ¬ ¬ c) (h : B) : if (!decide c) = true then A else B := by
  rw [decide_eq_true (Decidable.not_not.mp hc)]
  exact iteF h
theorem low_sea {R : List Row} (g : GoodRows R) : lowR R "sea" = "sea" := by
  unfold lowR
  cases e : R.find? (fun r => decide (r.1 = ("sea" : Str))) with
  | none => rfl
  | some r =>
    have h1 := List.mem_of_find?_eq_some e
    have h0 := List.find?_some e
    have h2 := of_decide_eq_true h0
    exact absurd h2 (g.nm.sea _ (List.mem_map.mpr ⟨r, h1, rfl⟩))
theorem itr_sea {low : Str → Str} (h : low "sea" = "sea") : ∀ n, itr low n "sea" = "sea"
  | 0 => rfl
  | n + 1 => by
    show low (itr low n "sea") = "sea"
    rw [itr_sea h n, h]
theorem crs_snoc {low : Str → Str} (h : low "sea" = "sea") : ∀ (n : Nat) (x : Str), crs low (n + 1) x = crs low n x ++ (if itr low n x = "sea" then [] else [itr low n x])
  | 0, x => rfl
  | n + 1, x => by
    show (if x = "sea" then [] else x :: crs low (n + 1) (low x)) = (if x = "sea" then [] else x :: crs low n (low x)) ++ _
    rw [itr_shift]
    by_cases hx : x = "sea"
    · subst hx
      rw [if_pos rfl, if_pos rfl, h, itr_sea h n, if_pos rfl]
      rfl
    · rw [if_neg hx, if_neg hx, crs_snoc h n (low x)]
      rfl
theorem itr_in {R : List Row} (g : GoodRows R) {x : Str} (hx : x ∈ nmsOf R) : ∀ n, itr (lowR R) n x = "sea" ∨ itr (lowR R) n x ∈ nmsOf R
  | 0 => .inr hx
  | n + 1 => by
    show lowR R (itr (lowR R) n x) = "sea" ∨ lowR R (itr (lowR R) n x) ∈ nmsOf R
    rcases itr_in g hx n with e | e
    · rw [e]
      exact .inl (low_sea g)
    · obtain ⟨r, hr, e1, e2⟩ := low_row e
      obtain ⟨rk, hk⟩ := g.rank
      rw [← e2]
      rcases hk r hr with z | ⟨z, _⟩
      · exact .inl z
      · exact .inr z
theorem merge_rows {R : List Row} : ∀ {Q : List Row} {ns : List Str}, (ns ++ Q.map (·.1)).Nodup → (∀ r ∈ Q, lowR R r.1 = r.2) → mergeK (kmap (fun y => .str (lowR R y)) ns) (Q.map fun r => ((Sum.inr r.1 : Key), V.str r.2)) = kmap (fun y => .str (lowR R y)) (ns ++ Q.map (·.1))
  | [], ns, _, _ => by
    show kmap (fun y => V.str (lowR R y)) ns = kmap (fun y => V.str (lowR R y)) (ns ++ [])
    rw [List.append_nil]
  | r :: Q, ns, hd, hl => by
    have hd2 : ((ns ++ [r.1]) ++ Q.map (·.1)).Nodup := by
      rw [List.append_assoc]
      exact hd
    have hn : r.1 ∉ ns := fun z => by
      have := List.nodup_append.mp hd
      exact this.2.2 r.1 z r.1 (by rw [List.map_cons]; exact List.mem_cons_self) rfl
    have ih := merge_rows (Q := Q) hd2 fun q hq => hl q (List.mem_cons_of_mem _ hq)
    have e1 : putK (kmap (fun y => V.str (lowR R y)) ns) (Sum.inr r.1) (V.str r.2) = kmap (fun y => V.str (lowR R y)) (ns ++ [r.1]) := by
      have := kmap_put (f := fun y => V.str (lowR R y)) hn
      rw [hl r List.mem_cons_self] at this
      exact this
    show mergeK (putK (kmap (fun y => V.str (lowR R y)) ns) (Sum.inr r.1) (V.str r.2)) (Q.map fun r => ((Sum.inr r.1 : Key), V.str r.2)) = _
    rw [e1, ih, List.append_assoc]
    rfl
theorem merge_all {R : List Row} (g : GoodRows R) : mergeK [] (R.map fun r => ((Sum.inr r.1 : Key), V.str r.2)) = belowK R :=
  merge_rows (R := R) (Q := R) (ns := []) (by simpa using g.nm.nd) fun r hr => low_at g.nm.nd hr
theorem rows_pairs {K : PySem.W.Frag} {H : Hp} : ∀ {AR : List (Addr × Row)}, (∀ q ∈ AR, H q.1 = some (.tup [.str q.2.1, .str q.2.2])) → Paired (fun p (kv : Key × V) => SqT K H p [kV kv.1, kv.2]) (AR.map (·.1)) ((rowsOf AR).map fun r => ((Sum.inr r.1 : Key), V.str r.2))
  | [], _ => .nil
  | q :: AR, h => .cons (.inl (.inl (h q List.mem_cons_self))) (rows_pairs fun z hz => h z (List.mem_cons_of_mem _ hz))
abbrev scLCourse_N : List Str := ["_law_rows", "_law_weir", "_law_below", "_law_found", "_law_k"]
theorem scLCourse : FnScope scLCourse_N ["_law_rows", "_law_weir"] (defScope sLCourse) := ⟨rfl, rfl, rfl, by decide +kernel, rfl, by decide +kernel, by decide +kernel⟩
def spLCourse : Sp := fun vs H Q _ => ∃ (l : Addr) (AR : List (Addr × Row)) (y : Str), vs = [.ref l, .str y] ∧ RowsAt H l AR ∧ GoodRows (rowsOf AR) ∧ y ∈ namesOf AR ∧
  ∀ (H' : Hp) (c : Addr), Same H H' → H c = none → H' c = some (.lst ((course (rowsOf AR) y).map V.str)) → Q (.ref c) H'
section
variable {P : Program} {w : World} {K : PySem.W.Frag} {mg : Str → Option Value} {base : Heap} {tS tM tL : Tok}
theorem ok_lcourse {f : Addr} {fd : FuncData} (F : FnP K "_law_course" sLCourse f fd) (B : Bl mg) : FnOk P w K mg base CX0 1 f fd ["_law_rows", "_law_weir"] spLCourse := by
  refine F.ok scLCourse (fun vs H Q E h => ?_) (fun cdv A outer s H vs Q E hr h => ?_)
  · obtain ⟨l, AR, y, rfl, _⟩ := h
    rfl
  · obtain ⟨l, AR, y, rfl, hR, hG, hy, k⟩ := h
    have hu := hu_of hr
    refine ⟨_, PSs.nox (pss_cons
      (ps_par (i := 2) (j := 3) (by rfl) scLCourse.nd rfl rfl (by decide) rfl rfl (pa_cons (pe_callTy (call_dictP rfl) (by rfl) B.dict (by decide +kernel) (pa_cons (pv 0) pa_nil)) (pa_cons (pe_lst pa_nil) pa_nil)) (by rfl))
      (pss_cons
      (ps_for PassesOwn.never rfl (pi_range1 (by rfl) B.range (pa_cons (pe_callB (lenK (K := K)) (by rfl) B.len PySem.boot_len (pa_cons (pv 0) pa_nil)) pa_nil)) (pg_name (i := 4) scLCourse.nd rfl (Or.inl rfl)) (pss_one
      (ps_if (pt_cmpR op_ne (pv 1) pe_str (nomark _)) (pss_cons
      (ps_expr (pe_bm PySem.F.plainAttrs_list PySem.F.slot_list_append PySem.F.type_list_append mt_append (pv 3) (pa_cons (pv 1) pa_nil)))
      (pss_one
      (ps_set (i := 1) scLCourse.nd rfl (Or.inl rfl) (pe_dget hu (pv 2) (pv 1) (fun _ _ => rfl))))) pss_nil)))
      (pss_one
      (ps_ret (pv 3))))), ?_⟩
    have hRm := hG.most
    have hAl : (rowsOf AR).length = AR.length := List.length_map _
    refine ⟨_, rfl, l, AR.map (·.1), (rowsOf AR).map fun r => ((Sum.inr r.1 : Key), V.str r.2), rfl, ?_, rows_pairs hR.tup, fun d nd => ?_⟩
    · rw [List.map_map]
      exact .inl (.inl hR.lst)
    rw [merge_all hG]
    refine ⟨Nat.zero_le _, fun c nc => ⟨_, _, rfl, ?_⟩⟩
    have ndc : d ≠ c := ne_of_none upd_same nc
    have nc0 : H c = none := by
      rw [upd_ne ndc.symm] at nc
      exact nc
    have s1 : Same H (upd (upd H d (.dK (belowK (rowsOf AR)))) c (.lst [])) := (same_upd nd).trans (same_upd nc)
    refine ⟨_, rfl, l, _, rfl, .inl (.inl (.inl (s1 _ _ hR.lst))), ((AR.map fun q => V.ref q.1).length : Int), rfl, by omega, by rw [List.length_map]; omega, ?_⟩
    refine for_range (n := (AR.map fun q => V.ref q.1).length) (lo := 0) (fun i σ H2 => ∃ v, σ = [some (.ref l), some (.str (itr (lowR (rowsOf AR)) i y)), some (.ref d), some (.ref c), v] ∧ Same H H2 ∧ H2 d = some (.dK (belowK (rowsOf AR))) ∧ H2 c = some (.lst ((crs (lowR (rowsOf AR)) i y).map V.str)) ∧ (crs (lowR (rowsOf AR)) i y).length ≤ i)
      ⟨none, rfl, s1, by rw [upd_ne ndc, upd_same], upd_same, Nat.le_refl _⟩ ?_ ?_
    · rintro i σ H2 hi ⟨v, rfl, s2, hd2, hc2, hl2⟩
      have hls := low_sea hG
      refine ⟨_, rfl, rfl, ?_⟩
      have hcz := crs_snoc hls i y
      rcases itr_in hG hy i with e | e
      · have ec : crs (lowR (rowsOf AR)) (i + 1) y = crs (lowR (rowsOf AR)) i y := by rw [hcz, if_pos e, List.append_nil]
        have ei : itr (lowR (rowsOf AR)) (i + 1) y = itr (lowR (rowsOf AR)) i y := by
          show lowR (rowsOf AR) (itr (lowR (rowsOf AR)) i y) = _
          rw [e, hls]
        refine ⟨_, rfl, ?_⟩
        refine iteNo (fun z => z (congrArg V.str e)) ?_
        exact ⟨_, by rw [ei]; rfl, s2, hd2, by rw [ec]; exact hc2, by rw [ec]; omega⟩
      · have en : itr (lowR (rowsOf AR)) i y ≠ "sea" := hG.nm.sea _ e
        have ec : crs (lowR (rowsOf AR)) (i + 1) y = crs (lowR (rowsOf AR)) i y ++ [itr (lowR (rowsOf AR)) i y] := by rw [hcz, if_neg en]
        refine ⟨_, rfl, ?_⟩
        refine iteYes (fun z => en (V.str.inj z)) ?_
        have hi40 : i ≤ 40 := by rw [List.length_map] at hi; omega
        have dc : d ≠ c := ne_of hd2 hc2 (fun z => by cases z)
        refine ⟨_, rfl, .inl ⟨rfl, _, .inl (.inl hc2)⟩, _, rfl, c, _, _, rfl, rfl, hc2, by rw [List.length_map]; exact small1000 (by omega), ?_⟩
        refine ⟨_, rfl, _, rfl, d, _, rfl, dget_rn (.inl ((upd_ne dc).trans hd2)) e, ?_⟩
        refine ⟨_, rfl, fun b o hb => ?_, (upd_ne dc).trans hd2, ?_, ?_⟩
        · rw [upd_ne (ne_of_none hb nc0)]
          exact s2 b o hb
        · rw [upd_same, ec, List.map_append]
          rfl
        · rw [ec, List.length_append]
          show _ + 1 ≤ i + 1
          omega
    · rintro σ H2 ⟨v, rfl, s2, hd2, hc2, hl2⟩
      have en : (AR.map fun q => V.ref q.1).length = (rowsOf AR).length := by rw [List.length_map, hAl]
      rw [en] at hc2
      exact ⟨_, rfl, k H2 c s2 nc0 hc2⟩
end
end K0
end
section
set_option Elab.async false
set_option linter.all false
set_option maxRecDepth 100000
set_option maxHeartbeats 4000000
namespace K0
open PySem PySem.Spec PyProof.Rows L2
abbrev scLRights_N : List Str := ["_law_bag_here", "_law_rows", "_law_many", "_law_found", "_law_name", "_law_course_here", "_law_at"]
abbrev scLRights_S : Stmt := sLRights
theorem scLRights : FnScope scLRights_N ["_law_bag_here", "_law_rows", "_law_many"] (defScope sLRights) := ⟨rfl, rfl, rfl, by decide +kernel, rfl, by decide +kernel, by decide +kernel⟩
def spLRights : Sp := fun vs H Q _ => ∃ (p l : Addr) (m : Nat) (AR : List (Addr × Row)), vs = [.ref p, .ref l, .int (m : Int)] ∧ BagAt H p ∧ l ≠ p ∧ RowsAt H l AR ∧ GoodRows (rowsOf AR) ∧ m ≤ 40 ∧
  ∀ (H' : Hp) (z : Addr) (BR : List (Addr × RRow)), Upto p H H' → BagAt H' p → H z = none → z ≠ p → BRows H' z BR → RtOk (rowsOf AR) (bOf BR) → BR.length = m → Q (.ref z) H'
abbrev scLWay_N : List Str := ["_law_rows", "_law_right", "_law_course_here"]
abbrev scLWay_S : Stmt := sLWay
theorem scLWay : FnScope scLWay_N ["_law_rows", "_law_right"] (defScope sLWay) := ⟨rfl, rfl, rfl, by decide +kernel, rfl, by decide +kernel, by decide +kernel⟩
def spLWay : Sp := fun vs H Q _ => ∃ (l t : Addr) (AR : List (Addr × Row)) (r : RRow), vs = [.ref l, .ref t] ∧ RowsAt H l AR ∧ GoodRows (rowsOf AR) ∧ H t = some (.tup [.str r.1, .str r.2.1, .str r.2.2]) ∧ r.2.1 ∈ namesOf AR ∧ (r.2.2 = "sea" ∨ r.2.2 ∈ course (rowsOf AR) r.2.1) ∧
  ∀ (H' : Hp) (c : Addr), Same H H' → H c = none → H' c = some (.lst ((wayB (rowsOf AR) r).map V.str)) → Q (.ref c) H'
theorem eqV_str (a b : Str) : eqV (.str a) (.str b) = decide (a = b) := by
  show (a == b) = _
  rw [Bool.eq_iff_iff, beq_iff_eq, decide_eq_true_eq]
theorem bOf_snoc (BR : List (Addr × RRow)) (z : Addr × RRow) : bOf (BR ++ [z]) = bOf BR ++ [z.2] := List.map_append
theorem BRows.upto {H H' : Hp} {p l : Addr} {BR : List (Addr × RRow)} (r : BRows H l BR) (B : BagAt H p) (n : l ≠ p) (u : Upto p H H') : BRows H' l BR :=
  ⟨u _ _ r.lst n, fun q hq => u _ _ (r.tup q hq) (bag_ne B (r.tup q hq))⟩
section
variable {P : Program} {w : World} {K : PySem.W.Frag} {mg : Str → Option Value} {base : Heap} {tS tM tL : Tok}
theorem ok_lrights {f fN fC : Addr} {fd fdN fdC : FuncData} (F : FnP K "_law_rights" sLRights f fd) (F_law_right_names : FnP K "_law_right_names" sRNames fN fdN) (g_law_right_names : mg "_law_right_names" = some (.ref fN)) (F_law_course : FnP K "_law_course" sLCourse fC fdC) (g_law_course : mg "_law_course" = some (.ref fC)) (T : Hf K mg) : FnOk P w K mg base CX0 5 f fd ["_law_bag_here", "_law_rows", "_law_many"] spLRights := by
  have B := T.B
  obtain ⟨fT, fdT, F_law_take, g_law_take⟩ := T.take
  obtain ⟨fO, fdO, F_law_of, g_law_of⟩ := T.of
  have G_law_take : FnOk P w K mg base CX0 1 fT fdT ["_law_bag_here", "_law_many"] spTake := ok_take F_law_take B
  have b_law_take : Binds K fdT ["_law_bag_here", "_law_many"] [] := F_law_take.bindsN fun _ _ _ _ _ _ us hl => match us, hl with | [_, _], _ => rfl
  have G_law_of : FnOk P w K mg base CX0 2 fO fdO ["_law_bag_here", "_law_some"] (spOf K) := ok_of F_law_of F_law_take B g_law_take
  have b_law_of : Binds K fdO ["_law_bag_here", "_law_some"] [] := F_law_of.bindsN fun _ _ _ _ _ _ us hl => match us, hl with | [_, _], _ => rfl
  have G_law_course : FnOk P w K mg base CX0 1 fC fdC ["_law_rows", "_law_weir"] spLCourse := ok_lcourse F_law_course B
  have b_law_course : Binds K fdC ["_law_rows", "_law_weir"] [] := F_law_course.bindsN fun _ _ _ _ _ _ us hl => match us, hl with | [_, _], _ => rfl
  have G_law_right_names : FnOk P w K mg base CX0 4 fN fdN ["_law_bag_here", "_law_rows", "_law_many"] spRNames := ok_rnames F_law_right_names T
  have b_law_right_names : Binds K fdN ["_law_bag_here", "_law_rows", "_law_many"] [] := F_law_right_names.bindsN fun _ _ _ _ _ _ us hl => match us, hl with | [_, _, _], _ => rfl
  refine F.ok scLRights (fun vs H Q E h => ?_) (fun cdv A outer s H vs Q E hr h => ?_)
  · obtain ⟨p, l, m, AR, rfl, _⟩ := h
    rfl
  · obtain ⟨p, l, m, AR, rfl, hB, hlp, hR, hG, hm, k⟩ := h
    have hr_law_take : Room 1 _ := hr.mono (by decide)
    have hr_law_of : Room 2 _ := hr.mono (by decide)
    have hr_law_course : Room 1 _ := hr.mono (by decide)
    have hr_law_right_names : Room 4 _ := hr
    refine ⟨_, PSs.nox (pss_cons
      (ps_set (i := 3) scLRights.nd rfl (Or.inl rfl) (pe_lst pa_nil))
      (pss_cons
      (ps_for PassesOwn.never rfl (pi_list (pe_call G_law_right_names hr_law_right_names (by rfl) g_law_right_names F_law_right_names.kp b_law_right_names .nil pass0 (pa_cons (pv 0) (pa_cons (pv 1) (pa_cons (pv 2) pa_nil))))) (pg_name (i := 4) scLRights.nd rfl (Or.inl rfl)) (pss_cons
      (ps_set (i := 5) scLRights.nd rfl (Or.inl rfl) (pe_call G_law_course hr_law_course (by rfl) g_law_course F_law_course.kp b_law_course .nil pass0 (pa_cons (pv 1) (pa_cons (pe_ix (ixTK (K := K)) (pe_call G_law_of hr_law_of (by rfl) g_law_of F_law_of.kp b_law_of .nil pass0 (pa_cons (pv 0) (pa_cons (pv 1) pa_nil))) pe_int (fun _ _ => rfl)) pa_nil))))
      (pss_cons
      (ps_set (i := 6) scLRights.nd rfl (Or.inl rfl) (pe_call G_law_take hr_law_take (by rfl) g_law_take F_law_take.kp b_law_take .nil pass0 (pa_cons (pv 0) (pa_cons (pe_op op_add (pe_callB (lenK (K := K)) (by rfl) B.len PySem.boot_len (pa_cons (pv 5) pa_nil)) pe_int) pa_nil))))
      (pss_one
      (ps_expr (pe_bm PySem.F.plainAttrs_list PySem.F.slot_list_append PySem.F.type_list_append mt_append (pv 3) (pa_cons (pe_tup (pa_cons (pv 4) (pa_cons (pe_ix (ixLK (K := K)) (pv 5) pe_int (fun _ _ => rfl)) (pa_cons (pe_ifExp (pt_cmpR op_lt (pv 6) (pe_callB (lenK (K := K)) (by rfl) B.len PySem.boot_len (pa_cons (pv 5) pa_nil)) (nomark _)) (pe_ix (ixLK (K := K)) (pv 5) (pv 6) (fun _ _ => rfl)) pe_str) pa_nil)))) pa_nil)))))))
      (pss_one
      (ps_ret (pv 3))))), ?_⟩
    have hAl : (rowsOf AR).length = AR.length := List.length_map _
    have hRm := hG.most
    have hR1 := hG.one
    have hnl : (namesOf AR).length = AR.length := nmlen AR
    refine ⟨by show 0 ≤ sizeLine; decide, fun F0 hF => ?_⟩
    obtain ⟨b0, hb0, hv0⟩ := id hB
    have pF : p ≠ F0 := ne_of_none hb0 hF
    have s1 : Same H (upd H F0 (.lst [])) := same_upd hF
    have hF1 : (upd H F0 (.lst [])) F0 = some (.lst []) := upd_same
    generalize upd H F0 (.lst []) = H1 at s1 hF1
    have hBa : BagAt H1 p := ⟨b0, s1 _ _ hb0, hv0⟩
    refine ⟨_, rfl, _, rfl, _, rfl, p, l, m, AR, rfl, hBa, hlp, hR.same s1, hG, hm, fun H2 Z ns u2 B2 hZ1 zp hZ hlen hok => ?_⟩
    have zF : Z ≠ F0 := fun e => by
      rw [e, hF1] at hZ1
      cases hZ1
    have hHZ : H Z = none := by
      cases e : H Z with
      | none => rfl
      | some o =>
        rw [s1 _ _ e] at hZ1
        cases hZ1
    refine ⟨Z, rfl, ⟨_, .inl (.inl hZ)⟩, ?_⟩
    refine for_list (K := K) (a := Z) (xs := ns.map V.str) (fun i σ H3 => ∃ v4 v5 v6 BR, σ = [some (.ref p), some (.ref l), some (.int (m : Int)), some (.ref F0), v4, v5, v6] ∧ Upto p H H3 ∧ BagAt H3 p ∧ H3 Z = some (.lst (ns.map V.str)) ∧ BRows H3 F0 BR ∧ rnm (bOf BR) = ns.take i ∧
        (∀ r ∈ bOf BR, r.2.1 ∈ namesOf AR) ∧ ∀ r ∈ bOf BR, r.2.2 = "sea" ∨ r.2.2 ∈ course (rowsOf AR) r.2.1)
      ⟨none, none, none, [], rfl, (Upto.of s1).trans u2, B2, hZ, ⟨u2 _ _ hF1 pF.symm, fun q hq => by cases hq⟩, by rw [List.take_zero]; rfl, (fun r hr => by cases hr), fun r hr => by cases hr⟩ (fun i σ H3 hi h => by
        obtain ⟨_, _, _, _, _, _, _, h, _⟩ := h
        exact .inl (.inl h)) ?_ ?_
    · rintro i x σ H3 hx ⟨v4, v5, v6, BR, rfl, u3, B3, hZ3, hb3, hn3, hi3, hl3⟩
      rw [List.getElem?_map] at hx
      obtain ⟨n, hn, rfl⟩ := Option.map_eq_some_iff.mp hx
      have hR3 : RowsAt H3 l AR := hR.upto hB hlp u3
      -- course
      refine ⟨_, rfl, _, rfl, _, rfl, p, l, _, rfl, B3, hlp, .inl (.inl hR3.lst), by rw [List.length_map]; omega, by rw [List.length_map]; omega, fun j v xs hv hx4 => ?_⟩
      have hj : j < AR.length := by
        have := (List.getElem?_eq_some_iff.mp hv).1
        rw [List.length_map] at this
        exact this
      have ev := row_at hv hj
      subst ev
      have u4 : Upto p H (upd H3 p (.lst xs)) := u3.trans Upto.at_
      have B4 : BagAt (upd H3 p (.lst xs)) p := ⟨xs, upd_same, hx4⟩
      have hZ4 : (upd H3 p (.lst xs)) Z = some (.lst (ns.map V.str)) := by rw [upd_ne zp]; exact hZ3
      have hb4 : BRows (upd H3 p (.lst xs)) F0 BR := hb3.upto B3 pF.symm Upto.at_
      have hR4 : RowsAt (upd H3 p (.lst xs)) l AR := hR3.upto B3 hlp Upto.at_
      generalize upd H3 p (.lst xs) = H4 at u4 B4 hZ4 hb4 hR4
      have hym : AR[j].2.1 ∈ namesOf AR := List.mem_map.mpr ⟨_, List.mem_map.mpr ⟨_, List.getElem_mem hj, rfl⟩, rfl⟩
      refine ⟨AR[j].1, _, _, _, rfl, rfl, .inl (.inl (hR4.tup _ (List.getElem_mem hj))), atI_nat (j := 0) rfl, l, AR, AR[j].2.1, rfl, hR4, hG, hym, fun H5 c s5 hc0 hc => ?_⟩
      have B5 : BagAt H5 p := by
        obtain ⟨b4, hb, hv⟩ := B4
        exact ⟨b4, s5 _ _ hb, hv⟩
      have u5 : Upto p H H5 := u4.trans (Upto.of s5)
      have hZ5 := s5 _ _ hZ4
      have hb5 := hb4.same s5
      have cp : c ≠ p := by
        obtain ⟨b4, hb, hv⟩ := B4
        exact (ne_of_none hb hc0).symm
      obtain ⟨mc, hcs⟩ := course_is hG hym
      have hcl := hcs.len
      have hc1 := hcs.one
      have hc2 := hcs.most
      -- at
      refine ⟨_, rfl, _, rfl, c, _, rfl, .inl (.inl (.inl hc)), _, _, rfl, rfl, p, _, rfl, B5, ?_, ?_, fun r xs6 hr0 hr1 hx6 => ?_⟩
      · rw [List.length_map]; omega
      · rw [List.length_map]; omega
      rw [List.length_map, hcl] at hr1
      obtain ⟨rn, rfl⟩ : ∃ rn : Nat, r = (rn : Int) := ⟨r.toNat, by omega⟩
      have u6 : Upto p H (upd H5 p (.lst xs6)) := u5.trans Upto.at_
      have B6 : BagAt (upd H5 p (.lst xs6)) p := ⟨xs6, upd_same, hx6⟩
      have hZ6 : (upd H5 p (.lst xs6)) Z = some (.lst (ns.map V.str)) := by rw [upd_ne zp]; exact hZ5
      have hb6 : BRows (upd H5 p (.lst xs6)) F0 BR := hb5.upto B5 pF.symm Upto.at_
      have hc6 : (upd H5 p (.lst xs6)) c = some (.lst ((course (rowsOf AR) AR[j].2.1).map V.str)) := by rw [upd_ne cp]; exact hc
      show Ends.nx _ _ (upd H5 p (.lst xs6))
      generalize upd H5 p (.lst xs6) = H6 at u6 B6 hZ6 hb6 hc6
      have hBl : BR.length = i := by
        have h1 := congrArg List.length hn3
        rw [List.length_map, List.length_map, List.length_take] at h1
        have := (List.getElem?_eq_some_iff.mp hn).1
        omega
      have hnl2 := (List.getElem?_eq_some_iff.mp hn).1
      have h0 : (course (rowsOf AR) AR[j].2.1)[0]? = some AR[j].2.1 := by
        rw [hcs.eq, List.getElem?_map, List.getElem?_range (by omega)]
        rfl
      have fin : ∀ y : Str, (y = "sea" ∨ y ∈ course (rowsOf AR) AR[j].2.1) → ∀ t, H6 t = none → (upd H6 t (.tup [.str n, .str AR[j].2.1, .str y])) F0 = some (.lst (BR.map fun q => V.ref q.1)) ∧ (BR.map fun q => V.ref q.1).length < sizeLine ∧ ∃ v4 v5 v6 BR', [some (V.ref p), some (.ref l), some (.int (m : Int)), some (.ref F0), some (.str n), some (.ref c), some (.int (rn : Int))] = [some (V.ref p), some (.ref l), some (.int (m : Int)), some (.ref F0), v4, v5, v6] ∧
          Upto p H (upd (upd H6 t (.tup [.str n, .str AR[j].2.1, .str y])) F0 (.lst ((BR.map fun q => V.ref q.1) ++ [.ref t]))) ∧ BagAt (upd (upd H6 t (.tup [.str n, .str AR[j].2.1, .str y])) F0 (.lst ((BR.map fun q => V.ref q.1) ++ [.ref t]))) p ∧ (upd (upd H6 t (.tup [.str n, .str AR[j].2.1, .str y])) F0 (.lst ((BR.map fun q => V.ref q.1) ++ [.ref t]))) Z = some (.lst (ns.map V.str)) ∧
          BRows (upd (upd H6 t (.tup [.str n, .str AR[j].2.1, .str y])) F0 (.lst ((BR.map fun q => V.ref q.1) ++ [.ref t]))) F0 BR' ∧ rnm (bOf BR') = ns.take (i + 1) ∧ (∀ r ∈ bOf BR', r.2.1 ∈ namesOf AR) ∧ ∀ r ∈ bOf BR', r.2.2 = "sea" ∨ r.2.2 ∈ course (rowsOf AR) r.2.1 := fun y hy t nt => by
        have tF : F0 ≠ t := ne_of_none hb6.lst nt
        obtain ⟨b6, hb6', hv6⟩ := B6
        have tp : p ≠ t := ne_of_none hb6' nt
        have tZ : Z ≠ t := ne_of_none hZ6 nt
        refine ⟨by rw [upd_ne tF]; exact hb6.lst, by rw [List.length_map]; exact small1000 (by omega), _, _, _, BR ++ [(t, (n, AR[j].2.1, y))], rfl, fun b o hb hne => ?_, ⟨b6, by rw [upd_ne pF, upd_ne tp]; exact hb6', hv6⟩, by rw [upd_ne zF, upd_ne tZ]; exact hZ6, ⟨by rw [upd_same, List.map_append]; rfl, fun q hq => ?_⟩, ?_, fun r hr => ?_, fun r hr => ?_⟩
        · rw [upd_ne (ne_of_none hb hF), upd_ne (ne_of_none (u6 _ _ hb hne) nt)]
          exact u6 _ _ hb hne
        · rcases List.mem_append.mp hq with e | e
          · have h4 := hb6.tup q e
            rw [upd_ne (ne_of h4 hb6.lst (fun z => by cases z)), upd_ne (ne_of_none h4 nt)]
            exact h4
          · rw [List.mem_singleton.mp e, upd_ne tF.symm, upd_same]
        · rw [bOf_snoc]
          show (bOf BR ++ [(n, AR[j].2.1, y)]).map (·.1) = _
          rw [List.map_append]
          show rnm (bOf BR) ++ [n] = _
          rw [hn3, List.take_add_one, hn]
          rfl
        · rw [bOf_snoc] at hr
          rcases List.mem_append.mp hr with e | e
          · exact hi3 r e
          · rw [List.mem_singleton.mp e]
            exact hym
        · rw [bOf_snoc] at hr
          rcases List.mem_append.mp hr with e | e
          · exact hl3 r e
          · rw [List.mem_singleton.mp e]
            exact hy
      refine ⟨_, rfl, .inl ⟨rfl, _, .inl (.inl hb6.lst)⟩, _, rfl, _, rfl, c, _, _, .str AR[j].2.1, rfl, rfl, .inl (.inl hc6), at_of (j := 0) (by decide) (by rw [List.getElem?_map, h0]; rfl), ?_⟩
      refine ⟨_, rfl, _, rfl, c, _, rfl, .inl (.inl (.inl hc6)), _, _, rfl, rfl, _, rfl, ?_⟩
      refine ite2 (fun hcc => ?_) (fun hcc => ?_)
      · have hrl : rn < (course (rowsOf AR) AR[j].2.1).length := by
          have := of_decide_eq_true hcc
          rw [List.length_map] at this
          omega
        refine ⟨_, rfl, _, rfl, c, _, _, .str (course (rowsOf AR) AR[j].2.1)[rn], rfl, rfl, .inl (.inl hc6), at_of (j := rn) (by omega) (by rw [List.getElem?_map, List.getElem?_eq_getElem hrl]; rfl), by show 3 ≤ sizeLine; decide, fun t nt => ?_⟩
        obtain ⟨f1, f2, f3⟩ := fin _ (.inr (List.getElem_mem hrl)) t nt
        exact ⟨F0, _, _, rfl, rfl, f1, f2, f3⟩
      · refine ⟨by show 3 ≤ sizeLine; decide, fun t nt => ?_⟩
        obtain ⟨f1, f2, f3⟩ := fin "sea" (.inl rfl) t nt
        exact ⟨F0, _, _, rfl, rfl, f1, f2, f3⟩
    · rintro σ H3 ⟨v4, v5, v6, BR, rfl, u3, B3, hZ3, hb3, hn3, hi3, hl3⟩
      rw [List.length_map, List.take_length] at hn3
      have hBl : BR.length = m := by
        have h1 := congrArg List.length hn3
        rw [List.length_map, List.length_map] at h1
        omega
      exact ⟨_, rfl, k H3 F0 BR u3 B3 hF pF.symm hb3 ⟨by show (rnm (bOf BR)).Nodup; rw [hn3]; exact hok.nd, fun r hr => hok.ok _ (by rw [← hn3]; exact List.mem_map.mpr ⟨r, hr, rfl⟩), hi3, hl3, by rw [List.length_map]; omega⟩ hBl⟩
theorem ok_lway {f fC : Addr} {fd fdC : FuncData} (F : FnP K "_law_way" sLWay f fd) (F_law_course : FnP K "_law_course" sLCourse fC fdC) (g_law_course : mg "_law_course" = some (.ref fC)) (B : Bl mg) : FnOk P w K mg base CX0 2 f fd ["_law_rows", "_law_right"] spLWay := by
  have G_law_course : FnOk P w K mg base CX0 1 fC fdC ["_law_rows", "_law_weir"] spLCourse := ok_lcourse F_law_course B
  have b_law_course : Binds K fdC ["_law_rows", "_law_weir"] [] := F_law_course.bindsN fun _ _ _ _ _ _ us hl => match us, hl with | [_, _], _ => rfl
  refine F.ok scLWay (fun vs H Q E h => ?_) (fun cdv A outer s H vs Q E hr h => ?_)
  · obtain ⟨l, t, AR, r, rfl, _⟩ := h
    rfl
  · obtain ⟨l, t, AR, r, rfl, hR, hG, ht, hi, hl, k⟩ := h
    have hr_law_course : Room 1 _ := hr
    refine ⟨_, PSs.nox (pss_cons
      (ps_set (i := 2) scLWay.nd rfl (Or.inl rfl) (pe_call G_law_course hr_law_course (by rfl) g_law_course F_law_course.kp b_law_course .nil pass0 (pa_cons (pv 0) (pa_cons (pe_ix (ixTK (K := K)) (pv 1) pe_int (fun _ _ => rfl)) pa_nil))))
      (pss_one
      (ps_ret (pe_ifExp (pt_cmpR op_eq (pe_ix (ixTK (K := K)) (pv 1) pe_int (fun _ _ => rfl)) pe_str (nomark _)) (pv 2) (pe_slice sl_list (pv 2) po_none (po_some (pe_op op_add (pe_bm PySem.F.plainAttrs_list PySem.F.slot_list_index PySem.F.type_list_index mt_index (pv 2) (pa_cons (pe_ix (ixTK (K := K)) (pv 1) pe_int (fun _ _ => rfl)) pa_nil)) pe_int))))))), ?_⟩
    refine ⟨_, rfl, _, rfl, t, _, _, _, rfl, rfl, .inl (.inl ht), atI_nat (j := 1) rfl, l, AR, r.2.1, rfl, hR, hG, hi, fun H1 c s1 hc0 hc => ?_⟩
    have ht1 := s1 _ _ ht
    refine ⟨_, rfl, t, _, _, _, rfl, rfl, .inl (.inl ht1), atI_nat (j := 2) rfl, rfl, _, rfl, ?_⟩
    refine ite2 (fun e => ?_) (fun e => ?_)
    · have e : r.2.2 = "sea" := V.str.inj (of_decide_eq_true e)
      refine ⟨_, rfl, k H1 c s1 hc0 ?_⟩
      unfold wayB
      rw [if_pos e]
      exact hc
    · have e : ¬ r.2.2 = "sea" := fun z => e (decide_eq_true (congrArg V.str z))
      have hin := hl.resolve_left e
      have hlt := List.idxOf_lt_length_iff.mpr hin
      have hat : ((course (rowsOf AR) r.2.1).map V.str)[(course (rowsOf AR) r.2.1).idxOf r.2.2]? = some (.str r.2.2) := by
        rw [List.getElem?_map, List.getElem?_eq_getElem hlt, List.getElem_idxOf]
        rfl
      have hfst : ∀ (m : Nat) (z : V), m < (course (rowsOf AR) r.2.1).idxOf r.2.2 → ((course (rowsOf AR) r.2.1).map V.str)[m]? = some z → eqV z (.str r.2.2) = false := fun m z hm e2 => by
        rw [List.getElem?_map] at e2
        obtain ⟨y, hy, rfl⟩ := Option.map_eq_some_iff.mp e2
        rw [eqV_str]
        refine decide_eq_false fun e3 => ?_
        have q := List.not_of_lt_findIdx (p := fun z => z == r.2.2) (xs := course (rowsOf AR) r.2.1) hm
        obtain ⟨hml, e4⟩ := List.getElem?_eq_some_iff.mp hy
        rw [e4, e3, beq_self_eq_true] at q
        cases q
      refine ⟨_, rfl, _, rfl, .inl ⟨rfl, _, .inl (.inl hc)⟩, _, rfl, t, _, _, .str r.2.2, rfl, rfl, .inl (.inl ht1), atI_nat (j := 2) rfl, ?_⟩
      refine ⟨c, _, .str r.2.2, _, .str r.2.2, rfl, rfl, .inl (.inl hc), rfl, flat_strs _, hat, by rw [eqV_str]; exact decide_eq_true rfl, hfst, ?_⟩
      refine ⟨_, _, rfl, rfl, _, rfl, c, _, rfl, .inl (.inl hc), fun z nz => ?_⟩
      refine k _ z (s1.trans (same_upd nz)) ?_ ?_
      · cases e : H z with
        | none => rfl
        | some o =>
          rw [s1 _ _ e] at nz
          cases nz
      · rw [upd_same]
        unfold wayB
        rw [if_neg (by assumption)]
        have e9 : (((course (rowsOf AR) r.2.1).idxOf r.2.2 : Nat) : Int) + 1 = (((course (rowsOf AR) r.2.1).idxOf r.2.2 + 1 : Nat) : Int) := by omega
        rw [e9, cut_take, List.map_take]
end
end K0
end
section
set_option Elab.async false
set_option linter.all false
set_option maxRecDepth 100000
set_option maxHeartbeats 4000000
namespace L2
open PySem PySem.Spec PyProof.Rows
section
variable {X : Cx} {K : PySem.W.Frag} {tg l : Expr} {tl : TE}
theorem anyK (hc : X.calm = true) (e : X.K = K := by rfl) : CallR X (.builtin "any") (rAny K) := e ▸ cr_any hc
theorem allK (hc : X.calm = true) (e : X.K = K := by rfl) : CallR X (.builtin "all") (rAll K) := e ▸ cr_all hc
theorem pi_listK (hl : PE X l tl) (e : X.K = K := by rfl) : PI X tg l (iList K tl) := e ▸ pi_list hl
theorem pi_tupK (hl : PE X l tl) (e : X.K = K := by rfl) : PI X tg l (iTup K tl) := e ▸ pi_tup hl
end
end L2
namespace K0
open PySem PySem.Spec PyProof.Rows L2
theorem tyes_i {σ : L2.St} {H : Hp} {Q : Bool → Hp → Prop} (h : Q true H) : tYes σ H Q := h
theorem cut_drop (xs : List V) (m : Nat) : cutV xs (some (m : Int)) none = xs.drop m := by
  unfold cutV
  rw [HT.sIx_nat, HT.sIx_none]
  rcases Nat.le_total m xs.length with h | h
  · rw [Nat.min_eq_left h, List.take_of_length_le]
    rw [List.length_drop]
    exact Nat.le_refl _
  · rw [Nat.min_eq_right h, List.drop_of_length_le (Nat.le_refl _), List.drop_of_length_le h]
    simp
/-! ### need_different: of names that are there -/
theorem scNeedDiff : FnScope ["rights", "names", "seen", "name"] ["rights", "names"] (defScope sNeedDiff) := ⟨rfl, rfl, rfl, by decide +kernel, rfl, by decide +kernel, by decide +kernel⟩
def spNeedDiff (Cg Cr : Addr) : Sp := fun vs H Q _ => ∃ (p q l : Addr) (xs : List Str) (AR : List (Addr × Row)) (BR : List (Addr × RRow)), vs = [.ref p, .ref l] ∧ RigOk Cg Cr H p q AR BR ∧ H l = some (.lst (xs.map V.str)) ∧ (∀ x ∈ xs, x ∈ rnm (bOf BR)) ∧ xs.Nodup ∧ xs.length ≤ 40 ∧ ∀ H', Same H H' → Q .non H'
section
variable {P : Program} {w : World} {K : PySem.W.Frag} {mg : Str → Option Value} {base : Heap} {tS tM tL : Tok}
theorem ok_needdiff {f Cg Cr : Addr} {fd : FuncData} (F : FnP K "need_different" sNeedDiff f fd) (M : Gm K Cg) (TG : Rg K mg Cg) (B : Bl mg) : FnOk P w K mg base CX0 2 f fd ["rights", "names"] (spNeedDiff Cg Cr) := by
  obtain ⟨fC, fdC, FC, hs, hf⟩ := M.has
  have GC : FnOk P w K mg base CX0 1 fC fdC ["self", "x"] (spHas (GHasG Cg Cr)) := ok_gcontains FC TG B
  have bC : Binds K fdC ["self", "x"] [] := FC.bindsN fun _ _ _ _ _ _ us hl => match us, hl with | [_, _], _ => rfl
  refine F.ok scNeedDiff (fun vs H Q E h => ?_) (fun cdv A outer s H vs Q E hr h => ?_)
  · obtain ⟨p, q, l, xs, AR, BR, rfl, _⟩ := h
    rfl
  · obtain ⟨p, q, l, xs, AR, BR, rfl, R, hl, hx, hnd, hxl, k⟩ := h
    have hu := hu_of hr
    refine ⟨_, PSs.nox (pss_cons
      (ps_set (i := 2) scNeedDiff.nd rfl (Or.inl rfl) pe_dnewK)
      (pss_one
      (ps_for PassesOwn.never rfl (pi_list (pv 1)) (pg_name (i := 3) scNeedDiff.nd rfl (Or.inl rfl)) (pss_cons
      (ps_if (PW.pt (pw_or (pt_cmpR (k0_notIn_own (K := K) GC hr hs hf bC) (pv 3) (pv 0) (by rfl)) (pw_or1 (pt_cmp (pc_din hu (pv 3) (pv 2)))))) (pss_one
      ps_never) pss_nil)
      (pss_one
      (ps_dput hu (pv 2) (pv 3) pe_bl rfl)))))), ?_⟩
    intro D hD
    have s0 : Same H (upd H D (.dK [])) := same_upd hD
    refine ⟨_, rfl, l, rfl, ⟨_, .inl (.inl (s0 _ _ hl))⟩, ?_⟩
    refine for_list (K := K) (a := l) (xs := xs.map V.str) (fun i σ H2 => ∃ v3, σ = [some (.ref p), some (.ref l), some (.ref D), v3] ∧ Same H H2 ∧ H2 D = some (.dK (kmap (fun _ => .bl true) (xs.take i))))
      ⟨none, rfl, s0, by rw [upd_same, List.take_zero]; rfl⟩ (fun i σ H2 hi h => by
        obtain ⟨_, _, s, _⟩ := h
        exact .inl (.inl (s _ _ hl))) ?_ ?_
    · rintro i x σ H2 hxi ⟨v3, rfl, s2, hD2⟩
      rw [List.getElem?_map] at hxi
      obtain ⟨n, hn, rfl⟩ := Option.map_eq_some_iff.mp hxi
      have hnm := hx n (List.mem_of_getElem? hn)
      have hnot : n ∉ xs.take i := nodup_take hnd hn
      obtain ⟨dx, tn, tr, dw, dl, dp, h1, _⟩ := id (R.same s2).at_.ex
      refine ⟨_, rfl, _, rfl, p, dx, _, true, rfl, h1, ⟨q, AR, BR, n, (R.same s2).at_, rfl, (decide_eq_true hnm).symm⟩, _, rfl, ?_⟩
      refine iteF ?_
      refine ⟨_, rfl, _, rfl, D, _, rfl, DGet.k (k := Sum.inr n) hD2, _, rfl, ?_⟩
      rw [kmap_not hnot]
      refine iteF ?_
      refine ⟨_, rfl, _, rfl, D, _, rfl, DPut.k (k := Sum.inr n) hD2 ?_, ?_⟩
      · rw [kmap_len, List.length_take]
        exact small1000 (by omega)
      · refine ⟨_, rfl, fun b o hb => ?_, ?_⟩
        · rw [upd_ne (ne_of_none hb hD)]
          exact s2 b o hb
        · have := kmap_put (f := fun _ => .bl true) hnot
          rw [upd_same, this, List.take_add_one, hn]
          rfl
    · rintro σ H2 ⟨v3, rfl, s2, hD2⟩
      exact k H2 s2
end
end K0
end
section
set_option Elab.async false
set_option linter.all false
set_option maxRecDepth 100000
namespace PySem
open Sem PySem.Spec PyProof.Rows
/-! ### list.__repr__, whatever is under way -/
theorem k0_list_head {M : Model} {A : Around} {E : Value → Shared → Prop} {s : Shared} {Q : Fin → Shared → Prop} {a : Addr} {o : Obj} {x : Value} {l : List Value} {n} {b : Nat}
    (hget : s.heap.get? a = some o) (hd : o.data = .seq (x :: l).toArray n)
    (h : wpAny M A (do again (.builtin "list.__repr__.loop" ⟨[.ref a, rawInt 0, ← newList [], rawInt b], []⟩)) Q E s)
    (h2 : wpAny M A (do rule "list.__repr__.in-itself"; retStr "[...]") Q E s) : wpAny M A (Builtin.listReprAt b ⟨[.ref a], []⟩) Q E s := by
  intro Γ p hΓ
  have q1 := h Γ p hΓ
  have q2 := h2 Γ p hΓ
  unfold Builtin.listReprAt
  simp [slotArgs, Builtin.List.listItems, seqItems?, wp_load_of (h := hget), hd, stack]
  show wp M Γ (if (Γ.below.any _) = true then _ else _) _ _ p s
  split
  · exact q2
  · exact q1
section
variable {prog : Program} {w : World} {A : Around} {E : Value → Shared → Prop} {s : Shared} {a : Addr} {oa : Obj} {x : Value} {l : List Value} {na : Nat} {ts : List Str}
theorem k0_way : ("[...]" : Str).length ≤ 5 := by decide +kernel
theorem k0_list_fin {R : Result → Shared → Prop} {b : Nat}
    (ha : s.heap.get? a = some oa) (hda : oa.data = .seq (x :: l).toArray na) (hlen : ts.length = (x :: l).toArray.size)
    (hT : ∀ (i : Nat) (y : Value), (x :: l).toArray[i]? = some y → ∃ t, ts[i]? = some t ∧ ReprIs prog w y t)
    (hR : ∀ h' (m : Str) (u : Tok) tk, m.length ≤ (listText ts).length + 5 → (∀ b o, s.heap.get? b = some o → h'.get? b = some o) → R (.ok (.ret (.str m u))) { s with heap := h', toks := tk })
    (hsz : b + (listText ts).length ≤ sizeLine) :
    wpAny (model prog w) A.in1 (Builtin.listReprAt b ⟨[.ref a], []⟩)
      (fun fin s' => match fin with | .done f => R (.ok f) s' | .again c' => c'.quiet = true ∧ codeAny (model prog w) A c' R s') (fun e s' => R (.error e) s') s := by
  refine k0_list_head (A := A.in1) ha hda ?_ ?_
  · refine wpAny_bind (m := newList []) (wpAny_newObj_type ?_)
    refine wpAny_pure ⟨F.quiet_list_repr_loop _, ?_⟩
    refine codeAny_list_repr_start (P := s.heap.objs.size) (Nat.ne_of_lt (Heap.lt_size ha)) hlen hT (Heap.get?_push_of_some _ ha) hda (Heap.get?_push_size _ rfl) (fun h' u tk hk => ?_) hsz
    exact hR h' (listText ts) u tk (Nat.le_add_right _ _) fun b o e => hk b o (Nat.ne_of_lt (Heap.lt_size e)) (Heap.get?_push_of_some _ e)
  · refine wpAny_bind (wpAny_rule ?_)
    refine wpAny_bind (wpAny_mkStr (wpAny_pure ?_) (by decide +kernel))
    exact hR s.heap "[...]" _ _ (Nat.le_trans k0_way (Nat.le_add_left _ _)) fun _ _ e => e
theorem k0_list_repr {Q : Value → Shared → Prop} (hTy : s.TypeIs (.ref a) "list") (hu : A.units < cLine)
    (ha : s.heap.get? a = some oa) (hda : oa.data = .seq (x :: l).toArray na) (hlen : ts.length = (x :: l).toArray.size)
    (hT : ∀ (i : Nat) (y : Value), (x :: l).toArray[i]? = some y → ∃ t, ts[i]? = some t ∧ ReprIs prog w y t)
    (hQ : ∀ h' (m : Str) (u : Tok) tk, m.length ≤ (listText ts).length + 5 → (∀ b o, s.heap.get? b = some o → h'.get? b = some o) → Q (.str m u) { s with heap := h', toks := tk })
    (hsz : (listText ts).length ≤ sizeLine) : wpAny (model prog w) A (pyReprObj (.ref a)) Q E s := by
  refine wpAny_pyReprObj_slot hu hTy F.slot_list_repr.toG ?_
  refine wpAny_call (codeAny_call_builtin F.slot_list_repr.plain F.entry_list_repr (F.slot_list_repr.check _ _ _ _ _ _ _ _ hTy (F.args_list_repr_1 _)
    (k0_list_fin (b := 0) (R := fun r s' => match r with | .ok (.ret v) => ∃ x t, v = .str x t ∧ Q v s' | .ok _ => False | .error e => E e s') ha hda hlen hT (fun h' m u tk hm k => ⟨m, u, rfl, hQ h' m u tk hm k⟩) (by omega))))
end
end PySem
namespace L2
open PySem PySem.Spec PyProof.Rows
/-! ### {x!r} of a value that is no weir -/
def Plain (y : Str) : Prop := ∀ c ∈ y.cps.toList, c < 1114112
theorem Plain.hex {y : Str} (h : Plain y) : ∀ c ∈ y.cps.toList, c < 16 ^ 8 := fun c hc => Nat.lt_trans (h c hc) (by decide)
/-- values whose text is short: texts, None, a bool, a whole number, lists and tuples of texts -/
inductive Shown (K : PySem.W.Frag) (H : Hp) : V → Prop where
  | str (y : Str) (h : Plain y) (z : y.length ≤ 1000) : Shown K H (.str y)
  | non : Shown K H .non
  | bl (b : Bool) : Shown K H (.bl b)
  | int (i : Int) (h : i.natAbs.log2 < 1920) (z : (Str.ofString (toString i)).length ≤ 30000) : Shown K H (.int i)
  | lst {a : Addr} {l : List Str} (e : H a = some (.lst (l.map V.str))) (h : ∀ y ∈ l, Plain y) (z : fmtCost l ≤ 20000) : Shown K H (.ref a)
  | tup {a : Addr} {l : List Str} (e : H a = some (.tup (l.map V.str))) (h : ∀ y ∈ l, Plain y) (z : fmtCost l ≤ 20000) : Shown K H (.ref a)
theorem Shown.same {K : PySem.W.Frag} {H H' : Hp} {x : V} (h : Shown K H x) (s : ∀ b o, H b = some o → (∀ z1 z2 z3, o ≠ .ins z1 z2 z3) → H' b = some o) : Shown K H' x := by
  cases h with
  | str y h z => exact .str y h z
  | non => exact .non
  | bl b => exact .bl b
  | int i h z => exact .int i h z
  | lst e h z => exact .lst (s _ _ e (fun _ _ _ q => by cases q)) h z
  | tup e h z => exact .tup (s _ _ e (fun _ _ _ q => by cases q)) h z
def tShow (K : PySem.W.Frag) (te : TE) : TE := fun σ H Q => te σ H fun x H1 => Shown K H1 x ∧ ∀ m : Str, m.length ≤ 30000 → Q (.str m) H1
section
variable {X : Cx}
theorem piled_sum : ∀ ts : List Str, (ts.map (·.length)).sum + 2 * ts.length = piled ts
  | [] => rfl
  | t :: r => by
    have ih := piled_sum r
    rw [piled_cons, List.map_cons, List.sum_cons, List.length_cons]
    omega
theorem list_text (ts : List Str) : (listText ts).length ≤ piled ts + 2 := by
  have e2 : ((("]" : String) : Str)).length = 1 := rfl
  have h := textFrom_len_le ts 0 "["
  have e1 : ((("[" : String) : Str)).length = 1 := rfl
  have h3 := piled_sum ts
  show (textFrom 0 "[" ts ++ "]").length ≤ _
  rw [strLen_append, e2]
  omega
theorem k0_30 : 30000 ≤ sizeLine := by rw [sizeLine_eq]; omega
theorem pe_show {e : Expr} {te : TE} {pos : Pos} {k : Nat} (hr : Room k X.A) (he : PE X e te) : PE X (.FormattedValue e 114 none pos) (tShow X.K te) := by
  refine ⟨fun pins s σ H Q I h => ?_⟩
  refine wpAny_FormattedValue_repr (thn (he.run pins s σ H _ I h) fun v s1 hv => ?_)
  obtain ⟨x, H1, I1, r1, sh, q⟩ := hv
  have hu := hr.units
  have fin : ∀ (m : Str) (t : Tok) (s2 : Shared), Inv X pins σ H1 s2 → m.length ≤ 30000 → wpAny (model X.prog X.w) X.A (formatField (.str m t) Str.empty) (EP X pins σ Q) X.xe s2 := fun m t s2 I2 hm =>
    wpAny_formatField_str ⟨.str m, H1, I2, ⟨t, rfl⟩, q m hm⟩ ⟨.str m, H1, I2.tok _, ⟨_, rfl⟩, q m hm⟩ (Nat.le_trans hm k0_30)
  cases sh with
  | str y hc z =>
    obtain ⟨t, rfl⟩ := r1
    have h1 := StrLaws.reprText_len y hc.hex
    exact pyReprObj_str (fin _ _ _ (I1.tok _) (by omega)) (by have := k0_30; omega)
  | non =>
    cases r1
    exact pyReprObj_none (fin _ _ _ (I1.tok _) (by decide +kernel))
  | bl b =>
    cases r1
    refine pyReprObj_bool (fin _ _ _ (I1.tok _) ?_)
    cases b <;> decide +kernel
  | int i hi z =>
    obtain ⟨t, rfl⟩ := r1
    exact pyReprObj_int hi (fin _ _ _ (I1.tok _) z)
  | @lst a l ea hc z =>
    cases r1
    have hp := fmt_piled l fun y hy => (hc y hy).hex
    have ht := list_text (l.map reprText)
    have h30 := k0_30
    obtain ⟨u1, its, n, rv, ho⟩ := (show ObjOk X.prog X.w H1 s1.heap a (.lst (l.map V.str)) from I1.hok a _ ea)
    have hl : ∀ y ∈ l, (reprText y).length ≤ sizeLine := fun y hy => by
      have h1 := StrLaws.reprText_len y (hc y hy).hex
      have h2 := fmtCost_mem hy
      omega
    have hT : ∀ (i : Nat) (y : Value), its.toArray[i]? = some y → ∃ t, (l.map reprText)[i]? = some t ∧ ReprIs X.prog X.w y t := fun i y hy => by
      rw [List.getElem?_toArray] at hy
      have hlen := rv.length
      have hi : i < its.length := (List.getElem?_eq_some_iff.mp hy).1
      rw [List.length_map] at hlen
      have hi2 : i < l.length := by omega
      have e1 : (l.map V.str)[i]? = some (V.str l[i]) := by rw [List.getElem?_map, List.getElem?_eq_getElem hi2]; rfl
      obtain ⟨u, hu2, ru⟩ := rv.get e1
      rw [hy] at hu2
      have e2 := Option.some.inj hu2
      subst e2
      obtain ⟨t, rfl⟩ := ru
      exact ⟨reprText l[i], by rw [List.getElem?_map, List.getElem?_eq_getElem hi2]; rfl, ReprIs.str l[i] t (hl _ (List.getElem_mem hi2))⟩
    have hlen : (l.map reprText).length = its.toArray.size := by
      have hlen := rv.length
      rw [List.length_map] at hlen
      rw [List.length_map, List.size_toArray]
      exact hlen
    cases its with
    | nil => exact wpAny_pyReprObj_list_empty ⟨_, ho, rfl⟩ (by omega) ho rfl (fin _ _ _ (I1.tok _) (by decide +kernel))
    | cons u0 us => exact k0_list_repr ⟨_, ho, rfl⟩ (by omega) ho rfl hlen hT (fun h' m u tk hm k => fin m u _ (I1.kept k) (by omega)) (by omega)
  | @tup a l ea hc z =>
    cases r1
    have hp := fmt_piled l fun y hy => (hc y hy).hex
    have ht := fmt_text (l.map reprText)
    have h30 := k0_30
    obtain ⟨u1, its, rv, o, ho, hcl, n, hd⟩ := (show ObjOk X.prog X.w H1 s1.heap a (.tup (l.map V.str)) from I1.hok a _ ea)
    have hl : ∀ y ∈ l, (reprText y).length ≤ sizeLine := fun y hy => by
      have h1 := StrLaws.reprText_len y (hc y hy).hex
      have h2 := fmtCost_mem hy
      omega
    refine wpAny_pyReprObj_slot (by omega) ⟨o, ho, hcl⟩ F.slot_tuple_repr ?_
    exact fmt_tuple_repr (ts := l.map reprText) ho hcl hd (repr_all rv hl) (by omega) fun m u tk hm => ⟨m, u, rfl, fin m u _ (I1.tok _) (by omega)⟩
end
end L2
end
section
set_option Elab.async false
set_option linter.all false
set_option maxRecDepth 100000
set_option maxHeartbeats 1000000
namespace L2
open PySem PySem.Spec PyProof.Rows
open PySem.W (kxs_mw ks_superObj)
/-! ### an own exception whose __init__ says super().__init__(e) and self.f = v -/
/-- such an __init__, as the top has made it: C its class -/
structure SupF (P : Program) (K : PySem.W.Frag) (mg : Str → Option Value) (C : Addr) (x qual : Str) (params : Arguments) (body : List Stmt) (scope : Scope) (f : Addr) (fd : FuncData) : Prop where
  ex : ∃ (oc : Value) (od : Option Addr) (doc pm : Value) (cda : Addr) (ct : Value) (cc : Addr) (osl : Array (Option Value)),
    fd = PySem.W.ksFn x qual params body scope .none .none doc pm none (.ref cda) ct cc ∧ K.lookup f = some ⟨oc, od, .func fd, osl⟩ ∧ PySem.W.codeIn K (.ref cda) qual = true ∧
    (∃ (ccl : Value) (cdd : Option Addr) (vs : Array Value) (ccs : Array (Option Value)) (file : Str) (tf : Tok), K.lookup cda = some ⟨ccl, cdd, .fields vs, ccs⟩ ∧ vs[2]? = some (.str file tf) ∧ ((P.main.file : Str) == file) = true) ∧
    ∃ (cl : Value) (cld : Option Addr) (csl : Array (Option Value)), K.lookup cc = some ⟨cl, cld, .cell (some (.ref C)), csl⟩
  top : (P.main.scope.names.lookup ("super" : Str)).isSome = false
  exc : OexC K C
  sub : PySem.W.mroIn K C (.ref C) = some true
  subV : PySem.W.subIn K (.ref C) (.type "ValueError") = some true
  sup : PySem.W.ks_superIn K C C "__init__" = some (some (.builtin "ValueError.__init__"))
  opq : PySem.W.nsIn K cStatics "thirdparty.any" = some none
  sg : mg "super" = none
section
variable {X : Cx} {pins : List (Addr × Obj)} {σ : St} {H : Hp} {s : Shared} {a C u : Addr} {E : Value → Shared → Prop} {A : Around}
/-- the built-in __init__, bound to the object, called -/
theorem k0_mw_call {us : List Value} {Q : Value → Shared → Prop} (T : OexC X.K C) (I : Inv X pins σ H s) (e : H a = some (exo a C none)) (hu : s.heap.get? u = some (kxs_mw "ValueError.__init__" a)) (hl : us.length ≤ sizeLine) (h : ∀ s', Inv X pins σ H s' → Q .none s') :
    wpAny (model X.prog X.w) A (call (.ref u) us) Q E s := by
  obtain ⟨nm, q, N, bs, bm, sn, sub, ab, col, dd, k0, k1, k2, k3, k5, hC, hbm⟩ := T.cls
  obtain ⟨t1, ho⟩ := exo_at I.hok e
  have hC' := I.kIn _ _ hC
  obtain ⟨hh, g, d, tk, os⟩ := s
  refine wpAny_call (codeAny_of_tree ?_)
  show wpAny _ A.in1 (callAny (.ref u) ⟨us, []⟩) _ _ _
  simp only [callAny]
  refine wpAny_bind (wpAny_load hu ?_)
  simp only [kxs_mw, show (Value.type "method-wrapper" == Value.type "method" || Value.type "method-wrapper" == Value.type "builtin_function_or_method" || Value.type "method-wrapper" == Value.type "method-wrapper") = true by decide, if_true]
  refine PySem.W.KFB.if_so (by decide) ?_
  refine wpAny_bind (PySem.W.check_bound_init F.excBase_ValueError.toExcCallFacts hC' ho rfl ?_)
  refine wpAny_bind (wpAny_pure (wpAny_pure ?_))
  refine ⟨plainId_quiet F.excBase_ValueError.init.plain _, codeAny_builtin F.excBase_ValueError.initEntry ?_⟩
  refine PySem.W.exc_init_tree (cls := .ref C) (t0 := t1) (dv := none) (c2 := .none) (c3 := .none) (b4 := .bool false) ho hl fun h' k e' t' => ?_
  have J := I.write (t' := tk) (x := a) (e := a) (o := exo a C none) (by rw [e]; exact True.intro) (.inl rfl) k ⟨_, e'⟩ (exo_ok e')
  have eu : upd H a (exo a C none) = H := by
    funext b
    by_cases hb : b = a
    · rw [hb, upd_same, e]
    · rw [upd_ne hb]
  rw [eu] at J
  exact h _ J
end

/-! ### its body walked -/
abbrev supScope : Scope := { kind := .function, names := [("self", .local), ("name", .local), ("__class__", .free), ("super", .globalImplicit)], isGenerator := false, isCoroutine := false, more := [] }
abbrev supN : List Str := ["self", "name", "__class__"]
theorem supNS : NdefX.NScope supN ["self", "name"] ["__class__"] supScope := NdefX.nscope_by (by decide +kernel)
def spSup (K : PySem.W.Frag) (C : Addr) : Sp := fun vs H Q _ => ∃ (a : Addr) (x : V), vs = [.ref a, x] ∧ H a = some (exo a C none) ∧ Shown K H x ∧
  ∀ dx, H dx = none → dx ≠ a → Q .non (upd (upd H dx (exd dx [(("name" : Str), x)])) a (exo a C (some dx)))
section
variable {P : Program} {w : World} {K : PySem.W.Frag} {mg : Str → Option Value} {base : Heap} {C f : Addr} {fd : FuncData} {x qual : Str} {params : Arguments}
theorem ok_sup {txt : Str} {n : Nat} {p0 p1 p2 p3 p4 p5 p6 p7 p8 p9 p10 p11 p12 : Pos} {ar : Arg} (hp : (params.posonlyargs ++ params.args).head? = some ar) (har : ar.arg = "self") (htx : txt.length ≤ 1000)
    (S : SupF P K mg C x qual params [.Expr (.Call (.Attribute (.Call (.Name "super" p0) [] [] p1) "__init__" p2) [.JoinedStr [.Constant (.str txt) n p3, .FormattedValue (.Name "name" p4) 114 none p5] p6] [] p7) p8, .Assign [.Attribute (.Name "self" p9) "name" p10] (.Name "name" p11) p12] supScope f fd)
    (hno : PySem.W.findIn K (.ref C) "name" = some none)
    (he : ∀ (q : Str) (L f0 : Addr) (cd : Value) (cl : List (Str × Addr)), ∃ pl : Sem Bool, eval (.Call (.Attribute (.Call (.Name "super" p0) [] [] p1) "__init__" p2) [.JoinedStr [.Constant (.str txt) n p3, .FormattedValue (.Name "name" p4) 114 none p5] p6] [] p7) (PySem.W.envX q supScope L f0 cd cl) = (do
      let ov ← attributeBase (.Call (.Name "super" p0) [] [] p1) "__init__" (PySem.W.envX q supScope L f0 cd cl) (eval (.Call (.Name "super" p0) [] [] p1) (PySem.W.envX q supScope L f0 cd cl))
      standAt p2.atName
      let (f, first) ← holding [ov] (getMethod ov "__init__" pl)
      callWith p7 f first (backTo p7 (starEach [.JoinedStr [.Constant (.str txt) n p3, .FormattedValue (.Name "name" p4) 114 none p5] p6] (PySem.W.envX q supScope L f0 cd cl))) [])) :
    FnOk P w K mg base CX0 1 f fd ["self", "name"] (spSup K C) := by
  obtain ⟨oc, od, doc, pm, cda, ct, cc, osl, rfl, lk, hcd, ⟨ccl, cdd, cvs, ccs, file, tf, hcode, hvs, hfile⟩, cl, cld, csl, hcell⟩ := S.ex
  refine ⟨fun vs H Q E h => ?_, fun A outer s H args us vs Q E hr e0 hb r hsp => ?_⟩
  · obtain ⟨a, y, rfl, _⟩ := h
    rfl
  obtain ⟨a, y, rfl, ha, sh, k⟩ := hsp
  have KX : K.In s.heap := e0.mod.kin.keeps fun b o e => (e0.bs b o e).1
  have lim : s.heap.NoLimit := e0.mod.nolimit.keeps fun b o e => (e0.bs b o e).1
  have kN : ∀ {b : Addr} {o : Obj}, K.lookup b = some o → H b = none := fun e => (e0.bs _ _ (e0.mod.kin _ _ e)).2
  refine ks_codeAny_call_defAt hr.depth (KX _ _ lk) rfl lim (PySem.W.codeRec_of KX hcd) rfl hb (show ∀ y ∈ supScope.names, y.2 ≠ .cell by decide) (fun ⟨n, v⟩ hy => ?_) (fun h₁ hns kp => ?_)
  · have := supNS.par n (List.of_mem_zip hy).1
    exact this
  have CA : NdefX.CellsAt [(("__class__" : Str), cc)] ["__class__"] [some (V.ref C)] s.heap H := {
    len := rfl
    all := fun y c e => by
      have e2 : c = cc := by
        by_cases hy : y = "__class__"
        · subst hy
          simpa [List.lookup] using e.symm
        · have : (y == ("__class__" : Str)) = false := by simpa using hy
          simp [List.lookup, this] at e
      subst e2
      exact ⟨kN hcell, ⟨_, ⟨_, KX _ _ hcell, rfl⟩⟩⟩
    inj := fun y1 y2 c e1 e2 => by
      have key : ∀ {y : Str}, List.lookup y [(("__class__" : Str), cc)] = some c → y = "__class__" := fun {y} e => by
        by_cases hy : y = "__class__"
        · exact hy
        · have : (y == ("__class__" : Str)) = false := by simpa using hy
          simp [List.lookup, this] at e
      rw [key e1, key e2]
    has := fun i y e => by
      cases i with
      | zero =>
        cases e
        refine ⟨cc, by simp [List.lookup], fun v e2 => ?_⟩
        cases e2
        exact ⟨.ref C, rfl, ⟨_, KX _ _ hcell, rfl⟩⟩
      | succ i => cases e }
  have I0 := NdefX.inv_startN (CX := CX0) (E := E) (f := f) (tk := s.toks + ((["self", "name"] : List Str).zip us).length) (F := ⟨x, qual, params, [.Expr (.Call (.Attribute (.Call (.Name "super" p0) [] [] p1) "__init__" p2) [.JoinedStr [.Constant (.str txt) n p3, .FormattedValue (.Name "name" p4) 114 none p5] p6] [] p7) p8, .Assign [.Attribute (.Name "self" p9) "name" p10] (.Name "name" p11) p12], supScope, [("__class__", cc)], cda⟩) supNS hr.hd e0 rfl r CA hns kp
  generalize hs1 : ({ s with heap := h₁, toks := s.toks + ((["self", "name"] : List Str).zip us).length } : Shared) = s1 at I0
  obtain ⟨pl, hpl⟩ := he qual s.heap.objs.size f (.ref cda) [(("__class__" : Str), cc)]
  refine ks_wpAt_execs_cons (ks_wpAt_Expr_any (ks_wpAt_MethodCall (pl := pl) ?_ hpl))
  have hmg : mg "super" = none := S.sg
  have hos := exo_at I0.hok ha
  obtain ⟨t1, ho⟩ := hos
  obtain ⟨nm, q, N, bs, bm, sn, sub, ab, col, dd, k0, k1, k2, k3, k5, hC, hbm⟩ := S.exc.cls
  have hC1 := I0.kIn _ _ hC
  obtain ⟨mb, hb1, hb2⟩ := I0.mod.blt
  obtain ⟨m, hm, hlook⟩ := I0.loc
  have hself : m "self" = some (.ref a) := by
    obtain ⟨u, ru, lk2⟩ := hlook 0 "self" (.ref a) rfl rfl (.inl rfl)
    cases ru
    rcases lk2 with ⟨_, e⟩ | ⟨e, _⟩
    · exact e
    · exfalso
      revert e
      show ¬ ((List.lookup ("self" : Str) supScope.names = some .cell) ∨ (List.lookup ("self" : Str) supScope.names = some .free))
      decide
  refine ks_wpAt_super_base rfl rfl (by decide) rfl (I0.kIn _ _ lk) rfl hp rfl (I0.kIn _ _ hcode) rfl hvs hfile S.top ?_
  rw [har]
  refine PySem.W.ks_loadName_global rfl rfl (Calls.loadGlobal_builtin (I0.mod.glob.keeps I0.bk) hmg (hb1.keeps I0.bk) ((hb2 "super" (by decide)).trans Boot.super) ⟨rfl, ?_⟩)
  refine wpAny_loadName_free rfl rfl rfl ⟨_, I0.kIn _ _ hcell, rfl⟩ ?_
  refine wpAny_loadName_local rfl rfl hm hself ?_
  refine ks_wpAny_isType_cls hC1 rfl ⟨rfl, ?_⟩
  clear hs1
  obtain ⟨hh, g, d, tk, os⟩ := s1
  refine ks_wpAny_call_super hC1 rfl ho rfl (fun c e => by cases e) (PySem.W.looks_mroIn I0.kIn S.sub) (fun h' e kk => ?_)
  have I1 := I0.kept (h' := h') (t' := tk) kk
  have hcls : PySem.W.clsIn K C = some { name := nm, bases := bs, mro := .ref C :: bm, ns := N, qualname := q, hasDict := true, slotNames := sn, subclasses := sub, abstract := ab, collection := col, hasDel := false } := by unfold PySem.W.clsIn; rw [hC]
  have hsup := S.sup
  unfold PySem.W.ks_superIn at hsup
  rw [hcls] at hsup
  have J : PySem.W.InstAt h' a { cls := .ref C, dict := none, data := .fields #[.ref t1, .none, .none, .none, .bool false, .none] } C none := ⟨kk _ _ ho, rfl, rfl, trivial⟩
  refine PySem.W.kxs_getMethod PySem.W.kxs_ValueError e (PySem.W.looks_opaque I1.kIn S.opq) (l₀ := .ref C :: bm) (fun A Q E s k q => wpAny_bind ((PySem.W.looks_clsIn I1.kIn hcls) A _ E s k (wpAny_pure q))) rfl I1.kIn hsup (J.type.andThen (PySem.W.looks_subIn I1.kIn S.subV)) (PySem.W.ks_ne I1.kIn J hcls) (by decide) ?_
  have I2 := I1.kept (h' := h'.push (kxs_mw "ValueError.__init__" a)) (t' := tk + 1) fun b o e => Heap.get?_push_of_some _ e
  have hu0 : (h'.push (kxs_mw "ValueError.__init__" a)).get? h'.objs.size = some (kxs_mw "ValueError.__init__" a) := Heap.get?_push_size _ rfl
  have I3 := I2.pins_of (pins' := [(h'.objs.size, kxs_mw "ValueError.__init__" a)]) fun p hp => by
    cases List.mem_singleton.mp hp
    exact ⟨hu0, I1.hok.fresh (Nat.le_refl _), Nat.ne_of_gt I1.lt, I1.nofs (Nat.le_refl _), fun v z => by cases z⟩
  generalize h'.push (kxs_mw "ValueError.__init__" a) = h2 at hu0 I2 I3
  have hrX : Room 0 (A.deeper (NdefX.envF ⟨x, qual, params, [.Expr (.Call (.Attribute (.Call (.Name "super" p0) [] [] p1) "__init__" p2) [.JoinedStr [.Constant (.str txt) n p3, .FormattedValue (.Name "name" p4) 114 none p5] p6] [] p7) p8, .Assign [.Attribute (.Name "self" p9) "name" p10] (.Name "name" p11) p12], supScope, [(("__class__" : Str), cc)], cda⟩ f s.heap.objs.size)) := hr.deeper _
  show wpAny _ _ (callWith p7 (.ref h'.objs.size) [] (backTo p7 (starEach [.JoinedStr [.Constant (.str txt) n p3, .FormattedValue (.Name "name" p4) 114 none p5] p6] _)) []) _ _ _
  refine PySem.W.kxs_callWith (i := "ValueError.__init__") (x := a) rfl (PySem.Calls.evalArgs_plain ?_)
  have hPA : PA (NdefX.ncx CX0 P w K mg base supN ⟨x, qual, params, [.Expr (.Call (.Attribute (.Call (.Name "super" p0) [] [] p1) "__init__" p2) [.JoinedStr [.Constant (.str txt) n p3, .FormattedValue (.Name "name" p4) 114 none p5] p6] [] p7) p8, .Assign [.Attribute (.Name "self" p9) "name" p10] (.Name "name" p11) p12], supScope, [(("__class__" : Str), cc)], cda⟩ f A outer s H E) [.JoinedStr [.Constant (.str txt) n p3, .FormattedValue (.Name "name" p4) 114 none p5] p6] _ :=
    pa_cons (pe_joined (.cons pe_str (.cons (pe_show hrX (pv 1)) .nil))) pa_nil
  have hz : ∀ m : Str, m.length ≤ 30000 → (Str.empty ++ txt ++ m).length ≤ sizeLine := fun m hm => by
    have h30 : 40000 ≤ sizeLine := by rw [sizeLine_eq]; omega
    have e0 : Str.empty.length = 0 := rfl
    rw [strLen_append, strLen_append, e0]
    omega
  have hz0 : (Str.empty ++ txt).length ≤ sizeLine := by
    have h30 : 40000 ≤ sizeLine := by rw [sizeLine_eq]; omega
    have e0 : Str.empty.length = 0 := rfl
    rw [strLen_append, e0]
    omega
  refine thn (hPA.run p7 _ _ _ H (fun vs H2 => H2 = H ∧ ∃ m : Str, vs = [.str m]) I3 ?_) fun us s3 ⟨vs, H3, I4, r4, eH, m4, ev⟩ => ?_
  · refine ⟨txt, rfl, hz0, y, rfl, sh, fun m hm => ⟨m, rfl, hz m hm, rfl, _, rfl⟩⟩
  subst ev
  have eH2 : H = H3 := eH.symm
  clear eH
  subst eH2
  obtain ⟨u4, rfl, _⟩ := vals1 r4
  have hu3 : s3.heap.get? h'.objs.size = some (kxs_mw "ValueError.__init__" a) := (I4.pin _ (List.mem_append_right _ (List.mem_singleton.mpr rfl))).1
  refine ⟨hu3, ?_⟩
  show wpAny _ _ (call (.ref h'.objs.size) [u4]) _ _ _
  have I5 := I4.pins_of (pins' := []) fun p hp => by cases hp
  refine k0_mw_call S.exc I5 ha hu3 (by rw [sizeLine_eq]; show 1 ≤ _; omega) fun s5 I6 => ?_
  refine wpAt_of_wpAny ?_
  have hP2 : PSs (NdefX.ncx CX0 P w K mg base supN ⟨x, qual, params, [.Expr (.Call (.Attribute (.Call (.Name "super" p0) [] [] p1) "__init__" p2) [.JoinedStr [.Constant (.str txt) n p3, .FormattedValue (.Name "name" p4) 114 none p5] p6] [] p7) p8, .Assign [.Attribute (.Name "self" p9) "name" p10] (.Name "name" p11) p12], supScope, [(("__class__" : Str), cc)], cda⟩ f A outer s H E) [.Assign [.Attribute (.Name "self" p9) "name" p10] (.Name "name" p11) p12] _ :=
    pss_one (ps_ost (pv 0) (pv 1))
  refine wpAny_mono (hP2.run [] s5 _ H { nx := fun _ H' => Q .non H', rt := Q } I6 ⟨y, rfl, .ref a, rfl, a, C, rfl, S.exc, hno, .inl ⟨ha, fun dx h1 h2 => k dx h1 h2⟩⟩) (fun fl s' hs => ?_) fun e s' hs => hs
  cases fl with
  | ret u =>
    obtain ⟨v, σ', H', J, rv, q⟩ := hs
    exact ⟨v, H', J.os, J.bare, J.base, J.hok, rv, q⟩
  | next =>
    obtain ⟨σ', H', J, q⟩ := hs
    exact ⟨.non, H', J.os, J.bare, J.base, J.hok, rfl, q⟩
  | brk =>
    obtain ⟨_, _, _, q⟩ := hs
    exact False.elim q
  | cont =>
    obtain ⟨_, _, _, q⟩ := hs
    exact False.elim q
end
end L2
end
section
set_option Elab.async false
set_option linter.all false
set_option maxRecDepth 100000
set_option maxHeartbeats 4000000
namespace L2
open PySem PySem.Spec PyProof.Rows
/-! ### several except clauses, each with a name for the error or without -/
/-- a clause: its class, the slot of its name, its suite's reading -/
structure Clause where
  cls : Value
  slot : Option Nat
  ts : Addr → Value → Option Addr → TS
/-- what is wanted behind a clause's suite: its name is gone -/
def endsC (D : Ends) : Option Nat → Ends
  | none => D
  | some i => { nx := fun σ H => D.nx (σ.set i none) H, rt := D.rt, bk := fun σ H => D.bk (σ.set i none) H, ct := fun σ H => D.ct (σ.set i none) H }
def inC (σ : St) (a : Addr) : Option Nat → St
  | none => σ
  | some i => σ.set i (some (.ref a))
def wCl (K : PySem.W.Frag) (Wout : WX) (D : Ends) : List Clause → WX
  | [] => Wout
  | c :: r => fun cls d σ H => ∃ b, PySem.W.exmOne K cls c.cls = some b ∧ (b = true → ∀ a, H a = none → c.ts a cls d (endsC D c.slot) (inC σ a c.slot) H) ∧ (b = false → wCl K Wout D r cls d σ H)
/-- the name of a clause and its slot go together -/
def NameC (X : Cx) : Option Str → Option Nat → Prop
  | none, none => True
  | some n, some i => X.N.Nodup ∧ X.N[i]? = some n ∧ X.env.kindOf n = some .local
  | _, _ => False
inductive Clauses (X : Cx) : List ExceptHandler → List Clause → Prop
  | done : Clauses X [] []
  | more {x : Str} {nm : Option Str} {c : Clause} {b₀ : Stmt} {suite : List Stmt} {np p' : Pos} {hds : List ExceptHandler} {l : List Clause} (hc : Names X x c.cls) (hn : NameC X nm c.slot)
      (hsu : ∀ (a : Addr) (oe : Obj) (cls : Value) (d : Option Addr) (pn : List (Addr × Obj)), Zc cls d oe → (∃ vs, oe.data = .fields vs) → PSs (X.suite a ((a, oe) :: pn)) (b₀ :: suite) (c.ts a cls d)) (r : Clauses X hds l) :
      Clauses X (.ExceptHandler (some (.Name x np)) nm (b₀ :: suite) p' :: hds) (c :: l)
section
variable {X : Cx} {body : List Stmt} {h₀ : ExceptHandler} {hds : List ExceptHandler} {l : List Clause} {pos : Pos} {tb : WX → TS} {Wout : WX}
theorem k0_try_named (hs : X.stack = X.env :: X.outer) (hf : X.env.frame = some X.env.locals) (tk : Takes X Wout)
    (hb : ∀ (W : WX) (pn : List (Addr × Obj)) (xe : Value → Shared → Prop), Takes (X.tr pn xe) W → PassesOwn (model X.prog X.w) X.A X.env xe → PSs (X.tr pn xe) body (tb W))
    (hh : Clauses X (h₀ :: hds) l) : PS X (.Try body (h₀ :: hds) [] [] pos) (fun D σ H => tb (wCl X.K Wout D l) D σ H) := by
  refine ⟨fun pins s σ H D I h => wpAny_Try_except ?_⟩
  have ok := I.ok
  have hfr : X.A.frames = some (X.env :: X.outer) := ok.frames.trans (by rw [hs])
  -- an exception comes to the clauses
  have caught : ∀ (xe0 : Value → Shared → Prop) (u : Value) (s1 : Shared), XE (X.tr (X.pn ++ pins) xe0) (wCl X.K Wout D l) u s1 →
      wpAny (model X.prog X.w) X.A (noteFrame u X.env) (fun _ s2 => wpAny (model X.prog X.w) X.A (setFlight u none) (fun _ s3 => wpAny (model X.prog X.w) X.A (handleBy u X.env (h₀ :: hds)) (SP X pins D) X.xe s3) X.xe s2) X.xe s1 := by
    rintro xe0 u s1 ⟨a, B, sI, q0, σ1, H1, cls, d, rfl, J0, nb, up, sky, na, os, ag, w⟩
    have J : Inv X pins σ1 H1 sI := J0.ofTry ok
    have sky' : Sky B (X.env :: X.outer) a (Zc cls d) X.env.locals s1.heap := hs ▸ sky
    refine Sky.land Zc.steady hfr hf sky' fun h3 fl up3 => ?_
    obtain ⟨oe, vs, he, hz, hd⟩ := fl.there
    have Jh : Inv X pins σ1 H1 { s1 with heap := h3 } := J.landed nb fl.1 (up.trans up3) os ag
    have away : a ∉ frs (X.env :: X.outer) := fun hm => by
      obtain ⟨_, o2, e2, n2⟩ := fl.2.2.1.mem hm
      rw [he] at e2
      cases e2
      exact n2 _ hd
    have nL : a ≠ X.env.locals := fun z => away (List.mem_filterMap.mpr ⟨X.env, List.mem_cons_self, hf.trans (by rw [z])⟩)
    have nF : a ∉ X.fs := fun hm => by
      obtain ⟨e, he2, q⟩ := List.mem_filterMap.mp hm
      exact away (List.mem_filterMap.mpr ⟨e, List.mem_cons_of_mem _ he2, q⟩)
    have Sh := Jh.suite he hd na nL nF
    have LT : PySem.W.Looks (model X.prog X.w) h3 (typeOf (.ref a)) cls := fun A Q E s k q => wpAny_typeOf_ref (k _ _ he) (hz.1 ▸ q)
    suffices key : ∀ (hds : List ExceptHandler) (l : List Clause), Clauses X hds l → wCl X.K Wout D l cls d σ1 H1 → wpAny (model X.prog X.w) X.A (handleBy (.ref a) X.env hds) (SP X pins D) X.xe { s1 with heap := h3 } from key _ _ hh w
    intro hds l hk
    induction hk with
    | done =>
      -- no clause takes it: it goes on
      intro wo
      refine wpAny_handleBy_nil ?_
      obtain ⟨_, _, _, oe', vs', T, _, _, he', _, hd', hf1, _⟩ := id fl
      have out : wpAny (model X.prog X.w) X.A (setFlight (.ref a) X.env.frame) (fun _ s4 => wpAny (model X.prog X.w) X.A (throw (.ref a) : Sem Flow) (SP X pins D) X.xe s4) X.xe { s1 with heap := h3 } := by
        rw [hf]
        exact HandSPX.setFlight_upZ fl fun h4 held up4 => wpAny_throw (tk _ _ ⟨a, B, sI, pins, σ1, H1, cls, d, rfl, J, nb, (up.trans up3).trans up4, .inr (.inr (hs ▸ held)), na, os, ag, wo⟩)
      unfold PySem.passOn
      refine wpAny_bind (wpAny_field he' hd' hf1 ?_)
      rw [if_neg (fun z => by cases z)]
      first
        | exact wpAny_bind out
        | exact wpAny_bind (wpAny_pure (wpAny_bind out))
    | @more x nm c b₀ suite np p' hds l hc hn hsu r ih =>
      rintro ⟨b, hb1, yes, no⟩
      have named : ∀ {Q : Value → Shared → Prop} {E : Value → Shared → Prop}, Q c.cls { s1 with heap := h3 } → wpAny (model X.prog X.w) (X.A.mark (some (.ref a))) (eval (.Name x np) X.env) Q E { s1 with heap := h3 } := fun {Q E} q => by
        rcases hc with ⟨hg, hdb, hm | ⟨hm, hv, hnn⟩⟩
        · exact ld_glob (X := X.suite a ((a, oe) :: (X.pn ++ pins))) Sh hg hm q hdb
        · exact ld_blt (X := X.suite a ((a, oe) :: (X.pn ++ pins))) Sh hg hm hv q hnn hdb
      refine wpAny_handleBy_cons (codeAny_handlers_test (named ((PySem.W.exm_one (M := model X.prog X.w) Jh.kIn LT hb1).here ?_))) (fun z => by cases z)
      cases b with
      | false => exact (show wpAny _ X.A (handleBy (.ref a) X.env hds) _ _ _ from ih (no rfl))
      | true =>
        have ys := yes rfl a na
        match nm, hcs : c.slot, hn with
        | none, none, _ =>
          rw [hcs] at ys
          refine codeAny_handlers_suite (HandSPX.lands_againZ fl fun h4 fl4 up4 => ?_)
          obtain ⟨oe4, vs4, he4, hz4, hd4⟩ := fl4.there
          have J4 : Inv X pins σ1 H1 { s1 with heap := h4 } := J.landed nb fl4.1 ((up.trans up3).trans up4) os ag
          have S4 := J4.suite he4 hd4 na nL nF
          refine wpAny_mono ((hsu a oe4 cls d (X.pn ++ pins) hz4 ⟨_, hd4⟩).run [] _ _ H1 _ S4 ys) (fun f s6 q => ?_) (fun _ _ z => False.elim z)
          cases f with
          | ret u => exact let ⟨v6, σ6, H6, S6, r6, q6⟩ := q; ⟨v6, σ6, H6, S6.unsuite ok, r6, q6⟩
          | next => exact let ⟨σ6, H6, S6, q6⟩ := q; ⟨σ6, H6, S6.unsuite ok, q6⟩
          | brk => exact let ⟨σ6, H6, S6, q6⟩ := q; ⟨σ6, H6, S6.unsuite ok, q6⟩
          | cont => exact let ⟨σ6, H6, S6, q6⟩ := q; ⟨σ6, H6, S6.unsuite ok, q6⟩
        | some n, some i, ⟨hN, hi, hln⟩ =>
          rw [hcs] at ys
          refine codeAny_handlers_suite_as (HandSPX.lands_againZ fl fun h4 fl4 up4 => ?_)
          obtain ⟨oe4, vs4, he4, hz4, hd4⟩ := fl4.there
          have J4 : Inv X pins σ1 H1 { s1 with heap := h4 } := J.landed nb fl4.1 ((up.trans up3).trans up4) os ag
          have S4 := J4.suite he4 hd4 na nL nF
          refine store_ok (X := X.suite a ((a, oe4) :: (X.pn ++ pins))) (v := .ref a) S4 hN hi (.inl hln) rfl (fun s5 S5 => ?_) (.inr hln)
          refine wpAny_mono ((hsu a oe4 cls d (X.pn ++ pins) hz4 ⟨_, hd4⟩).run [] s5 _ H1 _ S5 ys) (fun f s6 q => ?_) (fun _ _ z => False.elim z)
          have gone : ∀ {σ6 : St} {H6 : Hp} {Q : Shared → Prop}, Inv (X.suite a ((a, oe4) :: (X.pn ++ pins))) [] σ6 H6 s6 → (∀ s7, Inv X pins (σ6.set i none) H6 s7 → Q s7) → wpAny (model X.prog X.w) X.A (do bindName X.env n .none; unbindBehindTheSuite X.env n p') (fun _ s7 => Q s7) X.xe s6 := fun S6 k => gone_ok (S6.unsuite ok) hN hi hln k
          cases f with
          | ret u => exact let ⟨v6, σ6, H6, S6, r6, q6⟩ := q; gone S6 fun s7 J7 => ⟨_, _, _, J7, r6, q6⟩
          | next => exact let ⟨σ6, H6, S6, q6⟩ := q; gone S6 fun s7 J7 => ⟨_, _, J7, q6⟩
          | brk => exact let ⟨σ6, H6, S6, q6⟩ := q; gone S6 fun s7 J7 => ⟨_, _, J7, q6⟩
          | cont => exact let ⟨σ6, H6, S6, q6⟩ := q; gone S6 fun s7 J7 => ⟨_, _, J7, q6⟩
  refine wpAny_mono ((hb (wCl X.K Wout D l) (X.pn ++ pins) (fun u s1 => wpAny (model X.prog X.w) X.A (noteFrame u X.env) (fun _ s2 => wpAny (model X.prog X.w) X.A (setFlight u none) (fun _ s3 => wpAny (model X.prog X.w) X.A (handleBy u X.env (h₀ :: hds)) (SP X pins D) X.xe s3) X.xe s2) X.xe s1)
    (fun u s1 x => caught _ u s1 x) PassesOwn.looking).run [] s σ H D (I.toTry _) h) (fun f s1 q => ?_) fun _ _ z => z
  · cases f with
    | ret u => exact let ⟨v, σ1, H1, J1, r1, q1⟩ := q; ⟨v, σ1, H1, J1.ofTry ok, r1, q1⟩
    | next => exact let ⟨σ1, H1, J1, q1⟩ := q; wpAny_execs_nil ⟨σ1, H1, J1.ofTry ok, q1⟩
    | brk => exact let ⟨σ1, H1, J1, q1⟩ := q; ⟨σ1, H1, J1.ofTry ok, q1⟩
    | cont => exact let ⟨σ1, H1, J1, q1⟩ := q; ⟨σ1, H1, J1.ofTry ok, q1⟩
end
end L2
end
section
set_option Elab.async false
set_option linter.all false
set_option maxRecDepth 100000
set_option maxHeartbeats 4000000
namespace K0
open PySem PySem.Spec PyProof.Rows L2
/-! ### names that are not there: NoRight -/
def TyS (K : PySem.W.Frag) (H : Hp) (x : V) : Prop := (∃ y, x = .str y) ∨ ((∀ y, x ≠ .str y) ∧ ∃ t, TyX K H x t ∧ PySem.W.kitOne K t (.type "str") = some false)
theorem shown_ty {K : PySem.W.Frag} {H : Hp} {x : V} (h : Shown K H x) : TyS K H x := by
  cases h with
  | str y _ _ => exact .inl ⟨y, rfl⟩
  | non => exact .inr ⟨(fun y z => by cases z), _, .base .non, kit_ty (by decide +kernel)⟩
  | bl b => exact .inr ⟨(fun y z => by cases z), _, .base (.bl b), kit_ty (by decide +kernel)⟩
  | int i _ _ => exact .inr ⟨(fun y z => by cases z), _, .base (.int i), kit_ty (by decide +kernel)⟩
  | lst e _ _ => exact .inr ⟨(fun y z => by cases z), _, .base (.lst e), kit_ty (by decide +kernel)⟩
  | tup e _ _ => exact .inr ⟨(fun y z => by cases z), _, .base (.tup e), kit_ty (by decide +kernel)⟩
def hasG (BR : List (Addr × RRow)) : V → Bool
  | .str y => decide (y ∈ rnm (bOf BR))
  | _ => false
theorem hasG_no {BR : List (Addr × RRow)} : ∀ {x : V}, (∀ y, x ≠ .str y) → hasG BR x = false
  | .str y, h => absurd rfl (h y)
  | .non, _ => rfl
  | .bl _, _ => rfl
  | .int _, _ => rfl
  | .flt _, _ => rfl
  | .byt _, _ => rfl
  | .ref _, _ => rfl
  | .ty _, _ => rfl
abbrev GHasX (K : PySem.W.Frag) (Cg Cr : Addr) : Hp → Addr → V → Bool → Prop := fun H p x b => ∃ q AR BR, RigAt Cg Cr H p q AR BR ∧ TyS K H x ∧ b = hasG BR x
abbrev sNoR : Stmt := inClass (top 6) 0
structure Nr (P : Program) (K : PySem.W.Frag) (mg : Str → Option Value) (Cn f : Addr) (fd : FuncData) : Prop where
  S : SupF P K mg Cn "__init__" "NoRight.__init__" (defArgs sNoR) (defBody sNoR) (defScope sNoR) f fd
  hno : PySem.W.findIn K (.ref Cn) "name" = some none
  iC : PySem.W.findIn K (.ref Cn) "__init__" = some (some (.ref f))
  tI : PySem.W.typeIn K (.ref f) = some (.type "function")
  mgN : mg "NoRight" = some (.ref Cn)
/-- good names first, then one that is not there or comes again, then any -/
def spBad (K : PySem.W.Frag) (Cg Cr Cn : Addr) : Sp := fun vs H Q E => ∃ (p q l : Addr) (pre : List Str) (x : V) (post : List V) (AR : List (Addr × Row)) (BR : List (Addr × RRow)), vs = [.ref p, .ref l] ∧ RigOk Cg Cr H p q AR BR ∧ H l = some (.lst (pre.map V.str ++ x :: post)) ∧ (∀ y ∈ pre, y ∈ rnm (bOf BR)) ∧ pre.Nodup ∧ pre.length ≤ 40 ∧ Shown K H x ∧ (hasG BR x = false ∨ ∃ y ∈ pre, x = .str y) ∧
  ∀ H' d, Same H H' → H' d = none → E (.ref Cn) (some d) (upd H' d (.xd [(("name" : Str), x)]))
section
variable {P : Program} {w : World} {K : PySem.W.Frag} {mg : Str → Option Value} {base : Heap} {tS tM tL : Tok}
theorem ok_noright {Cn f : Addr} {fd : FuncData} (N : Nr P K mg Cn f fd) : FnOk P w K mg base CX0 1 f fd ["self", "name"] (spSup K Cn) :=
  ok_sup rfl rfl (by decide +kernel) N.S N.hno (fun _ _ _ _ _ => ⟨_, rfl⟩)
theorem binds_noright {Cn f : Addr} {fd : FuncData} (N : Nr P K mg Cn f fd) : Binds K fd ["self", "name"] [] := by
  obtain ⟨oc, od, doc, pm, cda, ct, cc, osl, rfl, _⟩ := N.S.ex
  exact .all fun us hl => match us, hl with | [_, _], _ => rfl
theorem ok_gcontainsX {f Cg Cr : Addr} {fd : FuncData} (F : FnM K "__contains__" "Rights.__contains__" sGContains f fd) (TG : Rg K mg Cg) (B : Bl mg) : FnOk P w K mg base CX0 1 f fd ["self", "x"] (spHas (GHasX K Cg Cr)) := by
  refine F.ok scGContains (fun vs H Q E h => ?_) (fun cdv A outer s H vs Q E hr h => ?_)
  · obtain ⟨p, x, b, rfl, _⟩ := h
    rfl
  · obtain ⟨p, x, b, rfl, ⟨q, AR, BR, R, ty, rfl⟩, k⟩ := h
    have hu := hu_of hr
    refine ⟨_, PSs.nox (pss_one
      (ps_ret (pe_and (pe_callB call_isi (by rfl) B.isinstance (by decide +kernel) (pa_cons (pv 1) (pa_cons (pe_bltn (v := .ty "str") (by rfl) B.str (by decide +kernel) rfl) pa_nil))) (pe_one (pe_cmp (pc_din hu (pv 1) (fldK (K := K) (pv 0) rfl)) rfl))))), ?_⟩
    obtain ⟨dx, tn, tr, dw, dl, dp, h1, h2, h3, h4, h5, h6, h7⟩ := R.ex
    obtain ⟨ta, w1, w2⟩ := h6.ex
    rcases ty with ⟨n, rfl⟩ | ⟨no, t, ht, kt⟩
    · refine ⟨_, rfl, .str n, .ty "str", _, _, true, rfl, .ty "str", .base (.str n), kit_ty (by decide +kernel), true, rfl, iteT ?_⟩
      refine ⟨_, rfl, _, rfl, p, Cg, dx, _, _, rfl, h1, TG.cl, TG._ways, rr6w _ _ _ _ _ _, ?_⟩
      by_cases hy : n ∈ rnm (bOf BR)
      · refine ⟨dw, some (.ref (ta n)), rfl, dget_rn (.inl w1) hy, ?_⟩
        have e : hasG BR (.str n) = true := decide_eq_true hy
        rw [e] at k
        exact k
      · refine ⟨dw, none, rfl, .inl ⟨_, Sum.inr n, .inl w1, rfl, (kmap_not hy).symm⟩, ?_⟩
        have e : hasG BR (.str n) = false := decide_eq_false hy
        rw [e] at k
        exact k
    · refine ⟨_, rfl, x, .ty "str", _, _, false, rfl, .ty "str", ht, kt, false, rfl, iteF ?_⟩
      rw [hasG_no no] at k
      exact k
theorem ok_needdiffX {f Cg Cr Cn fn : Addr} {fd fdn : FuncData} (F : FnP K "need_different" sNeedDiff f fd) (N : Nr P K mg Cn fn fdn) (M : Gm K Cg) (TG : Rg K mg Cg) (B : Bl mg) : FnOk P w K mg base (L2.CX P w) 3 f fd ["rights", "names"] (spBad K Cg Cr Cn) := by
  obtain ⟨fC, fdC, FC, hs, hf⟩ := M.has
  have GC : FnOk P w K mg base CX0 1 fC fdC ["self", "x"] (spHas (GHasX K Cg Cr)) := ok_gcontainsX FC TG B
  have bC : Binds K fdC ["self", "x"] [] := FC.bindsN fun _ _ _ _ _ _ us hl => match us, hl with | [_, _], _ => rfl
  have Gn : FnOk P w K mg base CX0 1 fn fdn ["self", "name"] (spSup K Cn) := ok_noright N
  have bn := binds_noright N
  refine F.ok scNeedDiff (fun vs H Q E h => ?_) (fun cdv A outer s H vs Q E hr h => ?_)
  · obtain ⟨p, q, l, pre, x, post, AR, BR, rfl, _⟩ := h
    rfl
  · obtain ⟨p, q, l, pre, x, post, AR, BR, rfl, R, hl, hpre, hnd, hpl, hsh, hbad, k⟩ := h
    have hu := hu_of hr
    have hrC : Room 1 _ := hr.mono (by decide)
    refine ⟨_, (pss_cons
      (ps_set (i := 2) scNeedDiff.nd rfl (Or.inl rfl) pe_dnewK)
      (pss_one
      (ps_for (passes_of rfl) rfl (pi_list (pv 1)) (pg_name (i := 3) scNeedDiff.nd rfl (Or.inl rfl)) (pss_cons
      (ps_if (PW.pt (pw_or (pt_cmpR (k0_notIn_own (K := K) GC hrC hs hf bC) (pv 3) (pv 0) (by rfl)) (pw_or1 (pt_cmp (pc_din hu (pv 3) (pv 2)))))) (pss_one
      (ps_raise rfl (takes_of rfl rfl rfl rfl) (pmk_oex N.S.exc N.iC N.tI Gn hr bn .nil (fun _ _ _ _ _ _ _ h => h.elim) (by rfl) N.mgN (pa_cons (pv 3) pa_nil)))) pss_nil)
      (pss_one
      (ps_dput hu (pv 2) (pv 3) pe_bl rfl)))))), ?_⟩
    intro D hD
    have s0 : Same H (upd H D (.dK [])) := same_upd hD
    refine ⟨_, rfl, l, rfl, ⟨_, .inl (.inl (s0 _ _ hl))⟩, ?_⟩
    refine for_list (K := K) (a := l) (xs := pre.map V.str ++ x :: post) (fun i σ H2 => ∃ v3, σ = [some (.ref p), some (.ref l), some (.ref D), v3] ∧ Same H H2 ∧ i ≤ pre.length ∧ H2 D = some (.dK (kmap (fun _ => .bl true) (pre.take i))))
      ⟨none, rfl, s0, Nat.zero_le _, by rw [upd_same, List.take_zero]; rfl⟩ (fun i σ H2 hi h => by
        obtain ⟨_, _, s, _⟩ := h
        exact .inl (.inl (s _ _ hl))) ?_ ?_
    · rintro i v σ H2 hxi ⟨v3, rfl, s2, hip, hD2⟩
      obtain ⟨dx, tn, tr, dw, dl, dp, h1, _⟩ := id (R.same s2).at_.ex
      rcases Nat.lt_or_ge i pre.length with hlt | hge
      · have hni : pre[i]? = some pre[i] := List.getElem?_eq_getElem hlt
        rw [List.getElem?_append_left (by rw [List.length_map]; exact hlt), List.getElem?_map, hni] at hxi
        obtain rfl : V.str pre[i] = v := Option.some.inj hxi
        have hnm := hpre _ (List.getElem_mem hlt)
        have hnot : pre[i] ∉ pre.take i := nodup_take hnd hni
        generalize pre[i] = n at hni hnm hnot
        refine ⟨_, rfl, _, rfl, p, dx, _, true, rfl, h1, ⟨q, AR, BR, (R.same s2).at_, .inl ⟨n, rfl⟩, (decide_eq_true hnm).symm⟩, _, rfl, ?_⟩
        refine iteF ?_
        refine ⟨_, rfl, _, rfl, D, _, rfl, DGet.k (k := Sum.inr n) hD2, _, rfl, ?_⟩
        rw [kmap_not hnot]
        refine iteF ?_
        refine ⟨_, rfl, _, rfl, D, _, rfl, DPut.k (k := Sum.inr n) hD2 ?_, ?_⟩
        · rw [kmap_len, List.length_take]
          exact small1000 (by omega)
        · refine ⟨_, rfl, fun b o hb => ?_, hlt, ?_⟩
          · rw [upd_ne (ne_of_none hb hD)]
            exact s2 b o hb
          · have := kmap_put (f := fun _ => .bl true) hnot
            rw [upd_same, this, List.take_add_one, hni]
            rfl
      · have hie : i = pre.length := Nat.le_antisymm hip hge
        subst hie
        rw [List.getElem?_append_right (by rw [List.length_map]; exact Nat.le_refl _), List.length_map, Nat.sub_self] at hxi
        obtain rfl : x = v := Option.some.inj hxi
        rw [List.take_length] at hD2
        have sh2 : Shown K H2 x := hsh.same fun b o e _ => s2 _ _ e
        have fin : ∀ (a : Addr) (na : H2 a = none) (dx : Addr), (upd H2 a (exo a Cn none)) dx = none → dx ≠ a → E (.ref Cn) (some dx) (upd (del (upd (upd (upd H2 a (exo a Cn none)) dx (exd dx [(("name" : Str), x)])) a (exo a Cn (some dx))) a) dx (.xd [(("name" : Str), x)])) := fun a na dx n1 n2 => by
          rw [upd_ne n2] at n1
          have e : upd (del (upd (upd (upd H2 a (exo a Cn none)) dx (exd dx [(("name" : Str), x)])) a (exo a Cn (some dx))) a) dx (.xd [(("name" : Str), x)]) = upd H2 dx (.xd [(("name" : Str), x)]) := by
            funext b
            by_cases hd : b = dx
            · rw [hd, upd_same, upd_same]
            · rw [upd_ne hd, upd_ne hd]
              by_cases ha : b = a
              · rw [ha, del_same, na]
              · rw [del_ne ha, upd_ne ha, upd_ne hd, upd_ne ha]
          rw [e]
          exact k H2 dx s2 n1
        refine ⟨_, rfl, _, rfl, p, dx, _, _, rfl, h1, ⟨q, AR, BR, (R.same s2).at_, shown_ty sh2, rfl⟩, _, rfl, ?_⟩
        cases hg : hasG BR x with
        | false =>
          refine iteT ?_
          refine ⟨_, rfl, by show 1 ≤ 1000; decide, fun a na => ⟨a, x, rfl, upd_same, sh2.same fun b o e _ => (upd_ne (ne_of_none e na)).trans e, fun dx n1 n2 => ⟨rfl, dx, [(("name" : Str), x)], upd_same, ?_, ?_, ?_⟩⟩⟩
          · rw [upd_ne n2, upd_same]
          · rw [upd_ne n2] at n1
            exact n1
          · exact fin a na dx n1 n2
        | true =>
          refine iteF ?_
          obtain ⟨y, hy, rfl⟩ := hbad.resolve_left (by rw [hg]; exact fun z => by cases z)
          refine ⟨_, rfl, _, rfl, D, _, rfl, DGet.k (k := Sum.inr y) hD2, _, rfl, ?_⟩
          rw [kmap_at hy]
          refine iteT ?_
          refine ⟨_, rfl, by show 1 ≤ 1000; decide, fun a na => ⟨a, .str y, rfl, upd_same, sh2.same fun b o e _ => (upd_ne (ne_of_none e na)).trans e, fun dx n1 n2 => ⟨rfl, dx, [(("name" : Str), .str y)], upd_same, ?_, ?_, ?_⟩⟩⟩
          · rw [upd_ne n2, upd_same]
          · rw [upd_ne n2] at n1
            exact n1
          · exact fin a na dx n1 n2
    · rintro σ H2 ⟨v3, rfl, s2, hip, hD2⟩
      rw [List.length_append, List.length_map, List.length_cons] at hip
      omega
end
end K0
end
section
set_option Elab.async false
set_option linter.all false
set_option maxRecDepth 100000
set_option maxHeartbeats 4000000
namespace GN
open PySem PySem.Spec PyProof.Rows L2 GenW Classical
/-! ### a generator def by its own frame: woken again and again, between two turns others may change what they like but for its own things -/
def cutHp (h : Heap) (C : Nat) : Heap := { h with objs := h.objs.extract 0 C }
theorem cut_get {h : Heap} {C b : Nat} (hb : b < C) : (cutHp h C).get? b = h.get? b := by
  have e : (cutHp h C).objs[b]? = h.objs[b]? := by
    show (h.objs.extract 0 C)[b]? = _
    rw [Array.getElem?_extract]
    by_cases q : b < h.objs.size
    · rw [if_pos (by omega), Nat.zero_add]
    · rw [if_neg (by omega), Array.getElem?_eq_none (by omega)]
  unfold Heap.get?
  rw [e]
theorem cut_some {h : Heap} {C b : Nat} {o : Obj} (e : (cutHp h C).get? b = some o) : b < C ∧ h.get? b = some o := by
  have h1 := Heap.lt_size e
  have h2 : (cutHp h C).objs.size ≤ C := by
    show (h.objs.extract 0 C).size ≤ C
    rw [Array.size_extract]
    omega
  have h3 : b < C := Nat.lt_of_lt_of_le h1 h2
  exact ⟨h3, by rw [← cut_get h3]; exact e⟩
theorem cut_size {h : Heap} {C : Nat} : (cutHp h C).objs.size ≤ C := by
  show (h.objs.extract 0 C).size ≤ C
  rw [Array.size_extract]
  omega
/-- the iterators that a generator keeps -/
def IterO (o : Obj) : Prop := (o.cls = .type "tuple_iterator" ∨ o.cls = .type "enumerate") ∧ ∃ vs : Array Value, o.data = .fields vs
/-- what a turn may change of what stood at its start -/
def Chg (C : Addr) (h : Heap) (b : Addr) : Prop := b = C ∨ (C < b ∧ ∃ o, h.get? b = some o ∧ IterO o)
/-- a generator def's run: its frame stands at C; G: what it may read of others; its: what it hands out (a value, or a new tuple) -/
structure GD where
  P : Program
  w : World
  K : PySem.W.Frag
  mg : Str → Option Value
  base : Heap
  N : List Str
  qual : Str
  scope : Scope
  f : Addr
  cd : Value
  C : Addr
  A : Around
  outer : List Env
  G : Hp
  its : List (V ⊕ List V)
abbrev GD.env (D : GD) : Env := envOfC D.qual D.scope D.C D.f D.cd
abbrev GD.X (D : GD) (s : Shared) (H : Hp) : Cx where
  prog := D.P
  w := D.w
  K := D.K
  mg := D.mg
  base := D.base
  A := D.A.deeper D.env
  N := D.N
  s_0 := { s with heap := cutHp s.heap D.C }
  H_0 := H
  env := D.env
  outer := D.outer
  stack := D.env :: D.outer
  ex := []
  calm := true
  fn := fun _ => true
  pn := []
  xe := fun _ _ => False
/-- kinds of things that a turn may read -/
def Kd : HO → Prop
  | .tup _ => True
  | .dK _ => True
  | .ins _ _ _ => True
  | .own _ => True
  | .frz _ (.tup _) => True
  | _ => False
structure GD.Ok (D : GD) : Prop where
  mod : Mod D.K D.mg D.base
  kind : D.scope.kind = .function
  nocell : D.env.cells = []
  nc : ∀ x, D.scope.names.lookup x ≠ some .cell ∧ D.scope.names.lookup x ≠ some .free
  hd : D.A.handled = none
  frames : D.A.frames = some D.outer
  bsC : ∀ b o, D.base.get? b = some o → b < D.C ∧ D.G b = none
  bsz : D.base.objs.size ≤ D.C
  frC : ∀ b ∈ frs D.outer, b < D.C ∧ D.G b = none
  GC : ∀ b o, D.G b = some o → b < D.C ∧ Kd o
  ins : ∀ b C dx fs, D.G b = some (.ins C dx fs) → D.G dx = some (.own b)
  own : ∀ c b, D.G c = some (.own b) → ∃ C fs, D.G b = some (.ins C c fs)
/-- what is asked of the state when it is woken -/
structure Wk (D : GD) (s : Shared) : Prop where
  bs : ∀ b o, D.base.get? b = some o → s.heap.get? b = some o
  funs : s.heap.FunFrames D.base D.outer
  hok : HOk D.P D.w D.G s.heap
  bare : AllBare s.gens
  sz : D.C < s.heap.objs.size
def TupR (h : Heap) (t : Addr) (xs : List V) : Prop := xs.length ≤ sizeLine ∧ ∃ its : List Value, Vals xs its ∧ IsTup h t its.toArray
theorem mem_lk : ∀ {ks : List (Addr × List V)} {b : Addr} {xs : List V}, ks.lookup b = some xs → (b, xs) ∈ ks
  | (c, ys) :: ks, b, xs, e => by
    rw [List.lookup_cons] at e
    by_cases q : (b == c) = true
    · rw [q] at e
      rw [beq_iff_eq] at q
      cases e
      rw [q]
      exact List.mem_cons_self
    · have q2 : (b == c) = false := by simpa using q
      rw [q2] at e
      exact List.mem_cons_of_mem _ (mem_lk e)
/-- its own tuples that stand -/
def KeepOk (D : GD) (ks : List (Addr × List V)) (h : Heap) : Prop := ∀ p ∈ ks, p.1 ≠ D.C ∧ D.base.get? p.1 = none ∧ p.1 ∉ frs D.outer ∧ TupR h p.1 p.2
/-- all that it sees at the start of a turn -/
noncomputable def hg (D : GD) (s : Shared) (ks : List (Addr × List V)) : Hp := fun b => match D.G b with
  | some u => some u
  | none => match s.heap.get? b with
    | none => none
    | some o => match ks.lookup b with
      | some xs => some (.frz o (.tup xs))
      | none => if b < D.C ∨ b = D.C ∨ IterO o then none else some (.ext fun h => h.get? b = some o)
theorem TupR.inj {h : Heap} {t : Addr} {xs ys : List V} (a : TupR h t xs) (b : TupR h t ys) : xs = ys := by
  obtain ⟨_, its, r, o, e, _, n, d⟩ := a
  obtain ⟨_, its', r', o', e', _, n', d'⟩ := b
  rw [e] at e'
  cases e'
  rw [d] at d'
  injection d' with d1 _
  have : its = its' := by simpa using congrArg Array.toList d1
  subst this
  exact r.inj r'
theorem TupR.noIter {h : Heap} {t : Addr} {xs : List V} {o : Obj} (a : TupR h t xs) (e : h.get? t = some o) : ¬ IterO o := fun z => by
  obtain ⟨_, its, r, o', e', hc, _⟩ := a
  rw [e] at e'
  cases e'
  rcases z.1 with z | z <;> rw [hc] at z <;> exact absurd (Value.type.inj z) (by decide)
section
variable {D : GD} {s : Shared} {ks : List (Addr × List V)}
theorem hg_of {b : Addr} {u : HO} (e : D.G b = some u) : hg D s ks b = some u := by
  unfold hg
  rw [e]
theorem hg_lt {b : Addr} (h : b < D.C) (hG : D.G b = none) (hk : ks.lookup b = none) : hg D s ks b = none := by
  unfold hg
  rw [hG]
  show (match s.heap.get? b with | none => none | some o => match ks.lookup b with | some xs => some (HO.frz o (.tup xs)) | none => if b < D.C ∨ b = D.C ∨ IterO o then none else some (.ext fun h => h.get? b = some o)) = none
  cases s.heap.get? b with
  | none => rfl
  | some o =>
    rw [hk]
    exact if_pos (.inl h)
theorem keep_no {b : Addr} {h : Heap} (hk : KeepOk D ks h) (n : ∀ p ∈ ks, p.1 ≠ b) : ks.lookup b = none := by
  cases e : ks.lookup b with
  | none => rfl
  | some xs => exact absurd rfl (n _ (mem_lk e))
theorem hg_C (ok : D.Ok) (hk : KeepOk D ks s.heap) : hg D s ks D.C = none := by
  have hG : D.G D.C = none := by
    cases e : D.G D.C with
    | none => rfl
    | some u => exact absurd (ok.GC _ _ e).1 (Nat.lt_irrefl _)
  have hl := keep_no hk fun p hp => (hk p hp).1
  unfold hg
  rw [hG]
  show (match s.heap.get? D.C with | none => none | some o => match ks.lookup D.C with | some xs => some (HO.frz o (.tup xs)) | none => if D.C < D.C ∨ D.C = D.C ∨ IterO o then none else some (.ext fun h => h.get? D.C = some o)) = none
  cases s.heap.get? D.C with
  | none => rfl
  | some o =>
    rw [hl]
    exact if_pos (.inr (.inl rfl))
theorem hg_iter (ok : D.Ok) (hk : KeepOk D ks s.heap) {b : Addr} {o : Obj} (hb : D.C < b) (e : s.heap.get? b = some o) (i : IterO o) : hg D s ks b = none := by
  have hG : D.G b = none := by
    cases e : D.G b with
    | none => rfl
    | some u => exact absurd (ok.GC _ _ e).1 (Nat.not_lt.mpr (Nat.le_of_lt hb))
  have hl := keep_no hk fun p hp z => (hk p hp).2.2.2.noIter (by rw [z]; exact e) i
  unfold hg
  rw [hG, e]
  show (match ks.lookup b with | some xs => some (HO.frz o (.tup xs)) | none => if b < D.C ∨ b = D.C ∨ IterO o then none else some (.ext fun h => h.get? b = some o)) = none
  rw [hl]
  exact if_pos (.inr (.inr i))
theorem hg_there {b : Addr} {o : Obj} (hG : D.G b = none) (hb : ¬ b < D.C ∧ b ≠ D.C ∨ ks.lookup b ≠ none) (e : s.heap.get? b = some o) (i : ¬ IterO o) : (∃ xs, ks.lookup b = some xs ∧ hg D s ks b = some (.frz o (.tup xs))) ∨ hg D s ks b = some (.ext fun h => h.get? b = some o) := by
  unfold hg
  rw [hG, e]
  show (∃ xs, ks.lookup b = some xs ∧ (match ks.lookup b with | some xs => some (HO.frz o (.tup xs)) | none => if b < D.C ∨ b = D.C ∨ IterO o then none else some (.ext fun h => h.get? b = some o)) = some (HO.frz o (.tup xs))) ∨ (match ks.lookup b with | some xs => some (HO.frz o (.tup xs)) | none => if b < D.C ∨ b = D.C ∨ IterO o then none else some (.ext fun h => h.get? b = some o)) = some (HO.ext fun h => h.get? b = some o)
  cases q : ks.lookup b with
  | some xs => exact .inl ⟨xs, rfl, rfl⟩
  | none =>
    rcases hb with hb | hb
    · exact .inr (if_neg fun z => z.elim hb.1 fun z => z.elim hb.2 i)
    · exact (hb q).elim
theorem hg_G : Same D.G (hg D s ks) := fun b o e => hg_of e
theorem hg_some {b : Addr} {u : HO} (e : hg D s ks b = some u) : D.G b = some u ∨ ∃ o, s.heap.get? b = some o ∧ ((∃ xs, ks.lookup b = some xs ∧ u = .frz o (.tup xs)) ∨ u = .ext fun h => h.get? b = some o) := by
  unfold hg at e
  cases hG : D.G b with
  | some v => rw [hG] at e; exact .inl e
  | none =>
    rw [hG] at e
    refine .inr ?_
    cases q : s.heap.get? b with
    | none => rw [q] at e; cases e
    | some o =>
      rw [q] at e
      have e : (match ks.lookup b with | some xs => some (HO.frz o (.tup xs)) | none => if b < D.C ∨ b = D.C ∨ IterO o then none else some (.ext fun h => h.get? b = some o)) = some u := e
      refine ⟨o, rfl, ?_⟩
      cases q2 : ks.lookup b with
      | some xs => rw [q2] at e; exact .inl ⟨xs, rfl, (Option.some.inj e).symm⟩
      | none =>
        rw [q2] at e
        have e : (if b < D.C ∨ b = D.C ∨ IterO o then none else some (.ext fun h => h.get? b = some o)) = some u := e
        by_cases z : b < D.C ∨ b = D.C ∨ IterO o
        · rw [if_pos z] at e
          cases e
        · rw [if_neg z] at e
          exact .inr (Option.some.inj e).symm
theorem hg_hok (wk : Wk D s) (hk : KeepOk D ks s.heap) : HOk D.P D.w (hg D s ks) s.heap := fun b u e => by
  rcases hg_some e with e2 | ⟨o, ho, h⟩
  · exact (wk.hok b u e2).stay (fun _ _ _ q => q) (fun c q => hg_G _ _ q) fun c xs q => hg_G _ _ q
  · rcases h with ⟨xs, hl, rfl⟩ | rfl
    · obtain ⟨_, _, _, hz, its, rv, ht⟩ := hk (b, xs) (mem_lk hl)
      exact ⟨ho, hz, its, rv, ht⟩
    · exact ⟨ho, ⟨o, ho⟩, fun h1 h2 p q => q o p⟩
/-- a thing of a tuple's class that is tracked as one of G's kinds -/
theorem tup_kind {P : Program} {w : World} {H : Hp} {h : Heap} {b : Addr} {u : HO} {xs : List V} (hx : ObjOk P w H h b u) (t : TupR h b xs) (n1 : ∀ y, u = .own y → ∃ C fs, ObjOk P w H h y (.ins C b fs)) (n2 : ∀ φ, u ≠ .ext φ) (n3 : ∀ o v, u = .frz o v → ∃ ys, v = .tup ys) : u = .tup xs ∨ ∃ o, u = .frz o (.tup xs) := by
  obtain ⟨hz, its, r, o, e, hc, n, d⟩ := id t
  have cl : ∀ {o' : Obj}, h.get? b = some o' → o'.cls = .type "tuple" ∧ o'.data = .seq its.toArray n := fun {o'} e' => by
    rw [e] at e'
    cases e'
    exact ⟨hc, d⟩
  cases u with
  | tup ys => exact .inl (by rw [TupR.inj (show TupR h b ys from hx) t])
  | lst ys =>
    obtain ⟨_, _, _, _, e'⟩ := hx
    exact absurd (Value.type.inj (cl e').1) (by decide)
  | dK kvs =>
    obtain ⟨_, _, vs, _, o', es, ep, e', _, hd, _⟩ := hx
    rw [(cl e').2] at hd
    cases hd
  | dT kvs =>
    obtain ⟨_, _, xs', _, o', es, ep, e', _, hd, _⟩ := hx
    rw [(cl e').2] at hd
    cases hd
  | set S k =>
    obtain ⟨o', es, ep, t', e', hcl, hd, _⟩ := hx
    rw [(cl e').2] at hd
    cases hd
  | ins C dx fs =>
    obtain ⟨_, _, _, e', _⟩ := hx
    have := (cl e').1
    cases this
  | own y =>
    obtain ⟨C, fs, _, _, _, _, mA, ⟨od, es, ep, e', hd, _⟩, _⟩ := n1 y rfl
    rw [(cl e').2] at hd
    cases hd
  | xd fs =>
    obtain ⟨mA, ⟨od, es, ep, e', hd, _⟩, _⟩ := hx
    rw [(cl e').2] at hd
    cases hd
  | rng lo hi =>
    obtain ⟨_, _, _, e'⟩ := hx
    exact absurd (Value.type.inj (cl e').1) (by decide)
  | frz o' v =>
    obtain ⟨ys, rfl⟩ := n3 o' v rfl
    exact .inr ⟨o', by rw [TupR.inj (show TupR h b ys from hx.2) t]⟩
  | tbl ps =>
    have e' : h.get? b = some { cls := .none, data := .fields ps } := hx
    have := (cl e').1
    cases this
  | met f x =>
    have e' : h.get? b = some (PySem.W.methodObj (.ref f) (.ref x)) := hx
    have := (cl e').2
    cases this
  | ext φ => exact (n2 φ rfl).elim
/-- what it kept is read again -/
theorem keepR (ok : D.Ok) (wk : Wk D s) (hk : KeepOk D ks s.heap) {b : Addr} {xs : List V} (e : (b, xs) ∈ ks) : Rd (hg D s ks) b (.tup xs) := by
  obtain ⟨hC, hB, hF, t⟩ := hk _ e
  cases hG : D.G b with
  | some u =>
    have hx := wk.hok b u hG
    have hkd := (ok.GC b u hG).2
    rcases tup_kind hx t (fun y hy => by
      obtain ⟨C, fs, q⟩ := ok.own b y (by rw [hG, hy])
      exact ⟨C, fs, wk.hok y _ q⟩) (fun φ hy => by rw [hy] at hkd; exact hkd) (fun o v hy => by
      rw [hy] at hkd
      cases v with
      | tup ys => exact ⟨ys, rfl⟩
      | _ => exact hkd.elim) with q | ⟨o, q⟩
    · exact .inl (by rw [hg_of hG, q])
    · exact .inr ⟨o, by rw [hg_of hG, q]⟩
  | none =>
    obtain ⟨hz, its, r, o, ho, hc, d⟩ := id t
    have hl : ks.lookup b ≠ none := fun z => by
      have := (List.lookup_eq_none_iff.mp z) _ e
      simp at this
    rcases hg_there (D := D) (s := s) (ks := ks) hG (.inr hl) ho (t.noIter ho) with ⟨ys, h1, h2⟩ | h2
    · have q : ys = xs := TupR.inj (hk _ (mem_lk h1)).2.2.2 t
      rw [q] at h2
      exact .inr ⟨o, h2⟩
    · exfalso
      rcases hg_some h2 with q | ⟨o', _, q⟩
      · rw [hG] at q; cases q
      · unfold hg at h2
        rw [hG, ho] at h2
        have h2 : (match ks.lookup b with | some xs => some (HO.frz o (.tup xs)) | none => if b < D.C ∨ b = D.C ∨ IterO o then none else some (.ext fun h => h.get? b = some o)) = some (HO.ext fun h => h.get? b = some o) := h2
        cases q2 : ks.lookup b with
        | none => exact hl q2
        | some ys => rw [q2] at h2; cases h2
end
/-- the kinds that G holds are told by what stands there -/
theorem kd_cut {D : GD} (ok : D.Ok) {H : Hp} {h : Heap} (hs : Same D.G H) (x : HOk D.P D.w H h) : HOk D.P D.w D.G h := fun b o e => by
  have hx := x b o (hs _ _ e)
  have hk := (ok.GC b o e).2
  cases o with
  | tup xs => exact hx
  | dK kvs => exact hx
  | ins C dx fs =>
    obtain ⟨d, r⟩ := hx
    exact ⟨ok.ins b C dx fs e, r⟩
  | own y => exact hx
  | frz o u =>
    cases u with
    | tup xs => exact hx
    | _ => exact hk.elim
  | _ => exact hk.elim
/-- behind a turn -/
structure Kp (D : GD) (s0 s : Shared) : Prop where
  os : s.os = s0.os
  bare : AllBare s.gens
  keep : ∀ b o, b ∉ frs D.outer → ¬ Chg D.C s0.heap b → D.G b = none → s0.heap.get? b = some o → s.heap.get? b = some o
  slot : ∀ b o, b ∈ frs D.outer → s0.heap.get? b = some o → ∃ sl, s.heap.get? b = some { o with slots := sl }
  hok : HOk D.P D.w D.G s.heap
/-- amid a turn that began in s0 -/
structure GSt (D : GD) (s0 : Shared) (ip : List (Addr × Obj)) (σ : L2.St) (H : Hp) (s : Shared) : Prop where
  ex : ∃ ks, Wk D s0 ∧ KeepOk D ks s0.heap ∧ Inv (D.X s0 (hg D s0 ks)) ip σ H s ∧ Same (hg D s0 ks) H
section
variable {D : GD} {s0 s : Shared} {ip : List (Addr × Obj)} {σ : L2.St} {H : Hp}
theorem GSt.kp (ok : D.Ok) (g : GSt D s0 ip σ H s) : Kp D s0 s := by
  obtain ⟨ks, wk, hk, I, sm⟩ := g.ex
  refine ⟨I.os, I.bare, fun b o hf hc hG e => ?_, fun b o hf e => ?_, kd_cut ok (hg_G.trans sm) I.hok⟩
  · cases hl : ks.lookup b with
    | some xs =>
      have hi : ¬ IterO o := (hk _ (mem_lk hl)).2.2.2.noIter e
      rcases hg_there (s := s0) (ks := ks) hG (.inr (by rw [hl]; exact fun z => nomatch z)) e hi with ⟨xs, _, q⟩ | q
      · exact (I.hok b _ (sm _ _ q)).1
      · exact (I.hok b _ (sm _ _ q)).1
    | none =>
      rcases Nat.lt_trichotomy b D.C with hb | hb | hb
      · exact I.base.keep b o ((cut_get hb).trans e) (hg_lt hb hG hl) hf (by simp)
      · exact (hc (.inl hb)).elim
      · have hi : ¬ IterO o := fun z => hc (.inr ⟨hb, o, e, z⟩)
        rcases hg_there (s := s0) (ks := ks) hG (.inl ⟨Nat.not_lt.mpr (Nat.le_of_lt hb), Nat.ne_of_gt hb⟩) e hi with ⟨xs, _, q⟩ | q
        · exact (I.hok b _ (sm _ _ q)).1
        · exact (I.hok b _ (sm _ _ q)).1
  · obtain ⟨hb, hG⟩ := ok.frC b hf
    exact I.base.slot b o ((cut_get hb).trans e) (hg_lt hb hG (keep_no hk fun p hp z => (hk p hp).2.2.1 (by rw [z]; exact hf))) hf (by simp)
theorem GSt.sG (ok : D.Ok) (g : GSt D s0 ip σ H s) : Same D.G H := by
  obtain ⟨ks, wk, hk, I, sm⟩ := g.ex
  exact hg_G.trans sm
/-- all that an Inv of the frame wants, from the frame's own facts -/
theorem mkInv (ok : D.Ok) (wk : Wk D s) {ks : List (Addr × List V)} (hk : KeepOk D ks s.heap) (loc : ∃ m, s.heap.Ns D.C m ∧ ∀ (i : Nat) (x : Str) (v : V), D.N[i]? = some x → σ[i]? = some (some v) → Vis D.scope x → ∃ u, RelV v u ∧ m x = some u)
    (hpin : ∀ p ∈ ip, D.C < p.1 ∧ s.heap.get? p.1 = some p.2 ∧ IterO p.2 ∧ ∀ v, p.2.data ≠ .cell v) (hl : σ.length = D.N.length) : Inv (D.X s (hg D s ks)) ip σ (hg D s ks) s := by
  have noA : ∀ b : Addr, b ∉ (D.X s (hg D s ks)).ex := fun b z => absurd (show b ∈ ([] : List Addr) from z) (by simp)
  have ncl : ∀ x c, D.env.cells.lookup x = some c → False := fun x c e => by rw [ok.nocell] at e; cases e
  have frn : ∀ b, D.C < b → b ∉ frs D.outer := fun b hb z => Nat.lt_irrefl _ (Nat.lt_trans hb (ok.frC b z).1)
  refine ⟨⟨ok.mod, ok.kind, rfl, rfl, cut_size, fun y z c h1 _ => (ncl y c h1).elim, fun y hy => ?_, fun y c _ h => (ncl y c h).elim, fun _ => ok.hd, Around.frames_deeper ok.frames, .inr ⟨rfl, rfl⟩, fun b z => absurd z (noA b), fun b o e => ?_, ?_, fun b _ _ => noA b, fun b z => absurd z (noA b), ?_, fun b hb => ?_⟩,
    rfl, wk.bare, ?_, ?_, fun y c h => (ncl y c h).elim, hg_C ok hk, fun y c h => (ncl y c h).elim, fun p hp => ?_, hg_hok wk hk, hl⟩
  · have hy : D.scope.names.lookup y = some .cell ∨ D.scope.names.lookup y = some .free := hy
    rcases hy with hy | hy
    · exact ((ok.nc y).1 hy).elim
    · exact ((ok.nc y).2 hy).elim
  · obtain ⟨hb, hG⟩ := ok.bsC b o e
    exact ⟨(cut_get hb).trans (wk.bs b o e), hg_lt hb hG (keep_no hk fun p hp z => by
      have q := (hk p hp).2.1
      rw [z] at q
      rw [e] at q
      cases q)⟩
  · show D.base.objs.size ≤ (s.heap.objs.extract 0 D.C).size
    rw [Array.size_extract]
    exact Nat.le_sub_of_add_le (Nat.le_min.mpr ⟨ok.bsz, Nat.le_of_lt (Nat.lt_of_le_of_lt ok.bsz wk.sz)⟩)
  · have all : ∀ (l : List Env), (∀ b ∈ frs l, b < D.C) → s.heap.FunFrames D.base l → (cutHp s.heap D.C).FunFrames D.base l := by
      intro l
      induction l with
      | nil => intro _ _; trivial
      | cons env r ih =>
        intro hs hl
        obtain ⟨hk, ⟨L, o, hf, hn, ho, hd⟩, hr⟩ := hl
        have hL : L < D.C := hs L (by unfold frs; rw [List.filterMap_cons, hf]; exact List.mem_cons_self)
        exact ⟨hk, ⟨L, o, hf, hn, (cut_get hL).trans ho, hd⟩, ih (fun b hb => hs b (by unfold frs; rw [List.filterMap_cons, hf]; exact List.mem_cons_of_mem _ hb)) hr⟩
    exact all D.outer (fun b hb => (ok.frC b hb).1) wk.funs
  · obtain ⟨hb, hG⟩ := ok.frC b hb
    exact hg_lt hb hG (keep_no hk fun p hp z => (hk p hp).2.2.1 (by rw [z]; assumption))
  · have kk : ∀ b o, (cutHp s.heap D.C).get? b = some o → s.heap.get? b = some o := fun b o e => (cut_some e).2
    exact Un.kept kk
  · obtain ⟨m, hn, hm⟩ := loc
    refine ⟨m, hn, fun i x v h1 h2 h3 => ?_⟩
    obtain ⟨u, ru, e⟩ := hm i x v h1 h2 h3
    refine ⟨u, ru, .inl ⟨?_, e⟩⟩
    rcases h3 with h3 | h3 | h3
    · exact h3
    · exact ((ok.nc x).1 h3).elim
    · exact ((ok.nc x).2 h3).elim
  · have hp : p ∈ [] ++ ip := hp
    rw [List.nil_append] at hp
    obtain ⟨h1, h2, h3, h4⟩ := hpin p hp
    exact ⟨h2, hg_iter ok hk h1 h2 h3, Nat.ne_of_gt h1, frn _ h1, h4⟩
end
/-! ### the protocol -/
def ItemOk (D : GD) (it : V ⊕ List V) (v : Value) (s0 s1 : Shared) : Prop := match it with
  | .inl x => RelV x v
  | .inr xs => ∃ y, v = .ref y ∧ y ≠ D.C ∧ (∀ o, s0.heap.get? y = some o → Chg D.C s0.heap y) ∧ TupR s1.heap y xs
def ZOk (D : GD) (Z : List (Addr × Obj)) (v : Value) (s1 : Shared) : Prop := ∀ p ∈ Z, (p.1 = D.C ∨ (D.C < p.1 ∧ IterO p.2)) ∧ s1.heap.get? p.1 = some p.2 ∧ ∀ v, p.2.data ≠ .cell v
def YN (D : GD) : Protocol := fun n s0 v s1 kap => ∃ (i : Nat) (it : V ⊕ List V) (Z : List (Addr × Obj)) (ks : List (Addr × List V)), n + 1 + i = D.its.length ∧ D.its[i]? = some it ∧ ItemOk D it v s0 s1 ∧ Kp D s0 s1 ∧ (ZOk D Z v s1 ∧ ∃ oC, (D.C, oC) ∈ Z) ∧ KeepOk D ks s1.heap ∧
  ∀ s2, (∀ p ∈ Z, s2.heap.get? p.1 = some p.2) → KeepOk D ks s2.heap → Wk D s2 → kap (.send .none) s2
def RN (D : GD) : GenEnd := fun n s0 r s1 => ((r = .ok (.ret .none) ∨ r = .ok .next) ∧ (n = 0 ∧ Kp D s0 s1)) ∨ ∃ e, r = .error e ∧ (fun _ _ => False : Value → Shared → Prop) e s1
end GN
end
section
set_option Elab.async false
set_option linter.all false
set_option maxRecDepth 100000
set_option maxHeartbeats 4000000
namespace GN
open PySem PySem.Spec PyProof.Rows L2 GenW
/-! ### statements of such a def -/
structure NE where
  nx : Nat → L2.St → Hp → Prop
  rt : Nat → VK
  bk : Nat → L2.St → Hp → Prop := fun _ _ _ => False
  ct : Nat → L2.St → Hp → Prop := fun _ _ _ => False
abbrev TN := NE → Nat → L2.St → Hp → Prop
def NSP (D : GD) (s0 : Shared) (ip : List (Addr × Obj)) (E : NE) (i : Nat) (f : Flow) (s : Shared) : Prop := match f with
  | .next => ∃ σ H, GSt D s0 ip σ H s ∧ E.nx i σ H
  | .brk => ∃ σ H, GSt D s0 ip σ H s ∧ E.bk i σ H
  | .cont => ∃ σ H, GSt D s0 ip σ H s ∧ E.ct i σ H
  | .ret u => ∃ v σ H, GSt D s0 ip σ H s ∧ RelV v u ∧ E.rt i v H
structure NC (D : GD) (ip : List (Addr × Obj)) (c : Code) (fs : List Frame) (gd : Bool → Bool) : Prop where
  over : D.A.over c fs = D.A.deeper D.env
  split : splitAtGen fs = none
  guard : fs.any Frame.guarded = false
  gd : gd false = false
  ip : ∀ p ∈ ip, D.C < p.1 ∧ IterO p.2
abbrev SegN (D : GD) (n : Nat) (s0 : Shared) (c : Code) (t : Sem PySem.Fin) (fs : List Frame) (s : Shared) : Prop := Seg (model D.P D.w) D.A (RN D) (YN D) n s0 c t fs s
structure NS (D : GD) (st : Stmt) (t : TN) : Prop where
  run : ∀ (ip : List (Addr × Obj)) (n i : Nat) (s0 : Shared) (c : Code) (fs : List Frame) (K : Flow → Sem PySem.Fin) (J : Value → Sem PySem.Fin) (gd : Bool → Bool) (lv : List Value → List Value) (s : Shared) (σ : L2.St) (H : Hp) (E : NE),
    D.Ok → NC D ip c fs gd → n + i = D.its.length → (∀ (n i : Nat) (s0 s : Shared) (f : Flow), n + i = D.its.length → NSP D s0 ip E i f s → SegN D n s0 c (K f) fs s) → GSt D s0 ip σ H s → t E i σ H → SegN D n s0 c ((exec st D.env).wrap K J gd lv) fs s
structure NSs (D : GD) (sts : List Stmt) (t : TN) : Prop where
  run : ∀ (ip : List (Addr × Obj)) (n i : Nat) (s0 : Shared) (c : Code) (fs : List Frame) (K : Flow → Sem PySem.Fin) (J : Value → Sem PySem.Fin) (gd : Bool → Bool) (lv : List Value → List Value) (s : Shared) (σ : L2.St) (H : Hp) (E : NE),
    D.Ok → NC D ip c fs gd → n + i = D.its.length → (∀ (n i : Nat) (s0 s : Shared) (f : Flow), n + i = D.its.length → NSP D s0 ip E i f s → SegN D n s0 c (K f) fs s) → GSt D s0 ip σ H s → t E i σ H → SegN D n s0 c ((execs sts D.env).wrap K J gd lv) fs s
section
variable {D : GD} {st : Stmt} {sts : List Stmt}
def tNPlain (t : TS) : TN := fun E i σ H => t { nx := fun σ' H' => Same H H' ∧ E.nx i σ' H', rt := fun v H' => Same H H' ∧ E.rt i v H', bk := fun σ' H' => Same H H' ∧ E.bk i σ' H', ct := fun σ' H' => Same H H' ∧ E.ct i σ' H' } σ H
theorem ns_plain {t : TS} (h : ∀ s H, PS (D.X s H) st t) : NS D st (tNPlain t) := by
  refine ⟨fun ip n i s0 c fs K J gd lv s σ H E ok g hn k hG ht => ?_⟩
  obtain ⟨ks, wk, hk, I, sm⟩ := hG.ex
  refine seg_wrap ?_
  rw [g.over]
  refine wpAny_mono ((h s0 (hg D s0 ks)).run _ s σ H _ I ht) (fun f s' hs => k n i s0 s' f hn ?_) fun x s' hx => (show False from hx).elim
  cases f with
  | next => obtain ⟨σ', H', I', sm', q⟩ := hs; exact ⟨σ', H', ⟨ks, wk, hk, I', sm.trans sm'⟩, q⟩
  | brk => obtain ⟨σ', H', I', sm', q⟩ := hs; exact ⟨σ', H', ⟨ks, wk, hk, I', sm.trans sm'⟩, q⟩
  | cont => obtain ⟨σ', H', I', sm', q⟩ := hs; exact ⟨σ', H', ⟨ks, wk, hk, I', sm.trans sm'⟩, q⟩
  | ret u => obtain ⟨v, σ', H', I', r, sm', q⟩ := hs; exact ⟨v, σ', H', ⟨ks, wk, hk, I', sm.trans sm'⟩, r, q⟩
def tN0 : TN := fun E i σ H => E.nx i σ H
theorem nss_nil : NSs D [] tN0 := ⟨fun ip n i s0 c fs K J gd lv s σ H E ok g hn k hG ht => seg_execs_nil (k n i s0 s .next hn ⟨σ, H, hG, ht⟩)⟩
def tNThen (t u : TN) : TN := fun E i σ H => t { E with nx := fun i' σ' H' => u E i' σ' H' } i σ H
theorem nss_cons {t u : TN} (a : NS D st t) (b : NSs D sts u) : NSs D (st :: sts) (tNThen t u) := by
  refine ⟨fun ip n i s0 c fs K J gd lv s σ H E ok g hn k hG ht => ?_⟩
  refine seg_execs_cons ?_
  refine a.run ip n i s0 c fs _ J gd lv s σ H { E with nx := fun i' σ' H' => u E i' σ' H' } ok g hn (fun n' i' s0' s' f hn' hs => ?_) hG ht
  cases f with
  | next =>
    obtain ⟨σ', H', G', q⟩ := hs
    exact b.run ip n' i' s0' c fs K J gd lv s' σ' H' E ok g hn' k G' q
  | brk => exact k n' i' s0' s' .brk hn' hs
  | cont => exact k n' i' s0' s' .cont hn' hs
  | ret u => exact k n' i' s0' s' (.ret u) hn' hs
theorem nss_one {t : TN} (a : NS D st t) : NSs D [st] (tNThen t tN0) := nss_cons a nss_nil
def tNIf (tc : TT) (ta tb : TN) : TN := fun E i σ H => tc σ H fun b H1 => Same H H1 ∧ if b = true then ta E i σ H1 else tb E i σ H1
theorem ns_if {test : Expr} {body orelse : List Stmt} {pos : Pos} {tc : TT} {ta tb : TN} (hc : ∀ s H, PT (D.X s H) test tc) (ha : NSs D body ta) (hb : NSs D orelse tb) : NS D (.If test body orelse pos) (tNIf tc ta tb) := by
  refine ⟨fun ip n i s0 c fs K J gd lv s σ H E ok g hn k hG ht => ?_⟩
  obtain ⟨ks, wk, hk, I, sm⟩ := hG.ex
  rw [exec_If]
  refine seg_bind_wrap (wpAny_standAt ?_)
  refine seg_bind_wrap ?_
  rw [g.over]
  refine wpAny_mono ((hc s0 (hg D s0 ks)).run _ s σ H _ I ht) (fun b s' hs => ?_) fun x s' hx => (show False from hx).elim
  obtain ⟨H', I', sm', q⟩ := hs
  have G' : GSt D s0 ip σ H' s' := ⟨ks, wk, hk, I', sm.trans sm'⟩
  cases b with
  | true => exact ha.run ip n i s0 c fs K J gd lv s' σ H' E ok g hn k G' q
  | false => exact hb.run ip n i s0 c fs K J gd lv s' σ H' E ok g hn k G' q
/-! ### yield -/
def ItemV (it : V ⊕ List V) (x : V) (H H1 : Hp) : Prop := match it with
  | .inl y => x = y
  | .inr xs => ∃ y, x = .ref y ∧ H y = none ∧ H1 y = some (.tup xs)
def tNYield (D : GD) (te : TE) : TN := fun E i σ H => ∃ it, D.its[i]? = some it ∧ te σ H fun x H1 => Same H H1 ∧ ItemV it x H H1 ∧ ∃ ks : List (Addr × List V), (∀ p ∈ ks, Rd H1 p.1 (.tup p.2)) ∧
  ∀ H2, Same D.G H2 → (∀ p ∈ ks, Rd H2 p.1 (.tup p.2)) → E.nx (i + 1) σ H2
theorem ns_yield {e : Expr} {yp pos : Pos} {te : TE} (he : ∀ s H, PE (D.X s H) e te) (hco : D.scope.isCoroutine = false) (hi : ∀ s H, interactive (D.X s H).env = false) : NS D (.Expr (.Yield (some e) yp) pos) (tNYield D te) := by
  refine ⟨fun ip n i s0 c fs K J gd lv s σ H E ok g hn k hG ht => ?_⟩
  obtain ⟨it, hit, ht⟩ := ht
  have hlt : i < D.its.length := (List.getElem?_eq_some_iff.mp hit).1
  obtain ⟨n, rfl⟩ : ∃ m, n = m + 1 := ⟨n - 1, by omega⟩
  obtain ⟨ks0, wk, hk0, I, sm⟩ := id hG.ex
  refine seg_Expr_Yield g.split g.gd g.guard ?_ hco (hi s0 H)
  rw [g.over]
  refine wpAny_mono ((he s0 (hg D s0 ks0)).run _ s σ H _ I ht) (fun v s1 hv => ?_) fun x s' hx => (show False from hx).elim
  obtain ⟨x, H1, I1, rx, sm1, hit1, ks, hks, q⟩ := hv
  have G1 : GSt D s0 ip σ H1 s1 := ⟨ks0, wk, hk0, I1, sm.trans sm1⟩
  intro kap hkap
  obtain ⟨m, hns, hl⟩ := id I1.loc
  obtain ⟨oC, es, ep, hoC, hdC, rC⟩ := id hns
  have rdk : ∀ {t : Addr} {xs : List V}, Rd H1 t (.tup xs) → t ≠ D.C ∧ D.base.get? t = none ∧ t ∉ frs D.outer ∧ TupR s1.heap t xs := fun {t xs} hr => by
    have hx := hr.ok I1.hok
    have hne : H1 t ≠ none := fun z => by
      rcases hr with r | ⟨o, r⟩ <;> rw [z] at r <;> cases r
    refine ⟨fun z => hne (by rw [z]; exact I1.free), ?_, fun z => hne (I1.stkFree t (List.mem_cons_of_mem _ z)), hx.1, hx.2⟩
    cases e : D.base.get? t with
    | none => rfl
    | some o => exact (hne (I1.bs t o e).2).elim
  have hkk : KeepOk D ks s1.heap := fun p hp => rdk (hks p hp)
  refine ⟨i, it, (D.C, oC) :: ip, ks, by omega, hit, ?_, G1.kp ok, ⟨fun p hp => ?_, oC, List.mem_cons_self⟩, hkk, fun s2 hz hk2 wk2 => hkap .none s2 ?_⟩
  · cases it with
    | inl y =>
      obtain rfl : x = y := hit1
      exact rx
    | inr xs =>
      obtain ⟨y, rfl, hy0, hy1⟩ := hit1
      obtain rfl : v = Value.ref y := rx
      obtain ⟨d1, d2, d3, d4⟩ := rdk (.inl hy1)
      have hgy : hg D s0 ks0 y = none := by
        cases e : hg D s0 ks0 y with
        | none => rfl
        | some u =>
          rw [sm _ _ e] at hy0
          cases hy0
      have hGy : D.G y = none := by
        cases e : D.G y with
        | none => rfl
        | some u => rw [hg_of e] at hgy; cases hgy
      refine ⟨y, rfl, d1, fun o ho => ?_, d4⟩
      rcases Nat.lt_trichotomy y D.C with hb | hb | hb
      · have := I1.base.free y o ((cut_get hb).trans ho) hgy (by simp)
        rw [hy1] at this
        cases this
      · exact (d1 hb).elim
      · refine .inr ⟨hb, o, ho, ?_⟩
        by_cases hi : IterO o
        · exact hi
        · exfalso
          rcases hg_there (s := s0) (ks := ks0) hGy (.inl ⟨Nat.not_lt.mpr (Nat.le_of_lt hb), Nat.ne_of_gt hb⟩) ho hi with ⟨xs, _, q⟩ | q <;> rw [q] at hgy <;> cases hgy
  · rcases List.mem_cons.mp hp with e | hp
    · rw [e]
      exact ⟨.inl rfl, hoC, fun v z => by rw [hdC] at z; cases z⟩
    · obtain ⟨h1, _, _, _, h5⟩ := I1.pin p (by show p ∈ [] ++ ip; rw [List.nil_append]; exact hp)
      exact ⟨.inr (g.ip p hp), h1, h5⟩
  · refine k n (i + 1) s2 s2 .next (by omega) ⟨σ, hg D s2 ks, ⟨ks, wk2, hk2, mkInv ok wk2 hk2 ⟨m, ⟨oC, es, ep, hz _ List.mem_cons_self, hdC, rC⟩, fun j x v h1 h2 h3 => ?_⟩ (fun p hp => ?_) I1.len, fun _ _ e => e⟩, q _ hg_G fun p hp => keepR ok wk2 hk2 hp⟩
    · obtain ⟨u, ru, lo⟩ := hl j x v h1 h2 h3
      rcases lo with ⟨_, e⟩ | ⟨hkd, _⟩
      · exact ⟨u, ru, e⟩
      · have hkd : D.scope.names.lookup x = some .cell ∨ D.scope.names.lookup x = some .free := hkd
        rcases hkd with z | z
        · exact ((ok.nc x).1 z).elim
        · exact ((ok.nc x).2 z).elim
    · obtain ⟨h1, h2⟩ := g.ip p hp
      obtain ⟨_, _, _, _, h5⟩ := I1.pin p (by show p ∈ [] ++ ip; rw [List.nil_append]; exact hp)
      exact ⟨h1, hz p (List.mem_cons_of_mem _ hp), h2, h5⟩
end
end GN
end
section
set_option Elab.async false
set_option linter.all false
set_option maxRecDepth 100000
set_option maxHeartbeats 4000000
namespace GN
open PySem PySem.Spec PyProof.Rows L2 GenW
theorem nc_loop {D : GD} {ip ip' : List (Addr × Obj)} {c c' : Code} {fs : List Frame} {gd : Bool → Bool} {k : Result → Sem PySem.Fin} {l kp : List Value} {p : Pos} (g : NC D ip c fs gd) (hw : c'.weight = 0) (hu : c'.cUnits = 0) (hip : ∀ p ∈ ip', D.C < p.1 ∧ IterO p.2) :
    NC D ip' c' (.ret k none (gd false) l c p kp :: fs) id where
  over := (over_loop hw hu).trans g.over
  split := by
    show (splitAtGen fs).map _ = none
    rw [g.split]; rfl
  guard := by
    show (gd false || fs.any Frame.guarded) = false
    rw [g.gd, g.guard]; rfl
  gd := rfl
  ip := hip
theorem seg_ForN {M : Model} {A : Around} {R : GenEnd} {Y : Protocol} {n : Nat} {s₀ : Shared} {c : Code} {fs : List Frame} {s : Shared} {env : Env} {target iter : Expr} {body : List Stmt} {pos : Pos} {K : Flow → Sem PySem.Fin} {J : Value → Sem PySem.Fin} {gd : Bool → Bool} {lv : List Value → List Value}
    (h : wpAny M (A.over c fs) (eval iter env) (fun v s₁ => wpAny M (A.over c fs) (pyIter v) (fun it s₂ => ∀ p, Seg M A R Y n s₀ (.forLoop target it body [] env) (M.den (.forLoop target it body [] env))
      (.ret (fun r => ((match r with | .ok f => (.pure f : Sem Flow) | .error e => .raise e).onRaise (cameBack env)).wrap K J gd lv) none (gd false) (lv []) c p [] :: fs) s₂) (fun _ _ => False) s₁) (fun _ _ => False) s)
    (hs : ∀ x, foldedSetIterable iter env x = pure x := by intro _; rfl) : Seg M A R Y n s₀ c ((exec (.For target iter body [] pos) env).wrap K J gd lv) fs s := by
  rw [exec_For]
  refine seg_bind_wrap (wpAny_standAt ?_)
  refine seg_bind_wrap (wpAny_mono h (fun v s₁ h₁ => ?_) fun _ _ z => z.elim)
  refine seg_bind_wrap (wpAny_of_eq (hs v) ?_)
  refine seg_bind_wrap (wpAny_standAt ?_)
  refine seg_bind_wrap (wpAny_holding (wpAny_mono h₁ (fun it s₂ h₂ => ?_) fun _ _ z => z.elim))
  exact seg_call h₂
/-- the reading of a walk in such a def -/
def tNWalk (J : It) (g : TG) (tb : TN) : TN := fun E i σ H => ∃ W : Nat → Nat → Nat → L2.St → Hp → Prop, (∃ m, W 0 m i σ H) ∧ ∀ j m i σ H, W j m i σ H → (J.stop j H ∧ E.nx i σ H) ∨
  (J.go j H ∧ ∃ Nx : Nat → L2.St → Hp → Prop, (∀ i' σ' H', Nx i' σ' H' → ∃ m', m' < m ∧ W (j + 1) m' i' σ' H') ∧ ∀ x H', J.yld j H x H' → Same H H' ∧ g x σ H' fun σ2 H2 => Same H' H2 ∧ tb { E with nx := Nx, ct := Nx, bk := E.nx } i σ2 H2)
theorem objs_of {h : Heap} : ∀ {fp : List Addr}, (∀ b ∈ fp, ∃ o, h.get? b = some o ∧ ∀ v, o.data ≠ .cell v) → ∃ Z : List (Addr × Obj), (∀ p ∈ Z, p.1 ∈ fp ∧ h.get? p.1 = some p.2 ∧ ∀ v, p.2.data ≠ .cell v) ∧ ∀ b ∈ fp, ∃ o, (b, o) ∈ Z
  | [], _ => ⟨[], ⟨(fun p hp => by cases hp), fun b hb => by cases hb⟩⟩
  | b :: fp, hf => by
    obtain ⟨o, e, d⟩ := hf b List.mem_cons_self
    obtain ⟨Z, h1, h2⟩ := objs_of fun c hc => hf c (List.mem_cons_of_mem _ hc)
    refine ⟨(b, o) :: Z, fun p hp => ?_, fun c hc => ?_⟩
    · rcases List.mem_cons.mp hp with z | hp
      · rw [z]; exact ⟨List.mem_cons_self, e, d⟩
      · exact ⟨List.mem_cons_of_mem _ (h1 p hp).1, (h1 p hp).2⟩
    · rcases List.mem_cons.mp hc with z | hc
      · rw [z]; exact ⟨o, List.mem_cons_self⟩
      · obtain ⟨o', q⟩ := h2 c hc
        exact ⟨o', List.mem_cons_of_mem _ q⟩
section
variable {D : GD} {target : Expr} {body : List Stmt}
/-- the turns of a walk -/
theorem seg_walk {ip : List (Addr × Obj)} {fs : List Frame} {J : It} {g : TG} {tb : TN} {fp : List Addr} {it : Addr} {tn : Nat → Heap → Prop} {E : NE} (ok : D.Ok) (T : Turn D.P D.w D.K target J fp it tn) (hcls : ∀ j h, tn j h → ∀ b ∈ fp, ∀ o, h.get? b = some o → IterO o)
    (hfp : ∀ b ∈ fp, D.C < b ∧ ∀ p ∈ ip, p.1 ≠ b) (gc : NC D ip (.forLoop target (.ref it) body [] D.env) fs id) (hpg : ∀ s H, PG (D.X s H) target g) (hb : NSs D body tb)
    (W : Nat → Nat → Nat → L2.St → Hp → Prop) (turn : ∀ j m i σ H, W j m i σ H → (J.stop j H ∧ E.nx i σ H) ∨
      (J.go j H ∧ ∃ Nx : Nat → L2.St → Hp → Prop, (∀ i' σ' H', Nx i' σ' H' → ∃ m', m' < m ∧ W (j + 1) m' i' σ' H') ∧ ∀ x H', J.yld j H x H' → Same H H' ∧ g x σ H' fun σ2 H2 => Same H' H2 ∧ tb { E with nx := Nx, ct := Nx, bk := E.nx } i σ2 H2))
    (hend : ∀ n i s0 s f c, n + i = D.its.length → NSP D s0 ip E i f s → SegN D n s0 c (leafOf (.ok f)) fs s) :
    ∀ (m j n i : Nat) (s0 s : Shared) (σ : L2.St) (H : Hp), n + i = D.its.length → W j m i σ H → GSt D s0 ip σ H s → tn j s.heap → (∀ b ∈ fp, H b = none) →
      SegN D n s0 (.forLoop target (.ref it) body [] D.env) ((model D.P D.w).den (.forLoop target (.ref it) body [] D.env)) fs s := by
  have frn : ∀ b, D.C < b → b ∉ frs D.outer := fun b hb z => Nat.lt_irrefl _ (Nat.lt_trans hb (ok.frC b z).1)
  have fpok : ∀ {s0 : Shared} {H0 H : Hp}, (∀ b ∈ fp, H b = none) → ∀ b ∈ fp, FpOk (D.X s0 H0) ip H b := fun {s0 H0 H} hn b hb => by
    obtain ⟨h1, h2⟩ := hfp b hb
    refine ⟨hn b hb, Nat.ne_of_gt h1, frn b h1, .inr (Nat.le_trans cut_size (Nat.le_of_lt h1)), fun x c e => ?_, fun p hp => ?_⟩
    · have e : D.env.cells.lookup x = some c := e
      rw [ok.nocell] at e
      cases e
    · have hp : p ∈ [] ++ ip := hp
      rw [List.nil_append] at hp
      exact h2 p hp
  intro m
  induction m using Nat.strongRecOn with
  | ind m ih =>
    intro j n i s0 s σ H hn w G st hfH
    obtain ⟨ks, wk, hk, I, sm⟩ := G.ex
    show Seg _ _ _ _ n s0 _ ((forTurn target (.ref it) body [] D.env).onRaise (fun x => do noteFrame x D.env; theTreesLotGoes x)) fs s
    unfold forTurn
    rw [Sem.onRaise_eq_wrap]
    refine seg_bind_wrap (wpAny_standAt ?_)
    refine seg_bind_wrap (wpAny_onRaise ?_)
    rw [gc.over]
    rcases turn j m i σ H w with ⟨hst, hnx⟩ | ⟨hgo, Nx, hNx, hyl⟩
    · refine wpAny_mono (T.done (D.X s0 (hg D s0 ks)) rfl rfl rfl rfl j ip s σ H (fun _ _ => False) I (fpok hfH) st hst) (fun r s1 hr => ?_) fun x s' hx => hx.elim
      obtain ⟨rfl, I1⟩ := hr
      refine seg_again rfl ?_
      exact hend n i s0 s1 .next _ hn ⟨σ, H, ⟨ks, wk, hk, I1, sm⟩, hnx⟩
    · refine wpAny_mono (T.item (D.X s0 (hg D s0 ks)) rfl rfl rfl rfl j ip s σ H (fun _ _ => False) I (fpok hfH) st hgo) (fun r s1 hr => ?_) fun x s' hx => hx.elim
      obtain ⟨u, rfl, hr⟩ := hr
      refine seg_bind_wrap ?_
      rw [gc.over]
      refine wpAny_mono hr (fun _ s2 h2 => ?_) fun x s' hx => hx.elim
      obtain ⟨x, H1, I1, rx, hy, st1, hn1⟩ := h2
      obtain ⟨sm1, hgx⟩ := hyl x H1 hy
      refine seg_bind_wrap ?_
      rw [gc.over]
      obtain ⟨Z, hZ1, hZ2⟩ := objs_of (T.obj _ _ st1)
      have I2 : Inv (D.X s0 (hg D s0 ks)) (ip ++ Z) σ H1 s2 := I1.pins_of fun p hp => by
        rcases List.mem_append.mp hp with z | z
        · exact I1.pin p (by show p ∈ [] ++ ip; rw [List.nil_append]; exact z)
        · obtain ⟨h3, h4, h5⟩ := hZ1 p z
          exact ⟨h4, hn1 _ h3, Nat.ne_of_gt (hfp _ h3).1, frn _ (hfp _ h3).1, h5⟩
      refine wpAny_mono ((hpg s0 (hg D s0 ks)).run (ip ++ Z) s2 σ H1 x u _ I2 rx hgx) (fun _ s3 h3 => ?_) fun x s' hx => (show False from hx).elim
      obtain ⟨σ3, H3, I3, sm3, hb3⟩ := h3
      rw [Sem.bind_eq_wrap', Sem.wrap_wrap]
      have G3 : GSt D s0 (ip ++ Z) σ3 H3 s3 := ⟨ks, wk, hk, I3, (sm.trans sm1).trans sm3⟩
      refine hb.run (ip ++ Z) n i s0 _ fs _ _ id id s3 σ3 H3 { E with nx := Nx, ct := Nx, bk := E.nx } ok ⟨gc.over, gc.split, gc.guard, rfl, fun p hp => ?_⟩ hn (fun n' i' s0' s' f hn' hs => ?_) G3 hb3
      · rcases List.mem_append.mp hp with z | z
        · exact gc.ip p z
        · obtain ⟨h3, h4, h5⟩ := hZ1 p z
          exact ⟨(hfp _ h3).1, hcls _ _ st1 _ h3 _ h4⟩
      · have back : ∀ {σ' H'}, GSt D s0' (ip ++ Z) σ' H' s' → GSt D s0' ip σ' H' s' ∧ tn (j + 1) s'.heap ∧ ∀ b ∈ fp, H' b = none := fun {σ' H'} g' => by
          obtain ⟨ks', wk', hk', I', sm'⟩ := g'.ex
          have hp' : ∀ p ∈ ip ++ Z, s'.heap.get? p.1 = some p.2 ∧ H' p.1 = none ∧ p.1 ≠ D.C ∧ p.1 ∉ frs D.outer ∧ ∀ v, p.2.data ≠ .cell v := fun p hp => I'.pin p (by show p ∈ [] ++ (ip ++ Z); rw [List.nil_append]; exact hp)
          refine ⟨⟨ks', wk', hk', I'.pins_of fun p hp => hp' p (List.mem_append_left _ hp), sm'⟩, T.keep _ _ _ st1 fun b hb o e => ?_, fun b hb => ?_⟩
          · obtain ⟨o', q⟩ := hZ2 b hb
            have q1 := (hZ1 _ q).2.1
            rw [e] at q1
            rw [Option.some.inj q1]
            exact (hp' _ (List.mem_append_right _ q)).1
          · obtain ⟨o', q⟩ := hZ2 b hb
            exact (hp' _ (List.mem_append_right _ q)).2.1
        cases f with
        | next =>
          obtain ⟨σ', H', g', nx'⟩ := hs
          obtain ⟨m', hm, w'⟩ := hNx i' σ' H' nx'
          obtain ⟨b1, b2, b3⟩ := back g'
          exact seg_again rfl (ih m' hm (j + 1) n' i' s0' s' σ' H' hn' w' b1 b2 b3)
        | cont =>
          obtain ⟨σ', H', g', nx'⟩ := hs
          obtain ⟨m', hm, w'⟩ := hNx i' σ' H' nx'
          obtain ⟨b1, b2, b3⟩ := back g'
          exact seg_again rfl (ih m' hm (j + 1) n' i' s0' s' σ' H' hn' w' b1 b2 b3)
        | brk =>
          obtain ⟨σ', H', g', nx'⟩ := hs
          exact hend n' i' s0' s' .next _ hn' ⟨σ', H', (back g').1, nx'⟩
        | ret u =>
          obtain ⟨v, σ', H', g', r', q'⟩ := hs
          exact hend n' i' s0' s' (.ret u) _ hn' ⟨v, σ', H', (back g').1, r', q'⟩
end
end GN
end
section
set_option Elab.async false
set_option linter.all false
set_option maxRecDepth 100000
set_option maxHeartbeats 4000000
namespace GN
open PySem PySem.Spec PyProof.Rows PySem.Calls L2 GenW
section
variable {D : GD} {target : Expr} {body : List Stmt} {g : TG} {tb : TN}
/-- for target in e, e a tuple -/
def tNForT (K : PySem.W.Frag) (te : TE) (g : TG) (tb : TN) : TN := fun E i σ H => te σ H fun x H1 => ∃ a, x = .ref a ∧ (∃ xs, SqT K H1 a xs) ∧ Same H H1 ∧ tNWalk (Itt K a) g tb E i σ H1
theorem ns_forT {e : Expr} {te : TE} {pos : Pos} (he : ∀ s H, PE (D.X s H) e te) (hpg : ∀ s H, PG (D.X s H) target g) (hb : NSs D body tb) (hs : ∀ x, foldedSetIterable e D.env x = pure x := by intro _; rfl) : NS D (.For target e body [] pos) (tNForT D.K te g tb) := by
  refine ⟨fun ip n i s0 c fs K J gd lv s σ H E ok gc hn k hG ht => ?_⟩
  obtain ⟨ks, wk, hk, I, sm⟩ := id hG.ex
  refine seg_ForN ?_ hs
  rw [gc.over]
  refine thn ((he s0 (hg D s0 ks)).run _ s σ H _ I ht) fun v s1 hv => ?_
  obtain ⟨x, H1, I1, rx, a, rfl, ⟨xs, hq⟩, sm1, W, ⟨m, w0⟩, turn⟩ := hv
  obtain rfl : v = Value.ref a := rx
  obtain ⟨its, rv, ht2, _⟩ := I1.tuple hq
  refine iter_tuple ht2 fun p => ?_
  have kp : ∀ b o, s1.heap.get? b = some o → (s1.heap.push { cls := .type "tuple_iterator", data := .fields #[.ref a, .int 0 0] }).get? b = some o := fun b o e => Heap.get?_push_of_some _ e
  have I2 : Inv (D.X s0 (hg D s0 ks)) ip σ H1 { s1 with heap := s1.heap.push { cls := .type "tuple_iterator", data := .fields #[.ref a, .int 0 0] } } := I1.kept (t' := s1.toks) kp
  have hCl : D.C < s1.heap.objs.size := I1.lt
  have hfp : FpOk (D.X s0 (hg D s0 ks)) ip H1 s1.heap.objs.size := I1.fpOk (Nat.le_refl _) (I1.hok.fresh (Nat.le_refl _))
  refine seg_walk (J := Itt D.K a) (fp := [s1.heap.objs.size]) (tn := fun i h => h.IsTupleIter s1.heap.objs.size a i) (E := E) ok (turn_tuple a _) (fun j h st b hb o e => ?_) (fun b hb => ?_) (nc_loop gc rfl rfl gc.ip) hpg hb W turn (fun n' i' s0' s' f c' hn' hs' => ?_) m 0 n i s0 _ σ H1 hn w0 ⟨ks, wk, hk, I2, sm.trans sm1⟩ ⟨_, Heap.get?_push_size _ rfl, rfl, rfl⟩ (fun b hb => ?_)
  · rw [List.mem_singleton.mp hb] at e
    obtain ⟨o', e', hc, hd⟩ := st
    rw [e] at e'
    cases e'
    exact ⟨.inl hc, _, hd⟩
  · rw [List.mem_singleton.mp hb]
    exact ⟨hCl, fun p hp => hfp.2.2.2.2.2 p (by show p ∈ [] ++ ip; rw [List.nil_append]; exact hp)⟩
  · exact seg_leaf (.ok f) (k n' i' s0' s' f hn' hs')
  · rw [List.mem_singleton.mp hb]
    exact hfp.1
/-- for a, b in enumerate(e), e a tuple -/
def tNForE (K : PySem.W.Frag) (ta : TA) (g : TG) (tb : TN) : TN := fun E i σ H => ta σ H fun vs H1 => ∃ a, vs = [.ref a] ∧ (∃ xs, SqT K H1 a xs) ∧ Same H H1 ∧ tNWalk (IteT K a) g tb E i σ H1
theorem ns_forE {e : Expr} {ta : TA} {elts : List Expr} {kk : Nat} {tpos p pos pos2 : Pos} (hgl : ∀ s H, Gl (D.X s H) "enumerate") (hm : D.mg "enumerate" = none) (ha : ∀ s H, PA (D.X s H) [e] ta) (hpg : ∀ s H, PG (D.X s H) (.Tuple elts kk tpos) g) (hb : NSs D body tb)
    (hse : starEach [e] D.env = [(false, eval e D.env)]) (hs : ∀ x, foldedSetIterable (.Call (.Name "enumerate" p) [e] [] pos) D.env x = pure x := by intro _; rfl) : NS D (.For (.Tuple elts kk tpos) (.Call (.Name "enumerate" p) [e] [] pos) body [] pos2) (tNForE D.K ta g tb) := by
  refine ⟨fun ip n i s0 c fs K J gd lv s σ H E ok gc hn k hG ht => ?_⟩
  obtain ⟨ks, wk, hk, I, sm⟩ := id hG.ex
  refine seg_ForN ?_ hs
  rw [gc.over]
  refine Call_ (ld_blt I (hgl s0 _) hm boot_enumerate (PyProof.Rows.callWith_type1 (thn ((ha s0 (hg D s0 ks)).run pos _ s σ H _ I ht) fun us s1 ⟨vs, H1, I1, r1, q1⟩ => ?_) hse rfl))
  obtain ⟨a, ex, ⟨xs, hq⟩, sm1, W, ⟨m, w0⟩, turn⟩ := q1
  subst ex
  cases r1 with
  | cons r rr =>
    cases rr
    cases r
    obtain ⟨its, rv, p', hz⟩ := I1.tuple hq
    refine k0_enum_call (begins_tuple a its.toArray) p' fun h' he hit hsz' hk' => wpAny_pyIter_enum he fun p => ?_
    have I2 : Inv (D.X s0 (hg D s0 ks)) ip σ H1 { s1 with heap := h' } := I1.kept (t' := s1.toks) hk'
    have hCl : D.C < s1.heap.objs.size := I1.lt
    have hle : ∀ b ∈ [s1.heap.objs.size + 1, s1.heap.objs.size], s1.heap.objs.size ≤ b := fun b hb => by
      have e' : b = s1.heap.objs.size + 1 ∨ b = s1.heap.objs.size := by simpa using hb
      rcases e' with z | z
      · rw [z]; exact Nat.le_add_right _ _
      · rw [z]; exact Nat.le_refl _
    have hfp : ∀ b ∈ [s1.heap.objs.size + 1, s1.heap.objs.size], FpOk (D.X s0 (hg D s0 ks)) ip H1 b := fun b hb => I1.fpOk (hle b hb) (I1.hok.fresh (hle b hb))
    refine seg_walk (J := IteT D.K a) (fp := [s1.heap.objs.size + 1, s1.heap.objs.size]) (tn := fun i h => (∃ old, IsEnum h (s1.heap.objs.size + 1) s1.heap.objs.size ((i : Nat) : Int) old) ∧ h.IsTupleIter s1.heap.objs.size a i ∧ s1.heap.objs.size + 1 ≠ s1.heap.objs.size) (E := E) ok (turn_enumT a _ _) (fun j h st b hb o e => ?_) (fun b hb => ?_) (nc_loop gc rfl rfl gc.ip) hpg hb W turn (fun n' i' s0' s' f c' hn' hs' => ?_) m 0 n i s0 _ σ H1 hn w0 ⟨ks, wk, hk, I2, sm.trans sm1⟩ ⟨⟨.none, he⟩, ⟨_, hit, rfl, rfl⟩, Nat.succ_ne_self _⟩ (fun b hb => ?_)
    · obtain ⟨⟨old, h1⟩, ⟨o', e', hc, hd⟩, _⟩ := st
      have e2 : b = s1.heap.objs.size + 1 ∨ b = s1.heap.objs.size := by simpa using hb
      rcases e2 with z | z
      · rw [z] at e
        have h1 : h.get? (s1.heap.objs.size + 1) = some _ := h1
        rw [e] at h1
        rw [Option.some.inj h1]
        exact ⟨.inr rfl, _, rfl⟩
      · rw [z, e'] at e
        rw [← Option.some.inj e]
        exact ⟨.inl hc, _, hd⟩
    · exact ⟨Nat.lt_of_lt_of_le hCl (hle b hb), fun p hp => (hfp b hb).2.2.2.2.2 p (by show p ∈ [] ++ ip; rw [List.nil_append]; exact hp)⟩
    · exact seg_leaf (.ok f) (k n' i' s0' s' f hn' hs')
    · exact (hfp b hb).1
end
end GN
end
section
set_option Elab.async false
set_option linter.all false
set_option maxRecDepth 100000
set_option maxHeartbeats 4000000
namespace GN
open PySem PySem.Spec PyProof.Rows PySem.Calls L2 GenW
/-! ### the call of such a def -/
/-- what it may read: part of what is tracked -/
structure Good (G H : Hp) : Prop where
  sub : Same G H
  kd : ∀ b o, G b = some o → Kd o
  ins : ∀ b C dx fs, G b = some (.ins C dx fs) → G dx = some (.own b)
  own : ∀ c b, G c = some (.own b) → ∃ C fs, G b = some (.ins C c fs)
theorem good_hok {P : Program} {w : World} {G H : Hp} {h : Heap} (g : Good G H) (x : HOk P w H h) : HOk P w G h := fun b o e => by
  have hx := x b o (g.sub _ _ e)
  have hk := g.kd b o e
  cases o with
  | tup xs => exact hx
  | dK kvs => exact hx
  | ins C dx fs =>
    obtain ⟨d, r⟩ := hx
    exact ⟨g.ins b C dx fs e, r⟩
  | own y => exact hx
  | frz o u =>
    cases u with
    | tup xs => exact hx
    | _ => exact hk.elim
  | _ => exact hk.elim
/-- a generator that has not begun -/
def NMade (k : Nat) (outer : List Env) (s : Shared) (DD : Around → GD) (u : Value) (s' : Shared) : Prop :=
  ∃ (a g : Nat) (c : Code), u = .ref a ∧ s.heap.objs.size < a ∧ a < s'.heap.objs.size ∧ s'.heap.IsGen a g ∧ s'.gens[g]? = some (.fresh c) ∧ s'.os = s.os ∧ AllBare s'.gens ∧ (∀ b o, s.heap.get? b = some o → s'.heap.get? b = some o) ∧
    ∀ (A : Around), Room k A → A.frames = some outer → (DD A).Ok ∧ ∀ (s2 : Shared), (∀ b o, s'.heap.get? b = some o → s2.heap.get? b = some o) → Wk (DD A) s2 → SegN (DD A) (DD A).its.length s2 c ((model (DD A).P (DD A).w).den c) [] s2
section
variable {P : Program} {w : World} {K : PySem.W.Frag} {mg : Str → Option Value} {base : Heap}
abbrev mkD (P : Program) (w : World) (K : PySem.W.Frag) (mg : Str → Option Value) (base : Heap) (N : List Str) (q : Str) (scope : Scope) (f : Addr) (cd : Value) (C : Addr) (G : Hp) (its : List (V ⊕ List V)) (outer : List Env) (A : Around) : GD := ⟨P, w, K, mg, base, N, q, scope, f, cd, C, A, outer, G, its⟩
theorem gen_call {x q : Str} {pargs : Arguments} {body : List Stmt} {scope : Scope} {f : Addr} {fd : FuncData} {N ps : List Str} {k : Nat} {A : Around} {outer : List Env} {s : Shared} {H G : Hp} {args : Args} {us : List Value} {vs : List V} {its : List (V ⊕ List V)}
    (F : FunD K x q pargs body scope [] [] f fd) (S : GScope N ps scope) (hnc : ∀ n, cellsFrom n scope.names [] = []) (hns : ∀ y, scope.names.lookup y ≠ some .cell ∧ scope.names.lookup y ≠ some .free)
    (hr : Room (k + 1) A) (e0 : Env0 P w K mg base A outer s H) (hb : BindsTo s fd args (ps.zip us)) (hl : vs.length = ps.length) (r : Vals vs us) (gd : Good G H)
    (hbody : ∀ (cd : Value) (A' : Around), Room k (A'.deeper (envOfC q scope s.heap.objs.size f cd)) → ∃ t, NSs (mkD P w K mg base N q scope f cd s.heap.objs.size G its outer A') body t ∧ ∀ H2, Same G H2 → t { nx := fun i _ _ => i = its.length, rt := fun i v _ => v = .non ∧ i = its.length } 0 (start N vs) H2) :
    codeAny (model P w) A (.call (.ref f) args) (fun r s' => match r with | .ok (.ret u) => ∃ cd, NMade (k + 1) outer s (mkD P w K mg base N q scope f cd s.heap.objs.size G its outer) u s' | _ => False) s := by
  obtain ⟨oc, od, dV, kV, doc, pm, an, cdv, ct, osl, rfl, lk, hcd, _, _⟩ := F.ex
  have KX : K.In s.heap := e0.mod.kin.keeps fun b o e => (e0.bs b o e).1
  have lim : s.heap.NoLimit := e0.mod.nolimit.keeps fun b o e => (e0.bs b o e).1
  have hkind : ∀ y ∈ ps.zip us, scope.names.lookup y.1 = some .local ∨ (scope.names.lookup y.1 = some .cell ∧ ((cellsFrom (s.heap.objs.size + 1) scope.names []).lookup y.1).isSome = true) := fun ⟨n, v⟩ hy => by
    rcases S.par n (List.of_mem_zip hy).1 with q | q
    · exact .inl q
    · exact .inr ⟨q, PySem.W.cellsFrom_some _ _ _ (.inl q)⟩
  refine codeAny_call_generator hr.depth (KX _ _ lk) rfl S.co S.gen rfl (PySem.W.codeRec_of KX hcd) (hb _ _ _ _ ?_)
  refine wpAny_newFunctionEnv_cells S.kind hkind fun env he s1 x => ?_
  subst he
  have lim1 : s1.heap.NoLimit := lim.keeps x.toInCall.keep
  refine ⟨lim1, ?_⟩
  obtain ⟨h1, tk, es1, hk1⟩ := x.done
  have os1 : s1.os = s.os := by rw [es1]
  have gen1 : s1.gens = s.gens := by rw [es1]
  have lt1 : s.heap.objs.size < s1.heap.objs.size := x.toInCall.ns.lt
  have kp1 : ∀ b o, s.heap.get? b = some o → s1.heap.get? b = some o := x.toInCall.keep
  refine ⟨cdv, s1.heap.objs.size, s1.gens.size, _, rfl, lt1, ?_, ⟨_, _, _, Heap.get?_push_size _ rfl, rfl, rfl, rfl⟩, Array.getElem?_push_size .., os1, AllBare.push (by rw [gen1]; exact e0.bare) rfl, fun b o e => Heap.get?_push_of_some _ (kp1 b o e), fun Aw hrw hfr => ?_⟩
  · show _ < (s1.heap.push _).objs.size
    rw [Heap.size_push]
    exact Nat.lt_succ_self _
  have e0w : Env0 P w K mg base Aw outer s H := ⟨hfr, e0.mod, e0.bs, e0.bsz, e0.funs, e0.frf, e0.hok, e0.bare⟩
  have ok : (mkD P w K mg base N q scope f cdv s.heap.objs.size G its outer Aw).Ok := {
    mod := e0.mod
    kind := S.kind
    nocell := hnc _
    nc := hns
    hd := hrw.hd
    frames := hfr
    bsC := fun b o e => by
      obtain ⟨h1, h2⟩ := e0.bs b o e
      refine ⟨Heap.lt_size h1, ?_⟩
      cases q : G b with
      | none => exact q
      | some u => rw [gd.sub _ _ q] at h2; cases h2
    bsz := e0.bsz
    frC := fun b hb => by
      obtain ⟨_, o, ho, _⟩ := e0.funs.mem hb
      refine ⟨Heap.lt_size ho, ?_⟩
      cases q : G b with
      | none => exact q
      | some u => have := e0.frf b hb; rw [gd.sub _ _ q] at this; cases this
    GC := fun b o e => ⟨e0.hok.lt (gd.sub _ _ e), gd.kd b o e⟩
    ins := gd.ins
    own := gd.own }
  refine ⟨ok, fun s2 hk2 wk => ?_⟩
  have I1 : Inv (gcxOf P w K mg base N q scope f cdv Aw outer s H (fun _ _ _ => False) []) [] (start N vs) H s1 := inv_startG S hrw.hd e0w hl r x
  have kp2 : ∀ b o, s1.heap.get? b = some o → s2.heap.get? b = some o := fun b o e => hk2 b o (Heap.get?_push_of_some _ e)
  obtain ⟨t, ht, hq⟩ := hbody cdv Aw (hrw.deeper _)
  have hk0 : KeepOk (mkD P w K mg base N q scope f cdv s.heap.objs.size G its outer Aw) [] s2.heap := fun p hp => by cases hp
  have hG : GSt (mkD P w K mg base N q scope f cdv s.heap.objs.size G its outer Aw) s2 [] (start N vs) (hg (mkD P w K mg base N q scope f cdv s.heap.objs.size G its outer Aw) s2 []) s2 := by
    refine ⟨[], wk, hk0, mkInv ok wk hk0 ?_ (fun p hp => by cases hp) I1.len, fun _ _ e => e⟩
    obtain ⟨m, hn, hm⟩ := I1.loc
    refine ⟨m, ?_, fun i y v h1 h2 h3 => ?_⟩
    · obtain ⟨o, es, ep, ho, rr⟩ := hn
      exact ⟨o, es, ep, kp2 _ _ ho, rr⟩
    · obtain ⟨u, ru, lo⟩ := hm i y v h1 h2 h3
      rcases lo with ⟨_, e⟩ | ⟨hkd, _⟩
      · exact ⟨u, ru, e⟩
      · have hkd : scope.names.lookup y = some .cell ∨ scope.names.lookup y = some .free := hkd
        rcases hkd with z | z
        · exact ((hns y).1 z).elim
        · exact ((hns y).2 z).elim
  refine seg_func ?_
  refine ht.run [] its.length 0 s2 _ [] _ _ id id s2 _ _ { nx := fun i _ _ => i = its.length, rt := fun i v _ => v = .non ∧ i = its.length } ok ⟨over_func, rfl, rfl, rfl, fun p hp => by cases hp⟩ (Nat.add_zero _) (fun n i s0 s' fl hn hs => ?_) hG (hq _ (hg_G (D := mkD P w K mg base N q scope f cdv s.heap.objs.size G its outer Aw)))
  have hn : n + i = its.length := hn
  cases fl with
  | next =>
    obtain ⟨σ', H', g', e⟩ := hs
    have e : i = its.length := e
    exact seg_end (.ok (.ret .none)) (.inl ⟨.inl rfl, by omega, g'.kp ok⟩)
  | brk => obtain ⟨_, _, _, q⟩ := hs; exact False.elim q
  | cont => obtain ⟨_, _, _, q⟩ := hs; exact False.elim q
  | ret u =>
    obtain ⟨v, σ', H', g', rv, ev, e⟩ := hs
    subst ev
    have eu : u = Value.none := rv
    subst eu
    have e : i = its.length := e
    exact seg_end (.ok (.ret .none)) (.inl ⟨.inl rfl, by omega, g'.kp ok⟩)
end
end GN
end
section
set_option Elab.async false
set_option linter.all false
set_option maxRecDepth 100000
set_option maxHeartbeats 4000000
namespace GN
open PySem PySem.Spec PyProof.Rows PySem.Calls L2 GenW Classical
/-! ### who walks such a generator -/
theorem ObjOk.there {P : Program} {w : World} {H : Hp} {h : Heap} {a : Addr} {o : HO} (x : ObjOk P w H h a o) : ∃ u, h.get? a = some u := by
  cases o with
  | lst xs => obtain ⟨_, _, _, _, e⟩ := x; exact ⟨_, e⟩
  | tup xs => obtain ⟨_, _, _, o, e, _⟩ := x; exact ⟨_, e⟩
  | dK kvs => obtain ⟨_, _, _, _, o, _, _, e, _⟩ := x; exact ⟨o, e⟩
  | dT kvs => obtain ⟨_, _, _, _, o, _, _, e, _⟩ := x; exact ⟨o, e⟩
  | set S n => obtain ⟨o, _, _, _, e, _⟩ := x; exact ⟨o, e⟩
  | ins C dx fs => obtain ⟨_, _, _, e, _⟩ := x; exact ⟨_, e⟩
  | own y => exact x
  | xd fs => obtain ⟨_, ⟨o, _, _, e, _⟩, _⟩ := x; exact ⟨o, e⟩
  | rng lo hi => obtain ⟨_, _, _, e⟩ := x; exact ⟨_, e⟩
  | frz ob u => exact ⟨_, x.1⟩
  | tbl ps => exact ⟨_, (show h.get? a = some _ from x)⟩
  | met f y => exact ⟨_, (show h.get? a = some _ from x)⟩
  | ext φ => exact x.2.1
def OwnsO : HO → Addr → Prop
  | .ins _ dx _, b => dx = b
  | .frz _ u, b => OwnsO u b
  | _, _ => False
theorem objok_to {P : Program} {w : World} {H H' : Hp} {h : Heap} {a : Addr} {o : HO} (x : ObjOk P w H h a o) (ho : ∀ b, OwnsO o b → H b = some (.own a) → H' b = some (.own a)) (ht : ∀ b xs, H b = some (.tup xs) → H' b = some (.tup xs)) : ObjOk P w H' h a o := by
  induction o with
  | dT kvs =>
    obtain ⟨z, y, xs, r, ob, es, ep, e, c⟩ := x
    exact ⟨z, y, xs, Paired.mapP r fun p q z => ⟨z.1, ht _ _ z.2.1, z.2.2⟩, ob, es, ep, e, c⟩
  | ins C dx fs =>
    obtain ⟨d, r⟩ := x
    exact ⟨ho _ rfl d, r⟩
  | frz ob u ih => exact ⟨x.1, ih x.2 ho⟩
  | _ => exact x
/-- dangling own dicts and other things are forgotten -/
def Owns (H : Hp) (y b : Addr) : Prop := ∃ u, H y = some u ∧ OwnsO u b
/-- of other things those stay that are known to be no iterator and no tuple: things of fields -/
def FieldX (b : Addr) (φ : Heap → Prop) : Prop := ∀ h : Heap, φ h → ∃ (o : Obj) (vs : Array Value), h.get? b = some o ∧ o.data = .fields vs
noncomputable def prn (H : Hp) : Hp := fun b => match H b with
  | some (.own y) => if Owns H y b then some (.own y) else none
  | some (.ext φ) => if FieldX b φ then some (.ext φ) else none
  | u => u
theorem prn_of {H : Hp} {b : Addr} {o : HO} (e : H b = some o) (n1 : ∀ y, o ≠ .own y) (n2 : ∀ φ, o ≠ .ext φ) : prn H b = some o := by
  unfold prn
  rw [e]
  cases o <;> first | rfl | exact (n1 _ rfl).elim | exact (n2 _ rfl).elim
theorem prn_ext {H : Hp} {b : Addr} {φ : Heap → Prop} (e : H b = some (.ext φ)) (f : FieldX b φ) : prn H b = some (.ext φ) := by
  unfold prn
  rw [e]
  exact if_pos f
theorem prn_own {H : Hp} {b y : Addr} (e : H b = some (.own y)) (h : Owns H y b) : prn H b = some (.own y) := by
  unfold prn
  rw [e]
  exact if_pos h
theorem prn_some {H : Hp} {b : Addr} {o : HO} (e : prn H b = some o) : H b = some o ∧ (∀ φ, o = .ext φ → FieldX b φ) ∧ ∀ y, o = .own y → Owns H y b := by
  unfold prn at e
  cases q : H b with
  | none => rw [q] at e; cases e
  | some u =>
    rw [q] at e
    cases u with
    | own y =>
      have e : (if Owns H y b then some (HO.own y) else none) = some o := e
      by_cases z : Owns H y b
      · rw [if_pos z] at e
        cases e
        exact ⟨rfl, (fun φ z => by cases z), fun y' z' => by cases z'; exact z⟩
      · rw [if_neg z] at e
        cases e
    | ext φ =>
      have e : (if FieldX b φ then some (HO.ext φ) else none) = some o := e
      by_cases z : FieldX b φ
      · rw [if_pos z] at e
        cases e
        exact ⟨rfl, (fun φ' z' => by cases z'; exact z), fun y z => by cases z⟩
      · rw [if_neg z] at e
        cases e
    | _ =>
      cases e
      exact ⟨rfl, (fun φ z => by cases z), fun y z => by cases z⟩
theorem prn_none {H : Hp} {b : Addr} (e : H b = none) : prn H b = none := by
  unfold prn
  rw [e]
theorem prn_owns {H : Hp} {y b : Addr} (h : Owns H y b) : Owns (prn H) y b := by
  obtain ⟨u, e, q⟩ := h
  exact ⟨u, prn_of e (fun y z => by rw [z] at q; exact q) (fun φ z => by rw [z] at q; exact q), q⟩
theorem inv_prn {X : Cx} {pins : List (Addr × Obj)} {σ : L2.St} {H : Hp} {s : Shared} (I : Inv X pins σ H s) : Inv X pins σ (prn H) s := by
  refine ⟨I.ok, I.os, I.bare, ⟨I.base.keep, I.base.slot, fun b o e n hx => prn_none (I.base.free b o e n hx), I.base.there, fun b xs e => prn_of (I.base.tups b xs e) (fun _ z => by cases z) (fun _ z => by cases z), fun b o u e => prn_of (I.base.frzs b o u e) (fun _ z => by cases z) (fun _ z => by cases z), fun b ps e => ?_⟩, I.loc, I.cell, prn_none I.free, fun x c e => prn_none (I.freeC x c e), fun p hp => ?_, fun b u e => ?_, I.len⟩
  · obtain ⟨m, q⟩ := I.base.tbls b ps e
    exact ⟨m, prn_of q (fun _ z => by cases z) (fun _ z => by cases z)⟩
  · obtain ⟨h1, h2, h3⟩ := I.pin p hp
    exact ⟨h1, prn_none h2, h3⟩
  · obtain ⟨e1, _, _⟩ := prn_some e
    exact objok_to (I.hok b u e1) (fun c hc q => prn_own q ⟨u, e1, hc⟩) fun c xs q => prn_of q (fun _ z => by cases z) (fun _ z => by cases z)
/-- what such a generator may read: all but lists, and things that the walker may change -/
noncomputable def cutG (H : Hp) : Hp := fun b => match H b with
  | some (.tup xs) => some (.tup xs)
  | some (.dK kvs) => some (.dK kvs)
  | some (.frz o (.tup xs)) => some (.frz o (.tup xs))
  | some (.ins C dx fs) => some (.ins C dx fs)
  | some (.own y) => if ∃ C fs, H y = some (.ins C b fs) then some (.own y) else none
  | _ => none
theorem cutG_of {H : Hp} {b : Addr} {o : HO} (e : H b = some o) (n1 : ∀ y, o ≠ .own y) (k : Kd o) : cutG H b = some o := by
  unfold cutG
  rw [e]
  cases o with
  | tup xs => rfl
  | dK kvs => rfl
  | ins C dx fs => rfl
  | own y => exact (n1 y rfl).elim
  | frz o u =>
    cases u with
    | tup xs => rfl
    | _ => exact k.elim
  | _ => exact k.elim
theorem cutG_some {H : Hp} {b : Addr} {o : HO} (e : cutG H b = some o) : H b = some o ∧ Kd o ∧ ∀ y, o = .own y → ∃ C fs, H y = some (.ins C b fs) := by
  unfold cutG at e
  cases q : H b with
  | none => rw [q] at e; cases e
  | some u =>
    rw [q] at e
    cases u with
    | own y =>
      have e : (if ∃ C fs, H y = some (.ins C b fs) then some (HO.own y) else none) = some o := e
      by_cases z : ∃ C fs, H y = some (.ins C b fs)
      · rw [if_pos z] at e
        cases e
        exact ⟨rfl, trivial, fun y' z' => by cases z'; exact z⟩
      · rw [if_neg z] at e
        cases e
    | tup xs => cases e; exact ⟨rfl, trivial, fun y z => by cases z⟩
    | dK kvs => cases e; exact ⟨rfl, trivial, fun y z => by cases z⟩
    | ins C dx fs => cases e; exact ⟨rfl, trivial, fun y z => by cases z⟩
    | frz o u =>
      cases u with
      | tup xs => cases e; exact ⟨rfl, trivial, fun y z => by cases z⟩
      | _ => cases e
    | _ => cases e
theorem good_cut {P : Program} {w : World} {H : Hp} {h : Heap} (x : HOk P w H h) : Good (cutG H) (prn H) where
  sub := fun b o e => by
    obtain ⟨e1, k, n⟩ := cutG_some e
    cases o with
    | own y =>
      obtain ⟨C, fs, q⟩ := n y rfl
      exact prn_own e1 ⟨_, q, rfl⟩
    | ext φ => exact k.elim
    | _ => exact prn_of e1 (fun _ z => by cases z) (fun _ z => by cases z)
  kd := fun b o e => (cutG_some e).2.1
  ins := fun b C dx fs e => by
    have e1 := (cutG_some e).1
    obtain ⟨d, _⟩ := x b _ e1
    unfold cutG
    rw [d]
    exact if_pos ⟨C, fs, e1⟩
  own := fun c b e => by
    obtain ⟨e1, _, n⟩ := cutG_some e
    obtain ⟨C, fs, q⟩ := n b rfl
    exact ⟨C, fs, cutG_of q (fun _ z => by cases z) trivial⟩
theorem tup_kind2 {P : Program} {w : World} {H : Hp} {h : Heap} {b : Addr} {u : HO} {xs : List V} (hx : ObjOk P w H h b u) (t : TupR h b xs) (n1 : ∀ y, u = .own y → ∃ v, ObjOk P w H h y v ∧ OwnsO v b) (n2 : ∀ φ, u ≠ .ext φ) : u = .tup xs ∨ ∃ o v, u = .frz o v := by
  obtain ⟨hz, its, r, o, e, hc, n, d⟩ := id t
  have own : ∀ {v : HO} {y : Addr}, ObjOk P w H h y v → OwnsO v b → False := fun {v y} hv ho => by
    induction v with
    | ins C dx fs =>
      obtain ⟨_, _, _, _, mA, ⟨od, es, ep, e', hd, _⟩, _⟩ := hv
      have ho : dx = b := ho
      rw [ho, e] at e'
      cases e'
      rw [d] at hd
      cases hd
    | frz o' v ih => exact ih hv.2 ho
    | _ => exact ho
  by_cases q : ∃ o v, u = .frz o v
  · exact .inr q
  · by_cases q2 : ∃ y, u = .own y
    · obtain ⟨y, q2⟩ := q2
      obtain ⟨v, h1, h2⟩ := n1 y q2
      exact (own h1 h2).elim
    · refine .inl ((tup_kind hx t (fun y z => (q2 ⟨y, z⟩).elim) n2 fun o v z => (q ⟨o, v, z⟩).elim).elim id fun ⟨o, z⟩ => (q ⟨o, _, z⟩).elim)
end GN
end
section
set_option Elab.async false
set_option linter.all false
set_option maxRecDepth 100000
set_option maxHeartbeats 4000000
namespace GN
open PySem PySem.Spec PyProof.Rows PySem.Calls L2 GenW Classical
/-- the walker and the generator: what stands where -/
structure CO (X : Cx) (pins : List (Addr × Obj)) (D : GD) (Lk : List Addr) : Prop where
  hP : D.P = X.prog
  hw : D.w = X.w
  hbase : D.base = X.base
  hout : D.outer = X.stack
  low : ∀ b, D.C ≤ b → b ∈ X.ex ∨ X.s_0.heap.objs.size ≤ b ∨ b ∈ Lk
  loc : X.env.locals ≠ D.C
  cells : ∀ x c, X.env.cells.lookup x = some c → c ≠ D.C
  pins : ∀ p ∈ X.pn ++ pins, p.1 ≠ D.C ∧ (D.C < p.1 → ¬ IterO p.2)
/-- what the walker tracks meanwhile -/
structure CH (D : GD) (H : Hp) (Lk : List Addr) : Prop where
  sG : Same D.G H
  C : H D.C = none
  pl : ∀ b, D.C < b → H b = none ∨ (∃ xs, H b = some (.tup xs)) ∨ ∃ xs, H b = some (.lst xs)
  own : ∀ c b, H c = some (.own b) → Owns H b c
  ext : ∀ b φ, H b = some (.ext φ) → FieldX b φ
  lk : ∀ b ∈ Lk, H b ≠ none
section
variable {X : Cx} {pins : List (Addr × Obj)} {σ : L2.St} {H : Hp} {s s1 : Shared} {D : GD} {Lk : List Addr}
theorem CH.noChg (ch : CH D H Lk) {h : Heap} {b : Addr} {u : HO} (e : H b = some u) (x : ObjOk X.prog X.w H h b u) : ¬ Chg D.C h b := fun z => by
  rcases z with z | ⟨z, o, ho, hi⟩
  · rw [z, ch.C] at e
    cases e
  · rcases ch.pl b z with q | ⟨xs, q⟩ | ⟨xs, q⟩
    · rw [e] at q; cases q
    · rw [e] at q
      cases q
      exact TupR.noIter (show TupR h b xs from x) ho hi
    · rw [e] at q
      cases q
      obtain ⟨_, its, n, _, e'⟩ := x
      rw [ho] at e'
      cases e'
      rcases hi.1 with z | z <;> exact absurd (Value.type.inj z) (by decide)
theorem CH.laid (ch : CH D H Lk) {t : Addr} {u : HO} (hn : H t = none) (hC : t ≠ D.C) (hu : (∃ xs, u = .tup xs) ∨ ∃ xs, u = .lst xs) : CH D (upd H t u) Lk where
  sG := fun b o e => by
    have q := ch.sG _ _ e
    rw [upd_ne (ne_of_none q hn)]
    exact q
  C := by rw [upd_ne (Ne.symm hC)]; exact ch.C
  pl := fun b hb => by
    by_cases z : b = t
    · rw [z, upd_same]
      rcases hu with ⟨xs, rfl⟩ | ⟨xs, rfl⟩
      · exact .inr (.inl ⟨xs, rfl⟩)
      · exact .inr (.inr ⟨xs, rfl⟩)
    · rw [upd_ne z]
      exact ch.pl b hb
  own := fun c b e => by
    by_cases z : c = t
    · rw [z, upd_same] at e
      rcases hu with ⟨xs, rfl⟩ | ⟨xs, rfl⟩ <;> cases e
    · rw [upd_ne z] at e
      obtain ⟨v, h1, h2⟩ := ch.own c b e
      exact ⟨v, by rw [upd_ne (ne_of_none h1 hn)]; exact h1, h2⟩
  ext := fun b φ e => by
    by_cases z : b = t
    · rw [z, upd_same] at e
      rcases hu with ⟨xs, rfl⟩ | ⟨xs, rfl⟩ <;> cases e
    · rw [upd_ne z] at e
      exact ch.ext b φ e
  lk := fun b hb z => by
    by_cases q : b = t
    · rw [q, upd_same] at z
      cases z
    · rw [upd_ne q] at z
      exact ch.lk b hb z
/-- a list changes -/
theorem CH.list (ch : CH D H Lk) {L : Addr} {xs ys : List V} (hL : H L = some (.lst xs)) (hG : D.G L = none) : CH D (upd H L (.lst ys)) Lk where
  sG := fun b o e => by
    have q := ch.sG _ _ e
    rw [upd_ne fun z => by rw [z, hG] at e; cases e]
    exact q
  C := by
    rw [upd_ne fun z => by rw [← z, ch.C] at hL; cases hL]
    exact ch.C
  pl := fun b hb => by
    by_cases z : b = L
    · rw [z, upd_same]
      exact .inr (.inr ⟨ys, rfl⟩)
    · rw [upd_ne z]
      exact ch.pl b hb
  own := fun c b e => by
    by_cases z : c = L
    · rw [z, upd_same] at e
      cases e
    · rw [upd_ne z] at e
      obtain ⟨v, h1, h2⟩ := ch.own c b e
      exact ⟨v, by rw [upd_ne fun z => by rw [z, hL] at h1; cases h1; exact h2]; exact h1, h2⟩
  ext := fun b φ e => by
    by_cases z : b = L
    · rw [z, upd_same] at e
      cases e
    · rw [upd_ne z] at e
      exact ch.ext b φ e
  lk := fun b hb z => by
    by_cases q : b = L
    · rw [q, upd_same] at z
      cases z
    · rw [upd_ne q] at z
      exact ch.lk b hb z
/-- what the walker may do meanwhile: new tuples and lists, lists changed -/
structure Grow (H H' : Hp) : Prop where
  keep : ∀ b o, H b = some o → (∀ xs, o ≠ .lst xs) → H' b = some o
  lst : ∀ b xs, H b = some (.lst xs) → ∃ ys, H' b = some (.lst ys)
  new : ∀ b o, H b = none → H' b = some o → (∃ xs, o = .tup xs) ∨ ∃ xs, o = .lst xs
theorem Grow.refl {H : Hp} : Grow H H := ⟨fun _ _ e _ => e, fun _ xs e => ⟨xs, e⟩, fun b o h e => by rw [h] at e; cases e⟩
theorem Grow.trans {H H1 H2 : Hp} (a : Grow H H1) (b : Grow H1 H2) : Grow H H2 where
  keep := fun c o e n => b.keep c o (a.keep c o e n) n
  lst := fun c xs e => by
    obtain ⟨ys, q⟩ := a.lst c xs e
    exact b.lst c ys q
  new := fun c o e q => by
    cases e1 : H1 c with
    | none => exact b.new c o e1 q
    | some o1 =>
      rcases a.new c o1 e e1 with ⟨xs, rfl⟩ | ⟨xs, rfl⟩
      · rw [b.keep c _ e1 (fun _ z => by cases z)] at q
        cases q
        exact .inl ⟨xs, rfl⟩
      · obtain ⟨ys, q2⟩ := b.lst c xs e1
        rw [q2] at q
        cases q
        exact .inr ⟨ys, rfl⟩
theorem Grow.tup {H : Hp} {t : Addr} {xs : List V} (h : H t = none) : Grow H (upd H t (.tup xs)) where
  keep := fun b o e _ => by rw [upd_ne (ne_of_none e h)]; exact e
  lst := fun b ys e => ⟨ys, by rw [upd_ne (ne_of_none e h)]; exact e⟩
  new := fun b o e q => by
    by_cases z : b = t
    · rw [z, upd_same] at q
      cases q
      exact .inl ⟨xs, rfl⟩
    · rw [upd_ne z, e] at q
      cases q
theorem Grow.list {H : Hp} {t : Addr} {xs ys : List V} (h : H t = some (.lst xs)) : Grow H (upd H t (.lst ys)) where
  keep := fun b o e n => by
    rw [upd_ne fun z => by rw [z, h] at e; cases e; exact n _ rfl]
    exact e
  lst := fun b zs e => by
    by_cases z : b = t
    · exact ⟨ys, by rw [z, upd_same]⟩
    · exact ⟨zs, by rw [upd_ne z]; exact e⟩
  new := fun b o e q => by
    rw [upd_ne fun z => by rw [z, h] at e; cases e] at q
    rw [e] at q
    cases q
theorem CH.grow (ch : CH D H Lk) (ok : D.Ok) {H' : Hp} (g : Grow H H') (hC : H' D.C = none) : CH D H' Lk where
  sG := fun b o e => g.keep b o (ch.sG _ _ e) fun xs z => by
    have := (ok.GC b o e).2
    rw [z] at this
    exact this
  C := hC
  pl := fun b hb => by
    rcases ch.pl b hb with q | ⟨xs, q⟩ | ⟨xs, q⟩
    · cases e : H' b with
      | none => exact .inl rfl
      | some o =>
        rcases g.new b o q e with ⟨xs, rfl⟩ | ⟨xs, rfl⟩
        · exact .inr (.inl ⟨xs, rfl⟩)
        · exact .inr (.inr ⟨xs, rfl⟩)
    · exact .inr (.inl ⟨xs, g.keep _ _ q (fun _ z => by cases z)⟩)
    · obtain ⟨ys, q⟩ := g.lst _ _ q
      exact .inr (.inr ⟨ys, q⟩)
  own := fun c b e => by
    cases q : H c with
    | none => rcases g.new c _ q e with ⟨xs, z⟩ | ⟨xs, z⟩ <;> cases z
    | some o =>
      by_cases z : ∃ xs, o = .lst xs
      · obtain ⟨xs, rfl⟩ := z
        obtain ⟨ys, q2⟩ := g.lst _ _ q
        rw [q2] at e
        cases e
      · rw [g.keep _ _ q fun xs z2 => z ⟨xs, z2⟩] at e
        cases e
        obtain ⟨u, h1, h2⟩ := ch.own c b q
        exact ⟨u, g.keep _ _ h1 (fun xs z => by rw [z] at h2; exact h2), h2⟩
  ext := fun b φ e => by
    cases q : H b with
    | none => rcases g.new b _ q e with ⟨xs, z⟩ | ⟨xs, z⟩ <;> cases z
    | some o =>
      by_cases z : ∃ xs, o = .lst xs
      · obtain ⟨xs, rfl⟩ := z
        obtain ⟨ys, q2⟩ := g.lst _ _ q
        rw [q2] at e
        cases e
      · rw [g.keep _ _ q fun xs z2 => z ⟨xs, z2⟩] at e
        cases e
        exact ch.ext b φ q
  lk := fun b hb n => by
    cases q : H b with
    | none => exact ch.lk b hb q
    | some o =>
      by_cases z : ∃ xs, o = .lst xs
      · obtain ⟨xs, rfl⟩ := z
        obtain ⟨ys, q2⟩ := g.lst _ _ q
        rw [q2] at n
        cases n
      · rw [g.keep _ _ q fun xs z2 => z ⟨xs, z2⟩] at n
        cases n
/-- names and cells are no iterators -/
theorem loc_noChg (I : Inv X pins σ H s) (co : CO X pins D Lk) : ¬ Chg D.C s.heap X.env.locals := fun z => by
  rcases z with z | ⟨_, o, ho, _, vs, hv⟩
  · exact co.loc z
  · obtain ⟨m, ⟨o', es, ep, ho', hd', _⟩, _⟩ := I.loc
    rw [ho] at ho'
    cases ho'
    rw [hv] at hd'
    cases hd'
theorem cell_noChg (I : Inv X pins σ H s) (co : CO X pins D Lk) {x : Str} {c : Addr} (e : X.env.cells.lookup x = some c) : ¬ Chg D.C s.heap c := fun z => by
  rcases z with z | ⟨_, o, ho, _, vs, hv⟩
  · exact co.cells x c e z
  · obtain ⟨v, o', ho', hd'⟩ := I.cell x c e
    rw [ho] at ho'
    cases ho'
    rw [hv] at hd'
    cases hd'
theorem pin_noChg (I : Inv X pins σ H s) (co : CO X pins D Lk) {p : Addr × Obj} (hp : p ∈ X.pn ++ pins) : ¬ Chg D.C s.heap p.1 := fun z => by
  obtain ⟨c1, c2⟩ := co.pins p hp
  rcases z with z | ⟨h, o, ho, hi⟩
  · exact c1 z
  · have := (I.pin p hp).1
    rw [ho] at this
    cases this
    exact c2 h hi
/-- a turn of the generator behind us -/
theorem inv_turn (I : Inv X pins σ H s) (co : CO X pins D Lk) (ok : D.Ok) (ch : CH D H Lk) (kp : Kp D s s1) {s2 : Shared} (hh : ∀ b o, s1.heap.get? b = some o → s2.heap.get? b = some o) (ho : s2.os = s.os) (hb : AllBare s2.gens) : Inv X pins σ H s2 := by
  have frn : ∀ {b u}, H b = some u → b ∉ frs D.outer := fun {b u} e z => by
    rw [co.hout] at z
    rw [I.stkFree b z] at e
    cases e
  have keep : ∀ {b u o}, H b = some u → D.G b = none → s.heap.get? b = some o → s2.heap.get? b = some o := fun {b u o} e hG ho => hh _ _ (kp.keep b o (frn e) (ch.noChg e (I.hok b u e)) hG ho)
  have hok1 : HOk X.prog X.w D.G s2.heap := by
    have q := kp.hok
    rw [co.hP, co.hw] at q
    exact q.kept hh
  refine I.call' (ch := (List.range s.heap.objs.size).filter fun b => decide (Chg D.C s.heap b)) ho ⟨fun b o e n hf hc => ?_, fun b o e n hf hc => ?_, fun b o e n hc => n, fun b o e hc => ?_, fun b xs e => e, fun b o u e => e, fun b ps e => ⟨#[], by rw [e]; simp⟩⟩ (fun b u e => ?_) hb fun b hb => ?_
  · have hG : D.G b = none := by
      cases q : D.G b with
      | none => rfl
      | some u => rw [ch.sG _ _ q] at n; cases n
    refine hh _ _ (kp.keep b o (by rw [co.hout]; exact hf) (fun z => hc ?_) hG e)
    exact List.mem_filter.mpr ⟨List.mem_range.mpr (Heap.lt_size e), decide_eq_true z⟩
  · obtain ⟨sl, q⟩ := kp.slot b o (by rw [co.hout]; exact hf) e
    exact ⟨sl, hh _ _ q⟩
  · by_cases hf : b ∈ frs X.stack
    · obtain ⟨sl, q⟩ := kp.slot b o (by rw [co.hout]; exact hf) e
      exact ⟨_, hh _ _ q⟩
    · cases hG : D.G b with
      | some u => exact ObjOk.there (hok1 b u hG)
      | none =>
        refine ⟨o, hh _ _ (kp.keep b o (by rw [co.hout]; exact hf) (fun z => hc ?_) hG e)⟩
        exact List.mem_filter.mpr ⟨List.mem_range.mpr (Heap.lt_size e), decide_eq_true z⟩
  · cases hG : D.G b with
    | some u' =>
      have q := ch.sG _ _ hG
      rw [e] at q
      cases q
      exact objok_to (hok1 b u hG) (fun c _ q => ch.sG _ _ q) fun c xs q => ch.sG _ _ q
    | none =>
      refine (I.hok b u e).stay (fun c o hc q => ?_) (fun _ q => q) fun _ _ q => q
      rcases hc with z | z
      · rw [z] at q ⊢
        exact keep e hG q
      · refine keep z ?_ q
        cases q2 : D.G c with
        | none => rfl
        | some u2 =>
          have q3 := ch.sG _ _ q2
          rw [z] at q3
          cases q3
          obtain ⟨C, fs, q4⟩ := ok.own c b q2
          rw [hG] at q4
          cases q4
  · obtain ⟨h1, h2⟩ := List.mem_filter.mp hb
    have hch := of_decide_eq_true h2
    have hC : D.C ≤ b := by
      rcases hch with z | z
      · exact Nat.le_of_eq z.symm
      · exact Nat.le_of_lt z.1
    refine ⟨?_, fun z => loc_noChg I co (z ▸ hch), fun x c e z => cell_noChg I co e (z ▸ hch), fun p hp z => pin_noChg I co hp (z ▸ hch)⟩
    rcases co.low b hC with z | z | z
    · exact .inl z
    · exact .inr z
    · cases q : H b with
      | none => exact (ch.lk b z q).elim
      | some u => exact (ch.noChg q (I.hok b u q) hch).elim
/-- a tuple that nobody tracked is tracked -/
theorem inv_track (I : Inv X pins σ H s) {t : Addr} {xs : List V} (hn : H t = none) (ht : TupR s.heap t xs) (h0 : ∀ o, X.s_0.heap.get? t = some o → t ∈ X.ex) (hL : t ≠ X.env.locals) (hc : ∀ x c, X.env.cells.lookup x = some c → c ≠ t) (hp : ∀ p ∈ X.pn ++ pins, p.1 ≠ t) : Inv X pins σ (upd H t (.tup xs)) s := by
  refine ⟨I.ok, I.os, I.bare, ⟨I.base.keep, I.base.slot, fun b o e n hx => ?_, I.base.there, fun b ys e => ?_, fun b o u e => ?_, fun b ps e => ?_⟩, I.loc, I.cell, ?_, fun x c e => ?_, fun p hp' => ?_, fun b u e => ?_, I.len⟩
  · rw [upd_ne fun z => by rw [z] at hx e; exact hx (h0 o e)]
    exact I.base.free b o e n hx
  · have q := I.base.tups b ys e
    rw [upd_ne (ne_of_none q hn)]
    exact q
  · have q := I.base.frzs b o u e
    rw [upd_ne (ne_of_none q hn)]
    exact q
  · obtain ⟨m, q⟩ := I.base.tbls b ps e
    exact ⟨m, by rw [upd_ne (ne_of_none q hn)]; exact q⟩
  · rw [upd_ne (Ne.symm hL)]
    exact I.free
  · rw [upd_ne (hc x c e)]
    exact I.freeC x c e
  · obtain ⟨h1, h2, h3⟩ := I.pin p hp'
    exact ⟨h1, by rw [upd_ne (hp p hp')]; exact h2, h3⟩
  · by_cases z : b = t
    · subst z
      rw [upd_same] at e
      cases e
      exact ht
    · rw [upd_ne z] at e
      exact (I.hok b u e).stay (fun _ _ _ q => q) (fun c q => by rw [upd_ne (ne_of_none q hn)]; exact q) fun c ys q => by rw [upd_ne (ne_of_none q hn)]; exact q
/-- the generator sleeps in s, n items are to come -/
def Asl (D : GD) (a g n : Nat) (s : Shared) : Prop := D.C < a ∧ s.heap.IsGen a g ∧ ∃ gs, s.gens[g]? = some gs ∧ gs.Goes (model D.P D.w) D.A (RN D) (YN D) n (.send .none) (s.setGen g .running)
/-- what is known behind an item -/
def Wok (D : GD) (a g m : Nat) (Z : List (Addr × Obj)) (ks : List (Addr × List V)) (s : Shared) : Prop := D.C < a ∧ s.heap.IsGen a g ∧ ((∀ p ∈ Z, (p.1 = D.C ∨ (D.C < p.1 ∧ IterO p.2)) ∧ s.heap.get? p.1 = some p.2 ∧ ∀ v, p.2.data ≠ .cell v) ∧ ∃ oC, (D.C, oC) ∈ Z) ∧ KeepOk D ks s.heap ∧ ∃ gs', s.gens[g]? = some gs' ∧
  ∀ s2, (∀ p ∈ Z, s2.heap.get? p.1 = some p.2) → KeepOk D ks s2.heap → Wk D s2 → gs'.Goes (model D.P D.w) D.A (RN D) (YN D) m (.send .none) s2
def ItemC (it : V ⊕ List V) (x : V) (H H' : Hp) : Prop := match it with
  | .inl y => x = y ∧ H' = H
  | .inr xs => ∃ t, x = .ref t ∧ H t = none ∧ H' = upd H t (.tup xs)
theorem next_n {a g n : Nat} {B : Around} {E : Value → Shared → Prop} {Q : Option Value → Shared → Prop} (I : Inv X pins σ H s) (hh : B.handled = none) (hroom : B.depth < recursionLimit) (hB : D.A = B.in1) (co : CO X pins D Lk) (ok : D.Ok) (ch : CH D H Lk) (sl : Asl D a g n s)
    (hY : ∀ m i it x v H' Z ks s1, n = m + 1 → m + 1 + i = D.its.length → D.its[i]? = some it → ItemC it x H H' → RelV x v → Inv X pins σ H' s1 → CH D H' Lk → Wok D a g m Z ks s1 → Q (some v) s1)
    (hP : n = 0 → ∀ s1, Inv X pins σ H s1 → Q none s1) : wpAny (model X.prog X.w) B (pyNext (.ref a)) Q E s := by
  obtain ⟨hCa, hg, gs, hgs, hgo⟩ := sl
  have gl : g < s.gens.size := (Array.getElem?_eq_some_iff.mp hgs).1
  rw [hB, co.hP, co.hw] at hgo
  refine wpAny_gsz (n := g + 1) gl (next_genG (F := fun n s₀ s₁ => n = 0 ∧ Kp D s₀ s₁) (Er := fun _ _ => False) (Y := YN D) (n := n) hh I.nolimit hroom hg hgs hgo (fun v s₁ gs' hbare hv => ?_) (fun s₁ hp h' hk => ?_) fun _ _ z => z.elim)
  · intro hsz
    obtain ⟨i, it, Z, ks, h1, h2, h3, h4, ⟨h5, hC5⟩, h6, h7⟩ := hv
    have gsz1 : g < s₁.gens.size := by
      have q : (s₁.setGen g gs').gens.size = s₁.gens.size := setGen_size _ _ _
      have hsz' : g + 1 ≤ (s₁.setGen g gs').gens.size := hsz
      omega
    have Iok : D.Ok := ok
    have kp : Kp D s s₁ := ⟨h4.os, h4.bare, h4.keep, h4.slot, h4.hok⟩
    have I1 : Inv X pins σ H (s₁.setGen g gs') := inv_turn I co ok ch kp (fun _ _ e => e) h4.os (allBare_setGen h4.bare hbare)
    have hg1 : (s₁.setGen g gs').heap.IsGen a g := by
      obtain ⟨o, nm, qn, ho, hoc, r⟩ := hg
      refine ⟨o, nm, qn, kp.keep a o ?_ (fun z => ?_) ?_ ho, hoc, r⟩
      · intro z
        exact Nat.lt_irrefl _ (Nat.lt_trans hCa (ok.frC a z).1)
      · rcases z with z | ⟨_, o', ho', hi⟩
        · exact absurd z (Nat.ne_of_gt hCa)
        · rw [ho] at ho'
          cases ho'
          rcases hi.1 with z | z <;> rw [hoc] at z <;> exact absurd (Value.type.inj z) (by decide)
      · cases q : D.G a with
        | none => rfl
        | some u => exact absurd (Nat.lt_trans hCa (ok.GC a u q).1) (Nat.lt_irrefl _)
    cases n with
    | zero =>
      exfalso
      have z : (0 : Nat) - 1 + 1 + i = D.its.length := h1
      refine h7 s₁ (fun p hp => (h5 p hp).2.1) h6 ⟨fun b o e => ?_, ?_, h4.hok, h4.bare, ?_⟩
      · rw [co.hbase] at e
        exact I1.bk b o e
      · rw [co.hbase, co.hout]
        exact I1.stack
      · obtain ⟨o, _, _, ho, _⟩ := hg1
        exact Nat.lt_trans hCa (Heap.lt_size ho)
    | succ m =>
      have h1 : m + 1 + i = D.its.length := h1
      have wok : Wok D a g m Z ks (s₁.setGen g gs') := ⟨hCa, hg1, ⟨h5, hC5⟩, h6, gs', setGen_at gsz1, fun s2 q1 q2 q3 => by
        have q := h7 s2 q1 q2 q3
        rw [hB, co.hP, co.hw]
        exact q⟩
      cases it with
      | inl y => exact hY m i _ y v H Z ks _ rfl h1 h2 ⟨rfl, rfl⟩ h3 I1 ch wok
      | inr xs =>
        obtain ⟨t, rfl, htC, hfr, ht⟩ := h3
        have hn : H t = none := by
          cases q : H t with
          | none => rfl
          | some u =>
            have x := I.hok t u q
            obtain ⟨o, ho⟩ := ObjOk.there x
            exact (ch.noChg q x (hfr o ho)).elim
        have hlow : ∀ o, s.heap.get? t = some o → D.C ≤ t := fun o ho => by
          rcases hfr o ho with z | z
          · exact Nat.le_of_eq z.symm
          · exact Nat.le_of_lt z.1
        have I2 : Inv X pins σ (upd H t (.tup xs)) (s₁.setGen g gs') := by
          refine inv_track I1 hn ht (fun o e => ?_) (fun z => ?_) (fun x c e z => ?_) fun p hp z => ?_
          · by_cases hx : t ∈ X.ex
            · exact hx
            · exfalso
              obtain ⟨o', q⟩ := I.base.there t o e hx
              rcases co.low t (hlow o' q) with z | z | z
              · exact hx z
              · exact absurd (Nat.lt_of_lt_of_le (Heap.lt_size e) z) (Nat.lt_irrefl _)
              · exact ch.lk t z hn
          · obtain ⟨mm, ⟨o, _, _, ho, _⟩, _⟩ := I.loc
            exact loc_noChg I co (z ▸ hfr o (z ▸ ho))
          · obtain ⟨v, o, ho, _⟩ := I.cell x c e
            exact cell_noChg I co e (z ▸ hfr o (z ▸ ho))
          · exact pin_noChg I co hp (z ▸ hfr _ (z ▸ (I.pin p hp).1))
        refine hY m i _ (.ref t) (.ref t) _ Z ks _ rfl h1 h2 ⟨t, rfl, hn, rfl⟩ rfl I2 ?_ wok
        exact ch.laid hn htC (.inl ⟨xs, rfl⟩)
  · intro hsz
    obtain ⟨en, kp⟩ := hp
    have kp : Kp D s s₁ := ⟨kp.os, kp.bare, kp.keep, kp.slot, kp.hok⟩
    exact hP en _ (inv_turn I co ok ch kp hk kp.os (allBare_setGen kp.bare rfl))
/-- our own turn: the generator's things are pinned, it sleeps on -/
theorem Wok.pin {a g m : Nat} {Z : List (Addr × Obj)} {ks : List (Addr × List V)} {E : Prop} (W : Wok D a g m Z ks s) (I : Inv X pins σ H s) (co : CO X pins D Lk) (ok : D.Ok) (ch : CH D H Lk) (ha : H a = none)
    (k : ∀ Z', Inv X (pins ++ Z') σ H s → (∀ σ' H' s', Inv X (pins ++ Z') σ' H' s' → s'.gens = s.gens → Grow H H' → Asl D a g m s' ∧ Inv X pins σ' H' s' ∧ CH D H' Lk) → E) : E := by
  obtain ⟨hCa, hg, ⟨hz, oC, hoC⟩, hks, gs', hgs, hgo⟩ := W
  obtain ⟨o, nm, qn, ho, hoc, hod, hos⟩ := id hg
  have frn : ∀ b, D.C ≤ b → b ∉ X.fs := fun b hb z => by
    obtain ⟨_, o', ho', _⟩ := I.ok.funs.mem z
    rcases co.low b hb with q | q | q
    · exact I.ok.exfs b q z
    · exact absurd (Nat.lt_of_lt_of_le (Heap.lt_size ho') q) (Nat.lt_irrefl _)
    · exact ch.lk b q (I.base.free b o' ho' (I.ok.frf b z) fun hx => I.ok.exfs b hx z)
  have hlo : ∀ b, Chg D.C s.heap b → b ≠ X.env.locals := fun b hb z => loc_noChg I co (z ▸ hb)
  have hal : a ≠ X.env.locals := fun z => by
    obtain ⟨m, ⟨o', es, ep, ho', hd', _⟩, _⟩ := I.loc
    rw [← z, ho] at ho'
    cases ho'
    rw [hod] at hd'
    cases hd'
  -- the kept tuples that nobody tracks
  obtain ⟨Zk, hZ1, hZ2⟩ : ∃ Zk : List (Addr × Obj), (∀ p ∈ Zk, s.heap.get? p.1 = some p.2 ∧ H p.1 = none ∧ p.1 ≠ X.env.locals ∧ p.1 ∉ X.fs ∧ ∀ v, p.2.data ≠ .cell v) ∧ ∀ p ∈ ks, H p.1 = none → ∃ o, (p.1, o) ∈ Zk := by
    clear hgo
    induction ks with
    | nil => exact ⟨[], (fun p hp => by cases hp), fun p hp => by cases hp⟩
    | cons q ks ih =>
      obtain ⟨Zk, h1, h2⟩ := ih fun p hp => hks p (List.mem_cons_of_mem _ hp)
      obtain ⟨_, _, hF, _, its, r, ot, hot, hct, n, hdt⟩ := hks q List.mem_cons_self
      by_cases hq : H q.1 = none
      · refine ⟨(q.1, ot) :: Zk, fun p hp => ?_, fun p hp hn => ?_⟩
        · rcases List.mem_cons.mp hp with e | hp
          · rw [e]
            refine ⟨hot, hq, fun z => ?_, fun z => ?_, fun v z => by rw [hdt] at z; cases z⟩
            · obtain ⟨mm, ⟨o', es, ep, ho', hd', _⟩, _⟩ := I.loc
              rw [z, ho'] at hot
              cases hot
              rw [hd'] at hdt
              cases hdt
            · refine hF ?_
              rw [co.hout]
              rcases I.ok.stk with e | ⟨e, _⟩
              · rw [e]; exact z
              · rw [e]
                unfold frs
                obtain ⟨en, h1, h2⟩ := List.mem_filterMap.mp z
                exact List.mem_filterMap.mpr ⟨en, List.mem_cons_of_mem _ h1, h2⟩
          · exact h1 p hp
        · rcases List.mem_cons.mp hp with e | hp
          · rw [e]; exact ⟨ot, List.mem_cons_self⟩
          · obtain ⟨o', h3⟩ := h2 p hp hn
            exact ⟨o', List.mem_cons_of_mem _ h3⟩
      · refine ⟨Zk, h1, fun p hp hn => ?_⟩
        rcases List.mem_cons.mp hp with e | hp
        · rw [e] at hn; exact (hq hn).elim
        · exact h2 p hp hn
  have fp : ∀ p ∈ ((a, o) :: Z) ++ Zk, s.heap.get? p.1 = some p.2 ∧ H p.1 = none ∧ p.1 ≠ X.env.locals ∧ p.1 ∉ X.fs ∧ ∀ v, p.2.data ≠ .cell v := fun p hp => by
    rcases List.mem_append.mp hp with hp | hp
    · rcases List.mem_cons.mp hp with e | hp
      · rw [e]
        exact ⟨ho, ha, hal, frn a (Nat.le_of_lt hCa), fun v z => by rw [hod] at z; cases z⟩
      · obtain ⟨h1, h2, h3⟩ := hz p hp
        have hC : D.C ≤ p.1 := h1.elim (fun z => Nat.le_of_eq z.symm) fun z => Nat.le_of_lt z.1
        have hch : Chg D.C s.heap p.1 := h1.elim .inl fun z => .inr ⟨z.1, p.2, h2, z.2⟩
        refine ⟨h2, ?_, hlo _ hch, frn _ hC, h3⟩
        cases q : H p.1 with
        | none => rfl
        | some u =>
          refine (ch.noChg q (I.hok _ u q) ?_).elim
          rcases h1 with z | z
          · exact .inl z
          · exact .inr ⟨z.1, p.2, h2, z.2⟩
    · exact hZ1 p hp
  refine k (((a, o) :: Z) ++ Zk) (I.pins_of fun p hp => (List.mem_append.mp hp).elim (fun z => I.pin p (List.mem_append_right _ z)) fun z => fp p z) fun σ' H' s' I' eg gr => by
    have ch' : CH D H' Lk := ch.grow ok gr (I'.pin (D.C, oC) (List.mem_append_right _ (List.mem_append_right _ (List.mem_append_left _ (List.mem_cons_of_mem _ hoC))))).2.1
    have htup : ∀ t xs, H t = some (.tup xs) → H' t = some (.tup xs) := fun t xs e => gr.keep _ _ e (fun _ z => by cases z)
    have hfrz : ∀ t o v, H t = some (.frz o v) → H' t = some (.frz o v) := fun t o v e => gr.keep _ _ e (fun _ z => by cases z)
    refine ⟨⟨hCa, ⟨o, nm, qn, ?_, hoc, hod, hos⟩, gs', by rw [eg]; exact hgs, hgo _ (fun p hp => ?_) (fun p hp => ?_) ?_⟩, I'.unpinned, ch'⟩
    · exact (I'.pin (a, o) (List.mem_append_right _ (List.mem_append_right _ (List.mem_append_left _ List.mem_cons_self)))).1
    · exact (I'.pin p (List.mem_append_right _ (List.mem_append_right _ (List.mem_append_left _ (List.mem_cons_of_mem _ hp))))).1
    · obtain ⟨h1, h2, h3, ht⟩ := hks p hp
      refine ⟨h1, h2, h3, ?_⟩
      show TupR s'.heap p.1 p.2
      cases q : H p.1 with
      | none =>
        obtain ⟨o', hm⟩ := hZ2 p hp q
        have e1 := (hZ1 _ hm).1
        have e2 := (I'.pin (p.1, o') (List.mem_append_right _ (List.mem_append_right _ (List.mem_append_right _ hm)))).1
        obtain ⟨z1, its, z2, ot, hot, z3⟩ := ht
        rw [hot] at e1
        cases e1
        exact ⟨z1, its, z2, _, e2, z3⟩
      | some u =>
        rcases tup_kind2 (I.hok _ u q) ht (fun y hy => by
          rw [hy] at q
          obtain ⟨v, h4, h5⟩ := ch.own _ _ q
          exact ⟨v, I.hok _ v h4, h5⟩) (fun φ hy => by
          rw [hy] at q
          obtain ⟨of, vf, hf, hfd⟩ := ch.ext _ φ q _ (I.hok _ _ q).1
          obtain ⟨_, its, _, ot, hot, _, _, hd⟩ := id ht
          rw [hot] at hf
          cases hf
          rw [hd] at hfd
          cases hfd) with hu | ⟨ou, v, hu⟩
        · rw [hu] at q
          exact I'.hok _ _ (htup _ _ q)
        · rw [hu] at q
          have e1 := (I.hok _ _ q).1
          have e2 := (I'.hok _ _ (hfrz _ _ _ q)).1
          obtain ⟨z1, its, z2, ot, hot, z3⟩ := ht
          rw [hot] at e1
          cases e1
          exact ⟨z1, its, z2, _, e2, z3⟩
    · refine ⟨fun b o e => ?_, ?_, ?_, allBare_setGen I'.bare rfl, ?_⟩
      · rw [co.hbase] at e
        exact I'.bk b o e
      · rw [co.hbase, co.hout]
        exact I'.stack
      · have q := I'.hok
        have q2 : HOk D.P D.w H' s'.heap := by rw [co.hP, co.hw]; exact q
        exact kd_cut ok ch'.sG q2
      · have e := (I'.pin (a, o) (List.mem_append_right _ (List.mem_append_right _ (List.mem_append_left _ List.mem_cons_self)))).1
        exact Nat.lt_trans hCa (Heap.lt_size e)
end
end GN
end
section
set_option Elab.async false
set_option linter.all false
set_option maxRecDepth 100000
set_option maxHeartbeats 4000000
namespace GN
open PySem PySem.Spec PyProof.Rows PySem.Calls L2 GenW
/-! ### by hand -/
section
variable {X : Cx} {pins : List (Addr × Obj)} {σ : L2.St} {H : Hp} {s : Shared}
/-- a plain local name holds a value anew: what the heap must show -/
theorem inv_set {i : Nat} {x : Str} {v : V} {u : Value} {m : Str → Option Value} {h' : Heap} {t : Nat} (I : Inv X pins σ H s) (hN : X.N.Nodup) (hi : X.N[i]? = some x) (hk : X.env.scope.names.lookup x = some .local) (r : RelV v u)
    (hm : ∀ (i : Nat) (x : Str) (v : V), X.N[i]? = some x → σ[i]? = some (some v) → Vis X.env.scope x → ∃ u, RelV v u ∧ Look X.env s.heap m x u)
    (hn : h'.Ns X.env.locals (fun y => if y = x then some u else m y)) (hs : Heap.SameBut X.env.locals s.heap h') : Inv X pins (σ.set i (some v)) H { s with heap := h', toks := t } := by
  have kp : ∀ {b o}, b ≠ X.env.locals → s.heap.get? b = some o → h'.get? b = some o := fun n e => (hs.2 _ n).trans e
  have low : ∀ {b o}, X.s_0.heap.get? b = some o → b ≠ X.env.locals := fun e => Nat.ne_of_lt (Nat.lt_of_lt_of_le (Heap.lt_size e) I.ok.above)
  have hU : Un X.fs X.ex X.H_0 H X.s_0.heap h' := { I.base with
    keep := fun b o e n f g => kp (low e) (I.base.keep b o e n f g)
    slot := fun b o e n f g => (I.base.slot b o e n f g).elim fun sl q => ⟨sl, kp (low e) q⟩
    there := fun b o e g => (I.base.there b o e g).elim fun o' q => ⟨o', kp (low e) q⟩ }
  have hok : HOk X.prog X.w H h' := fun b o e => by
    refine (I.hok b o e).stay (fun c z hc q => kp (fun el => ?_) q) (fun _ z => z) fun _ _ z => z
    have nl := I.free
    rw [← el] at nl
    rcases hc with hc | hc
    · rw [hc, e] at nl
      cases nl
    · rw [hc] at nl
      cases nl
  have cne := I.cne
  refine { ok := I.ok, os := I.os, bare := I.bare, base := hU, loc := ⟨_, hn, fun j y z e1 e2 e3 => ?_⟩, cell := fun y c e => (I.cell y c e).elim fun z q => ⟨z, q.sameBut hs (cne y c e)⟩, free := I.free, freeC := I.freeC,
           pin := fun p hp => ?_, hok := hok, len := by rw [List.length_set]; exact I.len }
  · have hil : i < σ.length := by
      rw [I.len]
      exact (List.getElem?_eq_some_iff.mp hi).1
    by_cases q : j = i
    · rw [q] at e1 e2
      rw [List.getElem?_set_self hil] at e2
      obtain rfl : v = z := by cases e2; rfl
      obtain rfl : x = y := by rw [hi] at e1; cases e1; rfl
      exact ⟨u, r, .inl ⟨hk, if_pos rfl⟩⟩
    · rw [List.getElem?_set_ne (Ne.symm q)] at e2
      obtain ⟨u', r', lo⟩ := hm j y z e1 e2 e3
      refine ⟨u', r', lo.imp (fun a => ⟨a.1, ?_⟩) fun a => ⟨a.1, a.2.elim fun c b => ⟨c, b.1, b.2.sameBut hs (cne y c b.1)⟩⟩⟩
      exact (if_neg fun e => q (nodup_ix hN e1 (by rw [e]; exact hi))).trans a.2
  · have a := I.pin p hp
    exact ⟨kp a.2.2.1 a.1, a.2⟩
theorem set_raw {M : Model} {A : Around} {E : Value → Shared → Prop} {i : Nat} {x : Str} {v : V} {u : Value} {Q : Unit → Shared → Prop} (I : Inv X pins σ H s) (hN : X.N.Nodup) (hi : X.N[i]? = some x) (hk : X.env.scope.names.lookup x = some .local) (r : RelV v u)
    (h : ∀ s', Inv X pins (σ.set i (some v)) H s' → s'.gens = s.gens → Q () s') : wpAny M A (storeName X.env x u) Q E s := by
  obtain ⟨m, hn, hm⟩ := id I.loc
  exact wpAny_storeName_local hk hn (fun h' hn' hs => h _ (inv_set I hN hi hk r hm hn' hs) rfl) (by rw [I.ok.kind]; rfl)
theorem var_raw {E : Value → Shared → Prop} {i : Nat} {x : Str} {v : V} {pos : Pos} {Q : Value → Shared → Prop} (I : Inv X pins σ H s) (hi : X.N[i]? = some x) (hk : X.env.scope.names.lookup x = some .local) (e : σ[i]? = some (some v)) (h : ∀ u, RelV v u → Q u s)
    (hd : (x == ("__debug__" : Str)) = false := by decide) : wpAny (model X.prog X.w) X.A (eval (.Name x pos) X.env) Q E s := by
  obtain ⟨m, hn, hm⟩ := I.loc
  obtain ⟨u, r, lo⟩ := hm i x v hi e (.inl hk)
  rcases lo with ⟨_, q⟩ | ⟨k, _⟩
  · exact wpAny_Name (wpAny_loadName_local I.ok.kind hk hn q (h u r)) hd
  · have hk' : X.env.kindOf x = some .local := hk
    rw [hk'] at k
    rcases k with k | k <;> cases k
theorem app_raw {A : Around} {E : Value → Shared → Prop} {L : Addr} {ys : List V} {y : V} {u : Value} {Q : Value → Shared → Prop} (I : Inv X pins σ H s) (hL : H L = some (.lst ys)) (hz : ys.length < sizeLine) (r : RelV y u)
    (h : ∀ s', Inv X pins σ (upd H L (.lst (ys ++ [y]))) s' → s'.gens = s.gens → Q .none s') : wpAny (model X.prog X.w) A (call (.builtin "list.append") [.ref L, u]) Q E s := by
  obtain ⟨_, its, n, rs, e⟩ := I.hok L _ hL
  have hl := rs.length
  refine append_at e (fun h' sb q => ?_) (by rw [List.size_toArray]; omega)
  refine h { s with heap := h' } (I.write (t' := s.toks) (by rw [hL]; trivial) (.inl rfl) (fun b o n z => (sb.2 b n).trans z) ⟨_, q⟩ ⟨?_, its ++ [u], n + 1, rs.append (.cons r .nil), ?_⟩) rfl
  · rw [List.length_append]
    exact hz
  · rw [q]
    simp
end
/-! ### pieces of code that leave the table of generators alone -/
structure EG (X : Cx) (e : Expr) (t : TE) : Prop where
  run : ∀ (pins : List (Addr × Obj)) (s : Shared) (σ : L2.St) (H : Hp) (Q : VK), Inv X pins σ H s → t σ H Q → wpAny (model X.prog X.w) X.A (eval e X.env) (fun u s' => s'.gens = s.gens ∧ EP X pins σ Q u s') X.xe s
structure AG (X : Cx) (es : List Expr) (t : TA) : Prop where
  run : ∀ (pos : Pos) (pins : List (Addr × Obj)) (s : Shared) (σ : L2.St) (H : Hp) (Q : List V → Hp → Prop), Inv X pins σ H s → t σ H Q → wpAny (model X.prog X.w) X.A (spliced (backTo pos (starEach es X.env))) (fun us s' => s'.gens = s.gens ∧ AP X pins σ Q us s') X.xe s
structure TGg (X : Cx) (target : Expr) (t : TG) : Prop where
  run : ∀ (pins : List (Addr × Obj)) (s : Shared) (σ : L2.St) (H : Hp) (v : V) (u : Value) (Q : L2.St → Hp → Prop), Inv X pins σ H s → RelV v u → t v σ H Q →
    wpAny (model X.prog X.w) X.A (assign target X.env u) (fun _ s' => s'.gens = s.gens ∧ ∃ σ' H', Inv X pins σ' H' s' ∧ Q σ' H') X.xe s
structure TGgs (X : Cx) (ts : List Expr) (t : TGs) : Prop where
  run : ∀ (pins : List (Addr × Obj)) (s : Shared) (σ : L2.St) (H : Hp) (vs : List V) (us : List Value) (Q : L2.St → Hp → Prop), Inv X pins σ H s → Vals vs us → t vs σ H Q →
    wpAny (model X.prog X.w) X.A (assignInOrder ((assignEach ts X.env).map (·.2)) us) (fun _ s' => s'.gens = s.gens ∧ ∃ σ' H', Inv X pins σ' H' s' ∧ Q σ' H') X.xe s
structure SG (X : Cx) (st : Stmt) (t : TS) : Prop where
  run : ∀ (pins : List (Addr × Obj)) (s : Shared) (σ : L2.St) (H : Hp) (D : Ends), Inv X pins σ H s → t D σ H → wpAny (model X.prog X.w) X.A (exec st X.env) (fun f s' => s'.gens = s.gens ∧ SP X pins D f s') X.xe s
structure SGs (X : Cx) (sts : List Stmt) (t : TS) : Prop where
  run : ∀ (pins : List (Addr × Obj)) (s : Shared) (σ : L2.St) (H : Hp) (D : Ends), Inv X pins σ H s → t D σ H → wpAny (model X.prog X.w) X.A (execs sts X.env) (fun f s' => s'.gens = s.gens ∧ SP X pins D f s') X.xe s
section
variable {X : Cx}
theorem eg_var {i : Nat} {x : Str} {pos : Pos} (hN : X.N[i]? = some x) (hv : Vis X.env.scope x) (hd : (x == ("__debug__" : Str)) = false := by decide) (hcd : (x == ("__classdict__" : Str)) = false := by decide) : EG X (.Name x pos) (tVar i) := by
  refine ⟨fun pins s σ H Q I h => ?_⟩
  obtain ⟨v, e, h⟩ := h
  obtain ⟨m, hn, hl⟩ := I.loc
  obtain ⟨u, r, l⟩ := hl i x v hN e hv
  have fin : s.gens = s.gens ∧ EP X pins σ Q u s := ⟨rfl, v, H, I, r, h⟩
  rcases l with ⟨hk, hm⟩ | ⟨hk, c, hc, hcell⟩
  · exact wpAny_Name (wpAny_loadName_local I.ok.kind hk hn hm fin) hd
  · rcases hk with hk | hk
    · exact wpAny_Name (wpAny_loadName_cell I.ok.kind hk hc hcell fin) hd
    · exact wpAny_Name (wpAny_loadName_free I.ok.kind hk hc hcell fin hcd) hd
theorem ag_nil : AG X [] tNil := ⟨fun _ _ _ _ H Q I h => Calls.spliced_nil ⟨rfl, [], H, I, .nil, h⟩⟩
theorem ag_cons {e : Expr} {es : List Expr} {te : TE} {t : TA} (ha : EG X e te) (hr : AG X es t) (hs : starEach (e :: es) X.env = (false, eval e X.env) :: starEach es X.env := by rfl) : AG X (e :: es) (tCons te t) := by
  refine ⟨fun pos pins s σ H Q I h => ?_⟩
  rw [hs]
  show wpAny _ _ (spliced ((false, eval e X.env) :: backTo pos (starEach es X.env))) _ _ s
  refine Calls.spliced_cons (thn (ha.run pins s σ H _ I h) fun u s1 ⟨g1, x, H1, I1, r1, q1⟩ => ?_)
  exact thn (hr.run pos pins s1 σ H1 _ I1 q1) fun us s2 ⟨g2, xs, H2, I2, r2, q2⟩ => ⟨g2.trans g1, x :: xs, H2, I2, .cons r1 r2, q2⟩
theorem eg_tup {es : List Expr} {x1} {pos : Pos} {t : TA} (h : AG X es t) : EG X (.Tuple es x1 pos) (tTup t) := by
  refine ⟨fun pins s σ H Q I hq => ?_⟩
  refine wpAny_Tuple_spliced (thn (h.run pos pins s σ H _ I hq) fun us s1 ⟨g1, xs, H1, I1, r, z, q⟩ => ⟨by rw [← r.length]; exact z, ?_⟩)
  have hf : H1 s1.heap.objs.size = none := I1.hok.fresh (Nat.le_refl _)
  refine ⟨g1, .ref s1.heap.objs.size, upd H1 s1.heap.objs.size (.tup xs), I1.laid (t' := s1.toks) (fun b u e => Heap.get?_push_of_some _ e) (Nat.le_refl _) ?_, rfl, q _ hf⟩
  exact ⟨z, us, r, ⟨_, Heap.get?_push_size _ rfl, rfl, _, rfl⟩⟩
theorem tg_name {i : Nat} {x : Str} {pos : Pos} (hN : X.N.Nodup) (hi : X.N[i]? = some x) (hk : X.env.scope.names.lookup x = some .local) : TGg X (.Name x pos) (gName i) := by
  refine ⟨fun pins s σ H v u Q I r h => ?_⟩
  exact wpAny_assign_Name (set_raw I hN hi hk r fun s' I' e => ⟨e, _, H, I', h⟩)
theorem tgs_nil : TGgs X [] gNil := by
  refine ⟨fun pins s σ H vs us Q I r h => ?_⟩
  obtain ⟨e, h⟩ := h
  subst e
  cases r
  exact assignInOrder_nil ⟨rfl, σ, H, I, h⟩
theorem tgs_cons {e : Expr} {es : List Expr} {t : TG} {u : TGs} (h1 : TGg X e t) (h2 : TGgs X es u)
    (hs : (assignEach (e :: es) X.env).map (·.2) = assign e X.env :: (assignEach es X.env).map (·.2) := by rfl) : TGgs X (e :: es) (gCons t u) := by
  refine ⟨fun pins s σ H vs us Q I r h => ?_⟩
  obtain ⟨v, vr, e1, h⟩ := h
  subst e1
  cases r with
  | cons r rr =>
    rw [hs]
    refine assignInOrder_cons (thn (h1.run pins s σ H _ _ _ I r h) fun _ s1 ⟨g1, σ1, H1, I1, q1⟩ => ?_)
    exact thn (h2.run pins s1 σ1 H1 _ _ Q I1 rr q1) fun _ s2 ⟨g2, q⟩ => ⟨g2.trans g1, q⟩
theorem tg_tup {es : List Expr} {k : Nat} {pos : Pos} {t : TGs} {n : Nat} (hc : X.calm = true) (h : TGgs X es t)
    (hn : (assignEach es X.env).length = n := by rfl) (hst : (assignEach es X.env).findIdx? (·.1) = none := by rfl) : TGg X (.Tuple es k pos) (gTup X.K n t) := by
  refine ⟨fun pins s σ H v u Q I r hw => ?_⟩
  obtain ⟨a, xs, e1, hq, hl, hw⟩ := hw
  subst e1
  cases r
  obtain ⟨its, rv, ht, hz⟩ := I.tuple hq
  refine assign_Tuple_tuple (I.ok.hd hc) ht (by simp [hn, ← hl, rv.length]) hst fun h' hx => ?_
  have I1 : Inv X pins σ H { s with heap := h' } := I.kept (t' := s.toks) fun b o e => hx b o (Nat.ne_of_lt (Heap.lt_size e)) e
  exact thn (h.run pins _ σ H xs _ Q I1 (by simpa using rv) hw) fun _ s2 ⟨g2, q⟩ => ⟨g2, q⟩
/-- L.append(e) -/
def tAppG (il : Nat) (te : TE) : TS := fun D σ H => ∃ L ys0, σ[il]? = some (some (V.ref L)) ∧ H L = some (.lst ys0) ∧ te σ H fun x H1 => ∃ ys, H1 L = some (.lst ys) ∧ ys.length < sizeLine ∧ D.nx σ (upd H1 L (.lst (ys ++ [x])))
theorem sg_append {il : Nat} {ln : Str} {e : Expr} {te : TE} {q1 q2 q4 q5 : Pos} (hil : X.N[il]? = some ln) (hkl : X.env.scope.names.lookup ln = some .local) (he : EG X e te) (hq : X.calm = true)
    (hdl : (ln == ("__debug__" : Str)) = false := by decide)
    (hbase : attributeBase (.Name ln q1) "append" X.env (eval (.Name ln q1) X.env) = eval (.Name ln q1) X.env := by rfl)
    (hfew : ((backTo q4 (starEach [e] X.env)).all (fun x => !x.1) && (backToKw q4 (keywordEach [] X.env)).all (fun x => x.1.isSome)
      && decide ([e].length + ([] : List Keyword).length + (if ([] : List Keyword).isEmpty then 0 else 1) < 30)) = true := by rfl)
    (hline : (q2.endLine == q4.line) = true := by rfl) (hsw : swapsWith (.Call (.Attribute (.Name ln q1) "append" q2) [e] [] q4) none q5.line X.env = pure false := by rfl)
    (hss : starEach [e] X.env = (false, eval e X.env) :: starEach [] X.env := by rfl) : SG X (.Expr (.Call (.Attribute (.Name ln q1) "append" q2) [e] [] q4) q5) (tAppG il te) := by
  refine ⟨fun pins s σ H D I h => ?_⟩
  obtain ⟨L, ys0, el, hL0, h⟩ := h
  refine wpAny_Expr_any ?_ I.quiet hsw
  refine wpAny_Call_method_late hbase hfew hline rfl (var_raw I hil hkl el (fun u ru => ?_) hdl)
  obtain rfl : u = Value.ref L := ru
  obtain ⟨_, its, nL, rL, eL⟩ := I.hok L _ hL0
  refine ⟨"list", "list.append", PySem.F.plainAttrs_list, PySem.F.slot_list_append, PySem.F.type_list_append, ⟨_, eL, rfl⟩, fun b e => ?_, ?_⟩
  · cases e
    exact ⟨_, eL, rfl⟩
  rw [hss]
  refine Calls.callWith_builtin (by rfl) (Calls.evalArgs_plain (Calls.spliced_cons (thn (he.run pins s σ H _ I h) fun u s1 ⟨g1, x, H1, I1, rx, ys, hL, hz, q⟩ => ?_)))
  refine Calls.spliced_nil ?_
  exact app_raw I1 hL hz rx fun s2 I2 e2 => ⟨e2.trans g1, σ, _, I2, q⟩
theorem sgs_nil : SGs X [] (fun D σ H => D.nx σ H) := ⟨fun pins s σ H D I h => wpAny_execs_nil ⟨rfl, σ, H, I, h⟩⟩
def tSThen (t u : TS) : TS := fun D σ H => t { D with nx := fun σ' H' => u D σ' H' } σ H
theorem sgs_cons {st : Stmt} {sts : List Stmt} {t u : TS} (a : SG X st t) (b : SGs X sts u) : SGs X (st :: sts) (tSThen t u) := by
  refine ⟨fun pins s σ H D I h => ?_⟩
  refine wpAny_execs_cons (thn (a.run pins s σ H { D with nx := fun σ' H' => u D σ' H' } I h) fun f s1 ⟨g1, q⟩ => ?_)
  cases f with
  | next =>
    obtain ⟨σ1, H1, I1, q⟩ := q
    exact thn (b.run pins s1 σ1 H1 D I1 q) fun f s2 ⟨g2, q⟩ => ⟨g2.trans g1, q⟩
  | brk => exact ⟨g1, q⟩
  | cont => exact ⟨g1, q⟩
  | ret u => exact ⟨g1, q⟩
theorem sgs_one {st : Stmt} {t : TS} (a : SG X st t) : SGs X [st] (tSThen t fun D σ H => D.nx σ H) := sgs_cons a sgs_nil
end
end GN
end
section
set_option Elab.async false
set_option linter.all false
set_option maxRecDepth 100000
set_option maxHeartbeats 4000000
namespace GN
open PySem PySem.Spec PyProof.Rows PySem.Calls L2 GenW
/-- such a def's promise: the arguments, what it may read, what it hands out -/
abbrev SpN := List V → Hp → List (V ⊕ List V) → Prop
structure GnOk (P : Program) (w : World) (K : PySem.W.Frag) (mg : Str → Option Value) (base : Heap) (k : Nat) (f : Addr) (fd : FuncData) (ps : List Str) (sp : SpN) : Prop where
  len : ∀ vs G its, sp vs G its → vs.length = ps.length
  run : ∀ (A : Around) (outer : List Env) (s : Shared) (H G : Hp) (args : Args) (us : List Value) (vs : List V) (its : List (V ⊕ List V)), Room (k + 1) A → Env0 P w K mg base A outer s H → BindsTo s fd args (ps.zip us) → Vals vs us → Good G H → sp vs G its →
    codeAny (model P w) A (.call (.ref f) args) (fun r s' => match r with | .ok (.ret u) => ∃ N q scope cd, NMade (k + 1) outer s (mkD P w K mg base N q scope f cd s.heap.objs.size G its outer) u s' | _ => False) s
abbrev TGN := L2.St → Hp → (List (V ⊕ List V) → Hp → Prop) → Prop
/-- an expression whose value is such a generator -/
structure PGN (X : Cx) (k : Nat) (e : Expr) (tg : TGN) : Prop where
  run : ∀ (pins : List (Addr × Obj)) (s : Shared) (σ : L2.St) (H : Hp) (cont : List (V ⊕ List V) → Hp → Prop), Inv X pins σ H s → tg σ H cont → wpAny (model X.prog X.w) X.A (eval e X.env)
    (fun u s' => ∃ H1 sc N q scope f cd its, Inv X pins σ H1 sc ∧ NMade (k + 1) X.stack sc (mkD X.prog X.w X.K X.mg X.base N q scope f cd sc.heap.objs.size (cutG H1) its X.stack) u s' ∧ cont its H1) X.xe s
section
variable {X : Cx} {k : Nat}
def tGCall (sp : SpN) (ta : TA) : TGN := fun σ H cont => ta σ H fun vs H1 => ∃ its, sp vs (cutG H1) its ∧ cont its H1
theorem pgn_call {x : Str} {f : Addr} {fd : FuncData} {ps : List Str} {sp : SpN} {e : Expr} {es : List Expr} {t : TA} {p pos' : Pos} (F : GnOk X.prog X.w X.K X.mg X.base k f fd ps sp) (hr : Room (k + 1) X.A) (hg : Gl X x) (hm : X.mg x = some (.ref f)) (hk : PySem.W.keepIn X.K (.ref f) = true) (hb : Binds X.K fd ps [])
    (ha : PA X (e :: es) t) (hdb : (x == ("__debug__" : Str)) = false := by decide) (he : starEach (e :: es) X.env = (false, eval e X.env) :: starEach es X.env := by rfl) (hpl : (backTo pos' (starEach es X.env)).any (·.1) = false := by rfl) :
    PGN X k (.Call (.Name x p) (e :: es) [] pos') (tGCall sp t) := by
  refine ⟨fun pins s σ H cont I h => ?_⟩
  refine wpAny_Call_Name_kw (ld_glob I hg hm ?_ hdb)
  refine PySem.W.callWith_K (h₀ := X.base) I.ok.mod.kin hk (thn (ha.run pos' pins s σ H _ I h) fun us s1 ⟨vs, H1, I1, r, its, hsp, q⟩ => ⟨I1.kIn, ?_⟩) he hpl
  have hl := F.len _ _ _ hsp
  have hl2 : us.length = ps.length := by rw [← r.length]; exact hl
  have bt := hb s1 us I1.kIn (by simpa using hl2)
  rw [List.append_nil] at bt
  refine wpAny_call (codeAny_mono (F.run X.A X.stack s1 (prn H1) (cutG H1) ⟨us, []⟩ us vs its hr (inv_prn I1).env0 bt r (good_cut I1.hok) hsp) fun r s' hq => ?_)
  cases r with
  | error e => exact False.elim hq
  | ok fl =>
    cases fl with
    | ret u =>
      obtain ⟨N, qn, scope, cd, hq⟩ := hq
      exact ⟨H1, s1, N, qn, scope, f, cd, its, I1, hq, q⟩
    | next => exact False.elim hq
    | brk => exact False.elim hq
    | cont => exact False.elim hq
/-- the generator stands before its first turn -/
theorem made_n {pins : List (Addr × Obj)} {σ : L2.St} {H : Hp} {s s1 : Shared} {N : List Str} {q : Str} {scope : Scope} {f : Addr} {cd : Value} {its : List (V ⊕ List V)} {u : Value} {E : Prop} {B : Around} (I : Inv X pins σ H s) (hrB : Room (k + 1) B.in1) (hfB : B.in1.frames = some X.stack)
    (M : NMade (k + 1) X.stack s (mkD X.prog X.w X.K X.mg X.base N q scope f cd s.heap.objs.size (cutG H) its X.stack) u s1)
    (k : ∀ (a g : Nat) (D : GD), u = .ref a → D.its = its → D.A = B.in1 → D.C = s.heap.objs.size → (∀ L, H L = none → D.G L = none) → (∀ L xs, H L = some (.lst xs) → D.G L = none) → (∀ b, D.C ≤ b → H b = none) → D.Ok → CO X pins D [] → CH D (prn H) [] → Inv X pins σ (prn H) s1 → s1.heap.IsGen a g → D.C < a → a < s1.heap.objs.size →
      (∀ s2, (∀ b o, s1.heap.get? b = some o → s2.heap.get? b = some o) → s2.gens = s1.gens → s2.os = s1.os → s2.heap.FunFrames X.base X.stack → Asl D a g its.length s2) → E) : E := by
  obtain ⟨a, g, c, eu, hCa, has, hg, hgs, hos, hba, hkp, wake⟩ := M
  obtain ⟨ok, wake⟩ := wake B.in1 hrB hfB
  have I0 := inv_prn I
  have I1 : Inv X pins σ (prn H) s1 := by
    have J : Inv X pins σ (prn H) { s with heap := s1.heap, toks := s1.toks } := I0.kept hkp
    exact { J with os := hos.trans I.os, bare := hba }
  have fresh : ∀ {b}, s.heap.objs.size ≤ b → prn H b = none := fun {b} hb => prn_none (I.hok.fresh hb)
  have gd := good_cut I.hok
  refine k a g _ eu rfl rfl rfl (fun L hL => ?_) (fun L xs hL => ?_) (fun b hb => I.hok.fresh hb) ok ⟨rfl, rfl, rfl, rfl, fun b hb => .inr (.inl (Nat.le_trans I.sz hb)), Nat.ne_of_lt I.lt, fun x c e => ?_, fun p hp => ?_⟩ ⟨gd.sub, fresh (Nat.le_refl _), fun b hb => .inl (fresh (Nat.le_of_lt hb)), fun c b e => ?_, fun b φ e => (prn_some e).2.1 φ rfl, fun b hb => by cases hb⟩ I1 hg hCa has fun s2 k2 e2 o2 ff => ?_
  · cases e : cutG H L with
    | none => exact e
    | some o => rw [(cutG_some e).1] at hL; cases hL
  · cases e : cutG H L with
    | none => exact e
    | some o =>
      have h1 := cutG_some e
      rw [h1.1] at hL
      cases hL
      exact h1.2.1.elim
  · obtain ⟨v, hc⟩ := I.cell x c e
    exact Nat.ne_of_lt hc.lt
  · have h := Heap.lt_size (I.pin p hp).1
    exact ⟨Nat.ne_of_lt h, fun z => absurd (Nat.lt_trans h z) (Nat.lt_irrefl _)⟩
  · obtain ⟨e1, _, n⟩ := prn_some e
    exact prn_owns (n b rfl)
  · have hg2 : s2.heap.IsGen a g := by
      obtain ⟨o, nm, qn, ho, r⟩ := hg
      exact ⟨o, nm, qn, k2 _ _ ho, r⟩
    have hsz : s.heap.objs.size < s2.heap.objs.size := by
      obtain ⟨o, _, _, ho, _⟩ := hg2
      exact Nat.lt_trans hCa (Heap.lt_size ho)
    refine ⟨hCa, hg2, .fresh c, by rw [e2]; exact hgs, rfl, ?_⟩
    refine wake (s2.setGen g .running) k2 ⟨fun b o e => k2 _ _ (I1.bk b o e), ff, ?_, allBare_setGen (by rw [e2]; exact hba) rfl, hsz⟩
    exact (good_hok gd I1.hok).kept k2
theorem gen_none {D : GD} {Lk : List Addr} {H : Hp} {s : Shared} {pins : List (Addr × Obj)} {σ : L2.St} (I : Inv X pins σ H s) (ch : CH D H Lk) {a g : Nat} (hg : s.heap.IsGen a g) (hC : D.C < a) : H a = none := by
  obtain ⟨o, nm, qn, ho, hc, _⟩ := hg
  rcases ch.pl a hC with q | ⟨xs, q⟩ | ⟨xs, q⟩
  · exact q
  · obtain ⟨_, its, _, o', e', hc', _⟩ := I.hok a _ q
    rw [ho] at e'
    cases e'
    rw [hc] at hc'
    exact absurd (Value.type.inj hc') (by decide)
  · obtain ⟨_, its, n, _, e'⟩ := I.hok a _ q
    rw [ho] at e'
    cases e'
    exact absurd (Value.type.inj hc) (by decide)
/-- for target in such a generator -/
def tForN (tg : TGN) (g : TG) (tb : TS) : TS := fun D σ H => tg σ H fun its H1 => ∃ W : Nat → L2.St → Hp → Prop, W 0 σ (prn H1) ∧
  (∀ i it σ' H' x H'', its[i]? = some it → W i σ' H' → ItemC it x H' H'' → g x σ' H'' fun σ2 H2 => Grow H'' H2 ∧ tb { nx := fun σ3 H3 => Grow H2 H3 ∧ W (i + 1) σ3 H3, rt := fun _ _ => False } σ2 H2) ∧ ∀ σ' H', W its.length σ' H' → D.nx σ' H'
theorem ps_forN {e target : Expr} {body : List Stmt} {tg : TGN} {g : TG} {tb : TS} {pos : Pos} (hpo : PassesOwn (model X.prog X.w) X.A X.env X.xe) (he : PGN X k e tg) (hr : Room (k + 2) X.A) (hex : X.ex = []) (hgt : TGg X target g) (hb : SGs X body tb)
    (hs : ∀ y, foldedSetIterable e X.env y = pure y := by intro _; rfl) : PS X (.For target e body [] pos) (tForN tg g tb) := by
  refine ⟨fun pins s σ H DD I h => ?_⟩
  refine wpAny_For (thn (he.run pins s σ H _ I h) fun u s1 hM => ?_) hs
  obtain ⟨H1, sc, N, q, scope, f, cd, its, I1, M, W, w0, turn, fin⟩ := hM
  refine made_n (B := X.A) I1 hr.in1 I1.ok.frames M fun a g0 D eu hits hA _ hGn hGl hfr ok co ch I2 hg hCa has wake => ?_
  subst eu
  refine wpAny_pyIter_gen hg ?_
  have sl := wake s1 (fun _ _ e => e) rfl rfl I2.stack
  refine codeAny_forLoop_any (fun n s' => ∃ i σ' H', i + n = its.length ∧ W i σ' H' ∧ Inv X pins σ' H' s' ∧ CH D H' [] ∧ Asl D a g0 n s') ?_ its.length ⟨0, σ, _, Nat.zero_add _, w0, I2, ch, sl⟩
  rintro n s3 ⟨i, σ3, H3, hin, w3, I3, ch3, sl3⟩
  refine next_n (B := X.A) I3 hr.hd (by have := hr.dp; omega) hA co ok ch3 sl3 (fun m j it x v H4 Z ks s4 en hj hit hic rx I4 ch4 wk => ?_) fun en s4 I4 => ?_
  · rw [hits] at hj hit
    obtain rfl : j = i := by omega
    have hg4 := wk.2.1
    obtain ⟨o, nm, qn, ho, hoc, hod, _⟩ := id hg4
    refine go_of ho hoc hod (by decide) ?_
    refine wk.pin I4 co ok ch4 (gen_none I4 ch4 hg4 hCa) fun Z' I5 back => ?_
    refine wpAny_mono (hgt.run (pins ++ Z') s4 σ3 H4 x v _ I5 rx (turn j it σ3 H3 x H4 hit w3 hic)) (fun _ s5 h5 => ?_) fun e s' hx => hpo e s' hx
    obtain ⟨g5, σ5, H5, I6, gr5, hb5⟩ := h5
    refine wpAny_mono (hb.run (pins ++ Z') s5 σ5 H5 _ I6 hb5) (fun fl s6 h6 => ?_) fun e s' hx => hpo e s' hx
    obtain ⟨g6, hsp⟩ := h6
    cases fl with
    | next =>
      obtain ⟨σ6, H6, I7, gr6, w6⟩ := hsp
      obtain ⟨sl7, I8, ch8⟩ := back _ _ s6 I7 (g6.trans g5) (gr5.trans gr6)
      exact ⟨m, by omega, j + 1, σ6, H6, by omega, w6, I8, ch8, sl7⟩
    | brk => obtain ⟨_, _, _, z⟩ := hsp; exact z.elim
    | cont => obtain ⟨_, _, _, z⟩ := hsp; exact z.elim
    | ret u => obtain ⟨_, _, _, _, _, z⟩ := hsp; exact z.elim
  · refine wpAny_execs_nil ?_
    have : i = its.length := by omega
    subst this
    exact ⟨σ3, H3, I4, fin σ3 H3 w3⟩
end
end GN
end
section
set_option Elab.async false
set_option linter.all false
set_option maxRecDepth 100000
set_option maxHeartbeats 4000000
namespace GN
open PySem PySem.Spec PyProof.Rows PySem.Calls L2 GenW
/-! ### list(g) -/
/-- the items as they stand in a list -/
def ItemAt (it : V ⊕ List V) (x : V) (H : Hp) : Prop := match it with
  | .inl y => x = y
  | .inr ys => ∃ t, x = .ref t ∧ H t = some (.tup ys)
def ItemsAt (its : List (V ⊕ List V)) (xs : List V) (H : Hp) : Prop := xs.length = its.length ∧ ∀ (i : Nat) (it : V ⊕ List V) (x : V), its[i]? = some it → xs[i]? = some x → ItemAt it x H
structure LstN (H1 : Hp) (its : List (V ⊕ List V)) (L : Addr) (H' : Hp) : Prop where
  same : Same (prn H1) H'
  new : H1 L = none
  at_ : ∃ xs, H' L = some (.lst xs) ∧ ItemsAt its xs H'
section
variable {X : Cx} {k : Nat} {pins : List (Addr × Obj)} {σ : L2.St}
theorem items_snoc {its : List (V ⊕ List V)} {i : Nat} {it : V ⊕ List V} {xs : List V} {x : V} {H H2 : Hp} (hi : its[i]? = some it) (h : ItemsAt (its.take i) xs H) (k : ∀ t ys, H t = some (.tup ys) → H2 t = some (.tup ys)) (hx : ItemAt it x H2) : ItemsAt (its.take (i + 1)) (xs ++ [x]) H2 := by
  have hlt := (List.getElem?_eq_some_iff.mp hi).1
  have e : its.take (i + 1) = its.take i ++ [it] := by rw [List.take_add_one, hi]; rfl
  have hl : (its.take i).length = i := by rw [List.length_take]; omega
  obtain ⟨h1, h2⟩ := h
  refine ⟨by rw [e, List.length_append, List.length_append, h1]; rfl, fun j jt y hj hy => ?_⟩
  rw [e] at hj
  by_cases q : j < i
  · rw [List.getElem?_append_left (by omega)] at hj
    rw [List.getElem?_append_left (by omega)] at hy
    have := h2 j jt y hj hy
    cases jt with
    | inl z => exact this
    | inr ys =>
      obtain ⟨t, h3, h4⟩ := this
      exact ⟨t, h3, k _ _ h4⟩
  · have hji : j = i := by
      have := (List.getElem?_eq_some_iff.mp hj).1
      rw [List.length_append, hl] at this
      have : j < i + 1 := this
      omega
    subst hji
    rw [List.getElem?_append_right (by omega), hl, Nat.sub_self] at hj
    rw [List.getElem?_append_right (by omega), h1, hl, Nat.sub_self] at hy
    cases hj
    cases hy
    exact hx
theorem drain_n {R : Result → Shared → Prop} {S a g : Nat} {D : GD} {H1 : Hp} {B : Around} (hB : D.A = B.in1.in1) (hh : B.handled = none) (hd : B.depth < recursionLimit) (co : CO X pins D []) (ok : D.Ok) (hS0 : H1 S = none) (hSG : D.G S = none) (hz : D.its.length ≤ sizeLine)
    (hend : ∀ s' H' xs, Inv X pins σ H' s' → Same (prn H1) H' → H' S = some (.lst xs) → ItemsAt D.its xs H' → R (.ok (.ret .none)) s') :
    ∀ (m i : Nat) (s : Shared) (H' : Hp) (xs : List V), i + m = D.its.length → Inv X pins σ H' s → CH D H' [] → Asl D a g m s → Same (prn H1) H' → H' S = some (.lst xs) → ItemsAt (D.its.take i) xs H' → codeAny (model X.prog X.w) B (.builtin "list.extend.loop" ⟨[.ref S, .ref a, .none], []⟩) R s := by
  intro m
  induction m with
  | zero =>
    intro i s H' xs hi I ch sl sm hS hit
    have hi : i = D.its.length := by omega
    subst hi
    rw [List.take_length] at hit
    refine codeAny_builtin F.entry_extend_loop ?_
    rw [Around.under_plainId F.plain_extend_loop _]
    show wpAny _ B.in1 (pyNext (.ref a) >>= _) _ _ s
    refine wpAny_bind (next_n (B := B.in1) I hh hd hB co ok ch sl (fun m j it x v H4 Z ks s4 en => ?_) fun en s4 I4 => ?_)
    · cases en
    · exact wpAny_pure (hend s4 H' xs I4 sm hS hit)
  | succ m ih =>
    intro i s H' xs hi I ch sl sm hS hit
    refine codeAny_builtin F.entry_extend_loop ?_
    rw [Around.under_plainId F.plain_extend_loop _]
    show wpAny _ B.in1 (pyNext (.ref a) >>= _) _ _ s
    refine wpAny_bind (next_n (B := B.in1) I hh hd hB co ok ch sl (fun m' j it x v H4 Z ks s4 en hj hjt hic rx I4 ch4 wk => ?_) fun en => ?_)
    · cases en
      obtain rfl : j = i := by omega
      have hg4 := wk.2.1
      have hCa := wk.1
      refine wk.pin I4 co ok ch4 (gen_none I4 ch4 hg4 hCa) fun Z' I5 back => ?_
      have hS4 : H4 S = some (.lst xs) := by
        cases it with
        | inl y => rw [hic.2]; exact hS
        | inr ys =>
          obtain ⟨t, _, hn, e⟩ := hic
          rw [e, upd_ne (ne_of_none hS hn)]
          exact hS
      obtain ⟨_, its, n, rs, e⟩ := I5.hok S _ hS4
      have hl := rs.length
      have hxl : xs.length = j := by
        rw [hit.1, List.length_take]
        omega
      show wpAny _ B.in1 (updateSeq S (·.push v) >>= _) _ _ _
      refine wpAny_bind ?_
      refine wpAny_updateSeq e rfl (wpAny_pure ⟨plainId_quiet F.plain_extend_loop _, ?_⟩) (by rw [List.size_toArray]; omega) (by show (its.toArray.push v).size ≤ sizeLine + 1; rw [Array.size_push, List.size_toArray]; omega)
      have q : (s4.heap.update S (Obj.mapSeq (·.push v))).get? S = some { cls := .type "list", data := .seq (its.toArray.push v) (n + 1) } := by
        rw [Heap.get?_update_self _ e (by rw [mapSeq_push]; rfl), mapSeq_push]
      have sb : Heap.SameBut S s4.heap (s4.heap.update S (Obj.mapSeq (·.push v))) := Heap.SameBut.update ..
      have I6 : Inv X (pins ++ Z') σ (upd H4 S (.lst (xs ++ [x]))) { s4 with heap := s4.heap.update S (Obj.mapSeq (·.push v)) } :=
        I5.write (t' := s4.toks) (by rw [hS4]; trivial) (.inl rfl) (fun b o n z => (sb.2 b n).trans z) ⟨_, q⟩ ⟨by rw [List.length_append]; show xs.length + 1 ≤ sizeLine; omega, its ++ [v], n + 1, rs.append (.cons rx .nil), by rw [q]; simp⟩
      obtain ⟨sl7, I8, ch8⟩ := back _ _ { s4 with heap := s4.heap.update S (Obj.mapSeq (·.push v)) } I6 rfl (Grow.list hS4)
      have hSn : ∀ t ys, H' t = some (.tup ys) → t ≠ S := fun t ys e1 z => by rw [z, hS] at e1; cases e1
      refine ih (j + 1) _ _ (xs ++ [x]) (by omega) I8 ch8 sl7 (fun b o e1 => ?_) upd_same (items_snoc hjt hit (fun t ys e1 => ?_) ?_)
      · have h1 := sm _ _ e1
        have hbS : b ≠ S := fun z => by rw [z, prn_none hS0] at e1; cases e1
        rw [upd_ne hbS]
        cases it with
        | inl y => rw [hic.2]; exact h1
        | inr ys =>
          obtain ⟨t, _, hn, e2⟩ := hic
          rw [e2, upd_ne (ne_of_none h1 hn)]
          exact h1
      · rw [upd_ne (hSn t ys e1)]
        cases it with
        | inl y => rw [hic.2]; exact e1
        | inr zs =>
          obtain ⟨t2, _, hn, e2⟩ := hic
          rw [e2, upd_ne (ne_of_none e1 hn)]
          exact e1
      · cases it with
        | inl y => exact hic.1
        | inr ys =>
          obtain ⟨t, h1, hn, e2⟩ := hic
          refine ⟨t, h1, ?_⟩
          rw [upd_ne (fun z => by rw [z, hS] at hn; cases hn), e2, upd_same]
    · cases en
def tListN (tg : TGN) : TE := fun σ H Q => tg σ H fun its H1 => its.length ≤ sizeLine ∧ ∀ L H', LstN H1 its L H' → Q (.ref L) H'
theorem pe_listN {e : Expr} {tg : TGN} {nm : Str} {p pos : Pos} (h : PGN X k e tg) (hr : Room (k + 4) X.A) (hex : X.ex = []) (hg : Gl X nm) (hmg : X.mg nm = none) (hv : bootBuiltins nm = some (.type "list")) (hnm : nm ≠ "__name__" := by decide) (hdb : (nm == ("__debug__" : Str)) = false := by decide)
    (he : starEach [e] X.env = (false, eval e X.env) :: starEach [] X.env := by rfl) : PE X (.Call (.Name nm p) [e] [] pos) (tListN tg) := by
  refine ⟨fun pins s σ H Q I hq => ?_⟩
  refine wpAny_Call_Name_kw (ld_blt I hg hmg hv ?_ hnm hdb)
  refine PyProof.Rows.callWith_type1 ?_ he rfl
  rw [he]
  show wpAny _ _ (spliced ((false, eval e X.env) :: backTo pos (starEach [] X.env))) _ _ s
  refine Calls.spliced_cons (thn (h.run pins s σ H _ I hq) fun u s1 hM => ?_)
  obtain ⟨H1, sc, N, q, scope, f, cd, its, I1, M, hz, fin⟩ := hM
  refine Calls.spliced_nil ?_
  refine made_n (B := X.A.in1.in1) I1 ((hr.in1.in1.in1).mono (by omega)) I1.ok.frames M fun a g0 D eu hits hA _ hGn hGl hfr ok co ch I2 hgen hCa has wake => ?_
  subst eu
  have hlim := I2.nolimit
  have hSa : s1.heap.objs.size ≠ a := Nat.ne_of_gt has
  have hSn : prn H1 s1.heap.objs.size = none := I2.hok.fresh (Nat.le_refl _)
  refine callType_codes (Q₁ := fun obj s₁ => obj = .ref s1.heap.objs.size ∧ s₁ = { s1 with heap := s1.heap.push { cls := .type "list", data := .seq #[] } }) F.called_list (F.typeCall_list_1 _) F.entry_list_init
    (code_list_new _ ⟨rfl, rfl⟩) fun obj s₁ h₁ => ?_
  obtain ⟨rfl, rfl⟩ := h₁
  have hS : (s1.heap.push { cls := .type "list", data := .seq #[] }).get? s1.heap.objs.size = some { cls := .type "list", data := .seq #[] } := Heap.get?_push_size _ rfl
  refine ⟨⟨_, hS, rfl⟩, F.args_list_init_2 _ _, ?_⟩
  show wpAny _ X.A.in1.in1 (do let old ← Builtin.List.listItems (.ref s1.heap.objs.size); Builtin.List.listUpdate (.ref s1.heap.objs.size) (fun _ => #[]); letGo old.toList.reverse; Builtin.List.listExtendWith (.ref s1.heap.objs.size) (.ref a) .none) _ _ _
  refine wpAny_bind ?_
  unfold Builtin.List.listItems
  refine wpAny_bind (wpAny_seqItems hS rfl (wpAny_pure ?_))
  show wpAny _ X.A.in1.in1 (updateSeq s1.heap.objs.size (fun _ => #[]) >>= fun _ => letGo (#[] : Array Value).toList.reverse >>= fun _ => Builtin.List.listExtendWith (.ref s1.heap.objs.size) (.ref a) .none) _ _ _
  refine wpAny_bind (wpAny_updateSeq hS rfl ?_)
  have hS2 := Heap.get?_update_self (Obj.mapSeq (fun _ => (#[] : Array Value))) hS rfl
  refine wpAny_bind (wpAny_letGo ?_)
  unfold Builtin.List.listExtendWith
  have up : ∀ (h : Heap) (f : Obj → Obj), (∀ b o, s1.heap.get? b = some o → h.get? b = some o) → ∀ b o, s1.heap.get? b = some o → (h.update s1.heap.objs.size f).get? b = some o := fun h f q b o e =>
    (Heap.get?_update_other _ _ (Ne.symm (Nat.ne_of_lt (Heap.lt_size e)))).trans (q b o e)
  have k1 : ∀ b o, s1.heap.get? b = some o → (s1.heap.push { cls := .type "list", data := .seq #[] }).get? b = some o := fun b o e => Heap.get?_push_of_some _ e
  have k2 := up _ (Obj.mapSeq (fun _ => (#[] : Array Value))) k1
  have gty : ∀ {h : Heap}, (∀ b o, s1.heap.get? b = some o → h.get? b = some o) → h.IsGen a g0 := fun {h} q => hgen.keeps q
  refine wpAny_bind (wpAny_typeOf (Heap.IsGen.typeIs (s := { s1 with heap := _ }) (gty k2)) ?_)
  have h1 : Builtin.List.listSameRef (.ref s1.heap.objs.size) (.ref a) = false := by simp [Builtin.List.listSameRef, hSa]
  have h2 : (Value.type "generator" == Value.type "list") = false := by decide
  have h3 : (Value.type "generator" == Value.type "tuple") = false := by decide
  simp only [h1, h2, h3, Bool.or_false, Bool.false_eq_true, if_false]
  refine wpAny_bind (wpAny_pyIter_gen (s := { s1 with heap := _ }) (gty k2) ?_)
  refine wpAny_bind (wpAny_holding ?_)
  unfold Builtin.List.listLengthHint
  refine wpAny_bind (wpAny_specialOf (Heap.IsGen.typeIs (s := { s1 with heap := _ }) (gty k2)) F.gen_no_len ?_)
  show wpAny _ X.A.in1.in1 (specialOf (Value.ref a) (Str.ofString "__length_hint__") >>= _) _ _ _
  refine wpAny_bind (wpAny_specialOf (Heap.IsGen.typeIs (s := { s1 with heap := _ }) (gty k2)) F.gen_no_hint ?_)
  refine wpAny_pure ?_
  show wpAny _ X.A.in1.in1 (rule "list.extend.makes-room" >>= fun _ => Builtin.List.listTouch (.ref s1.heap.objs.size) >>= fun _ =>
    again (.builtin "list.extend.loop" ⟨[.ref s1.heap.objs.size, .ref a, .none], []⟩)) _ _ _
  refine wpAny_bind (wpAny_rule ?_)
  refine wpAny_bind ?_
  show wpAny _ X.A.in1.in1 (updateSeq s1.heap.objs.size (·.push .none) >>= fun _ => updateSeq s1.heap.objs.size (·.pop)) _ _ _
  refine wpAny_bind (wpAny_updateSeq hS2 rfl ?_)
  have hS3 := Heap.get?_update_self (Obj.mapSeq (·.push Value.none)) hS2 rfl
  refine wpAny_updateSeq (hz := by seq_fits) hS3 rfl ?_
  have hS4 := Heap.get?_update_self (Obj.mapSeq (·.pop)) hS3 rfl
  have k4 := up _ (Obj.mapSeq (·.pop)) (up _ (Obj.mapSeq (·.push Value.none)) k2)
  refine wpAny_pure ⟨plainId_quiet F.plain_extend_loop _, ?_⟩
  have I4 := I2.laid (a := s1.heap.objs.size) (o := .lst []) (t' := s1.toks) k4 (Nat.le_refl _) ⟨Nat.zero_le _, [], _, .nil, hS4⟩
  have hCS : s1.heap.objs.size ≠ D.C := Nat.ne_of_gt (Nat.lt_trans hCa has)
  have hH1S : H1 s1.heap.objs.size = none := hfr _ (Nat.le_of_lt (Nat.lt_trans hCa has))
  refine drain_n (B := X.A.in1) (D := D) (H1 := H1) (σ := σ) hA hr.hd (by have := hr.dp; show X.A.depth < _; omega) co ok hH1S ?_ (by rw [hits]; exact hz) (fun s' H' xs I' sm hL hi => ?_) D.its.length 0 _ _ [] (Nat.zero_add _) I4 (ch.laid hSn hCS (.inr ⟨_, rfl⟩)) (by rw [hits]; exact wake _ k4 rfl rfl I4.stack) (K0.same_upd hSn) upd_same ⟨rfl, fun i it x h => by simp at h⟩
  · exact hGn _ hH1S
  · rw [hits] at hi
    exact ⟨rfl, .ref s1.heap.objs.size, H', I', rfl, fin _ H' ⟨sm, hH1S, xs, hL, hi⟩⟩
end
end GN
end
section
set_option Elab.async false
set_option linter.all false
set_option maxRecDepth 100000
set_option maxHeartbeats 4000000
namespace GN
open PySem PySem.Spec PyProof.Rows PySem.Calls L2 GenW
/-! ### [x for y in g] -/
section
variable {X : Cx} {k : Nat}
def tLcN (tg : TGN) (g : TG) (te : TE) (vs : List Nat) : TE := fun σ H Q => tg σ H fun its H1 => ∀ L, H1 L = none → ∃ W : Nat → Hp → Prop, W 0 (upd (prn H1) L (.lst [])) ∧
  (∀ i it H' x H'', its[i]? = some it → W i H' → ItemC it x H' H'' → g x (wipe σ vs) H'' fun σ2 H2 => Grow H'' H2 ∧ wipe σ2 vs = wipe σ vs ∧ te σ2 H2 fun y H4 => Grow H2 H4 ∧ ∃ acc, H4 L = some (.lst acc) ∧ acc.length < sizeLine ∧ W (i + 1) (upd H4 L (.lst (acc ++ [y])))) ∧
  ∀ H', W its.length H' → Q (.ref L) H'
theorem pe_lcN {elt target e : Expr} {scope : Scope} {own : List (Str × Nat)} {pos : Pos} {tg : TGN} {g : TG} {te : TE} (he : PGN X k e tg) (hr : Room (k + 2) X.A) (hN : X.N.Nodup) (ok : BlkOk X.N X.env.scope scope own)
    (hgt : ∀ (s : Shared) (H : Hp) (C : Addr) (cl : List (Str × Addr)) (fp : List Addr), TGg (X.blk s H scope (compEnvC scope cl C X.env) fp) target g) (hel : ∀ (s : Shared) (H : Hp) (C : Addr) (cl : List (Str × Addr)) (fp : List Addr), EG (X.blk s H scope (compEnvC scope cl C X.env) fp) elt te)
    (hs : ∀ y, foldedSetIterable e X.env y = pure y := by intro _; rfl) : PE X (.ListComp elt [⟨target, e, [], 0⟩] scope pos) (tLcN tg g te (own.map (·.2))) := by
  refine ⟨fun pins s σ H Q I h => ?_⟩
  rw [eval_ListComp]
  have hfree : ∀ y ∈ scope.names, y.2 = .free → ∃ c, X.env.cells.lookup y.1 = some c := fun y hy e => by
    rcases ok.free y hy e with k | k
    · exact I.ok.has _ (.inl k)
    · exact I.ok.has _ (.inr k)
  refine wpAny_comprehension_free (use := none) rfl hs (closure_ok hfree) ok.kind (fun y hy e => by rw [ok.uniq y hy, e]) (thn (he.run pins s σ H _ I h) fun u s1 hM => ?_)
  obtain ⟨H1, sc, N, q, scope', f, cd, its, I1, M, fin⟩ := hM
  refine made_n (B := X.A) I1 hr.in1 I1.ok.frames M fun a g0 D eu hits hA hDC hGn hGl hfr okD co ch I2 hg hCa has wake => ?_
  subst eu
  refine wpAny_pyIter_gen hg ?_
  refine wpAny_newObj_type (newEnv_comp ?_) (by show 0 ≤ sizeLine; decide)
  generalize hL : s1.heap.objs.size = L
  have hLn : H1 L = none := hfr _ (by rw [← hL]; exact Nat.le_of_lt (Nat.lt_trans hCa has))
  have hLp : prn H1 L = none := prn_none hLn
  obtain ⟨W, w0, turn, fin⟩ := fin L hLn
  generalize hs3 : ({ s1 with heap := s1.heap.push { cls := .type "list", data := .seq ([] : List Value).toArray } } : Shared) = s3
  have I3 : Inv X pins σ (upd (prn H1) L (.lst [])) s3 := by
    rw [← hs3]
    refine I2.laid (t' := s1.toks) (fun b o e => Heap.get?_push_of_some _ e) (Nat.le_of_eq hL) ⟨Nat.zero_le _, [], 0, .nil, ?_⟩
    rw [← hL]
    exact Heap.get?_push_size _ rfl
  have h3 : s3.heap = s1.heap.push { cls := .type "list", data := .seq ([] : List Value).toArray } := by rw [← hs3]
  have hsz3 : s3.heap.objs.size = L + 1 := by rw [h3, Heap.size_push, hL]
  have haL : a < L := by rw [← hL]; exact has
  have hCL : D.C < L := Nat.lt_trans hCa haL
  generalize hfp : (List.range L).filter (fun b => decide (D.C ≤ b)) = fp
  have hfpm : ∀ b, b ∈ fp ↔ D.C ≤ b ∧ b < L := fun b => by
    rw [← hfp, List.mem_filter, List.mem_range, decide_eq_true_eq]
    exact ⟨fun z => ⟨z.2, z.1⟩, fun z => ⟨z.2, z.1⟩⟩
  have f3 : ∀ b ∈ fp, FpOk X pins (upd (prn H1) L (.lst [])) b ∧ b < s3.heap.objs.size := fun b hb => by
    obtain ⟨h1, h2⟩ := (hfpm b).mp hb
    rw [hsz3]
    refine ⟨I1.fpOk (by rw [← hDC]; exact h1) ?_, Nat.lt_succ_of_lt h2⟩
    rw [upd_ne (Nat.ne_of_lt h2)]
    exact prn_none (hfr b h1)
  have I4 := block_start I3 ok hN f3
  show codeAny _ _ (.compStart (.ListComp elt [⟨target, e, [], 0⟩] scope pos) 0 (.ref a) (.ref L) (compEnvC scope (cellsFrom (s3.heap.objs.size + 1) scope.names (cloFrom X.env.cells scope.names [])) s3.heap.objs.size X.env)) (compPost (model X.prog X.w) X.A X.xe none (EP X pins σ Q) (.ref L) s3.heap.objs.size) { s3 with heap := pushCells (s3.heap.push { cls := .type "dict", data := .dict #[] }) scope.names }
  have hgt := hgt s3 (upd (prn H1) L (.lst [])) s3.heap.objs.size (cellsFrom (s3.heap.objs.size + 1) scope.names (cloFrom X.env.cells scope.names [])) fp
  have hel := hel s3 (upd (prn H1) L (.lst [])) s3.heap.objs.size (cellsFrom (s3.heap.objs.size + 1) scope.names (cloFrom X.env.cells scope.names [])) fp
  generalize hce : compEnvC scope (cellsFrom (s3.heap.objs.size + 1) scope.names (cloFrom X.env.cells scope.names [])) s3.heap.objs.size X.env = ce at I4 hgt hel ⊢
  have cL : ce.locals = s3.heap.objs.size := by subst hce; rfl
  generalize hs4 : ({ s3 with heap := pushCells (s3.heap.push { cls := .type "dict", data := .dict #[] }) scope.names } : Shared) = s4 at I4 ⊢
  have k4 : ∀ b o, s1.heap.get? b = some o → s4.heap.get? b = some o := fun b o e => by
    rw [← hs4]
    refine pushCells_keeps _ _ _ _ (Heap.get?_push_of_some _ ?_)
    rw [h3]
    exact Heap.get?_push_of_some _ e
  generalize hY : X.blk s3 (upd (prn H1) L (.lst [])) scope ce fp = Y at I4 hgt hel
  have yA : Y.A = X.A := by rw [← hY]
  have yS : Y.s_0 = s3 := by rw [← hY]
  have yE : Y.env = ce := by rw [← hY]
  have yP : Y.prog = X.prog := by rw [← hY]
  have yW : Y.w = X.w := by rw [← hY]
  have sl : Asl D a g0 its.length s4 := wake s4 k4 (by rw [← hs4, ← hs3]) (by rw [← hs4, ← hs3]) (by have := I4.stack; rw [← hY] at this; exact this)
  have co4 : CO Y [] D [L] := by
    refine ⟨by rw [yP]; exact co.hP, by rw [yW]; exact co.hw, by rw [← hY]; exact co.hbase, by rw [← hY]; exact co.hout, fun b hb => ?_, by rw [yE, cL, hsz3]; exact Nat.ne_of_gt (Nat.lt_succ_of_lt hCL), fun x c e => ?_, fun p hp => ?_⟩
    · rw [yS, hsz3]
      rcases Nat.lt_trichotomy b L with z | z | z
      · refine .inl ?_
        rw [← hY]
        exact (hfpm b).mpr ⟨hb, z⟩
      · exact .inr (.inr (by rw [z]; exact List.mem_singleton.mpr rfl))
      · exact .inr (.inl z)
    · have hCf : D.C ∈ Y.ex := by
        rw [← hY]
        exact (hfpm _).mpr ⟨Nat.le_refl _, hCL⟩
      exact (I4.ok.exf _ hCf).2 x c e
    · rw [← hY] at hp
      cases hp
  have ch3 : CH D (upd (prn H1) L (.lst [])) [L] := by
    have c := ch.laid (u := .lst []) hLp (Nat.ne_of_gt hCL) (.inr ⟨[], rfl⟩)
    exact ⟨c.sG, c.C, c.pl, c.own, c.ext, fun b hb z => by rw [List.mem_singleton.mp hb, upd_same] at z; cases z⟩
  have hg4 : s4.heap.IsGen a g0 := by
    obtain ⟨o, nm, qn, eo, r⟩ := hg
    exact ⟨o, nm, qn, k4 _ _ eo, r⟩
  have loop : codeAny (model X.prog X.w) X.A (.compLoop (.ListComp elt [⟨target, e, [], 0⟩] scope pos) 0 (.ref a) (.ref L) ce) (compPost (model X.prog X.w) X.A X.xe none (EP X pins σ Q) (.ref L) s3.heap.objs.size) s4 := by
    refine compLoop_any (fun n s' => ∃ i H', i + n = its.length ∧ W i H' ∧ Inv Y [] (wipe σ (own.map (·.2))) H' s' ∧ CH D H' [L] ∧ Asl D a g0 n s') ?_ its.length ⟨0, _, Nat.zero_add _, w0, I4, ch3, sl⟩
    rintro n s5 ⟨i, H5, hin, w5, I5, ch5, sl5⟩
    rw [← yP, ← yW]
    refine next_n (B := X.A) I5 hr.hd (by have := hr.dp; omega) hA co4 okD ch5 sl5 (fun m j it x v H6 Z ks s6 en hj hit hic rx I6 ch6 wk => ?_) fun en s6 I6 => ?_
    · rw [hits] at hj hit
      obtain rfl : j = i := by omega
      have hg6 := wk.2.1
      obtain ⟨o, nm, qn, ho, hoc, hod, _⟩ := id hg6
      refine go_of ho hoc hod (by decide) ?_
      refine wk.pin I6 co4 okD ch6 (gen_none I6 ch6 hg6 hCa) fun Z' I7 back => ?_
      have r1 := hgt.run ([] ++ Z') s6 _ H6 x v _ I7 rx (turn j it H5 x H6 hit w5 hic)
      rw [yA, yE] at r1
      refine wpAny_mono r1 (fun _ s7 h7 => ?_) fun e s' hx => by rw [← hY] at hx; exact hx.elim
      obtain ⟨g7, σ7, H7, I8, gr7, hw7, ht7⟩ := h7
      refine wpAny_tests_nil ?_
      rw [if_pos rfl]
      have r2 := hel.run ([] ++ Z') s7 σ7 H7 _ I8 ht7
      rw [yA, yE] at r2
      refine wpAny_mono r2 (fun u s8 h8 => ?_) fun e s' hx => by rw [← hY] at hx; exact hx.elim
      obtain ⟨g8, y, H8, I9, ry, gr8, acc, hacc, hz, w8⟩ := h8
      refine app_raw I9 hacc hz ry fun s9 I10 e9 => ?_
      obtain ⟨sl9, I11, ch11⟩ := back σ7 _ s9 I10 (e9.trans (g8.trans g7)) ((gr7.trans gr8).trans (Grow.list hacc))
      refine ⟨m, by omega, j + 1, _, by omega, w8, I11.weak (by rw [← hw7, wipe_length]) fun b z e => ?_, ch11, sl9⟩
      rw [← hw7] at e
      exact (wipe_some e).1
    · have : i = its.length := by omega
      subst this
      have hb6 : Un (frs X.stack) fp (upd (prn H1) L (.lst [])) H5 s3.heap s6.heap := by
        have q := I6.base
        rw [← hY] at q
        exact q
      have hk6 : HOk X.prog X.w H5 s6.heap := by
        have q := I6.hok
        rw [← hY] at q
        exact q
      have ho6 : s6.os = s3.os := by
        have q := I6.os
        rw [← hY] at q
        exact q
      have I7 : Inv X pins σ H5 s6 := I3.call' (ch := fp) ho6 hb6 hk6 I6.bare fun b hb => ⟨(f3 b hb).1.2.2.2.1, (f3 b hb).1.2.1, (f3 b hb).1.2.2.2.2.1, (f3 b hb).1.2.2.2.2.2⟩
      have nC : H5 s3.heap.objs.size = none := by
        have z : H5 Y.env.locals = none := I6.free
        rw [yE, cL] at z
        exact z
      obtain ⟨m, hns, _⟩ := I6.loc
      rw [yE, cL] at hns
      refine ⟨m, hns, fun h'' sb => ?_⟩
      obtain ⟨f0, f1, f2, f3, f4, f5⟩ := I3.fpOk (Nat.le_refl _) nC
      exact ⟨.ref L, _, I7.turned (t' := s6.toks) (fun b o hb e => (sb.2 b hb).trans e) f0 f1 f3 f4 f5, rfl, fin _ w5⟩
  exact codeAny_compStart_list loop (wpAny_pyIter_gen hg4 loop)
end
end GN
end
section
set_option Elab.async false
set_option linter.all false
set_option maxRecDepth 100000
set_option maxHeartbeats 4000000
namespace GN
open PySem PySem.Spec PyProof.Rows PySem.Calls L2 GenW
/-! ### more that leaves the table of generators alone: d[k], a < b, if-expressions -/
section
variable {X : Cx} {pins : List (Addr × Obj)} {σ : L2.St} {H : Hp} {s : Shared}
theorem d_getItemG {A : Around} {E : Value → Shared → Prop} {a : Addr} {y v : V} {u : Value} {Q : Value → Shared → Prop} (hu : A.units + 1 < cLine) (I : Inv X pins σ H s) (g : DGet H a y (some v)) (ry : RelV y u) (h : ∀ w' s', Inv X pins σ H s' → s'.gens = s.gens → RelV v w' → Q w' s') :
    wpAny (model X.prog X.w) A (getItem (.ref a) u) Q E s := by
  rcases g with ⟨kvs, k, e, ey, l⟩ | ⟨kvs, k, b, e, ey, eb, l⟩
  · subst ey
    obtain ⟨z, hd, vs, rel, dd⟩ := dk_rd I.hok e
    obtain ⟨w', hw, rw'⟩ := RelO.some_of (v := v) (o := valueAt vs k) (by rw [l]; exact rel.val k)
    exact wpAny_getItem_of (kV_is ry) dd.mapOf hw (h w' _ (I.tok _) rfl rw')
  · subst ey
    cases (show u = Value.ref b from ry)
    obtain ⟨z, hd, xs, rel, dd⟩ := dt_rd I.hok e
    obtain ⟨w', hw, rw'⟩ := RelO.some_of (v := v) (o := (atKey xs k).map (·.2)) (by rw [l]; exact rel.val k)
    obtain ⟨p, hp, hp2⟩ := Option.map_eq_some_iff.mp hw
    refine wpAny_getItem_heap (tupleKind_room_in1 hu) (key_of I.hok eb) dd hp ?_
    rw [hp2]
    exact h w' _ (I.tok _) rfl rw'
theorem eg_dget {o i : Expr} {pos : Pos} {td ty : TE} (hu : X.A.units + 1 < cLine) (ho : EG X o td) (hi : EG X i ty) (hs : NoSl i) : EG X (.Subscript o i pos) (tDGet td ty) := by
  refine ⟨fun pins s σ H Q I h => ?_⟩
  refine subD_of PySem.F.slot_dict_getitem.lookup hs (thn (ho.run pins s σ H _ I h) fun u s1 ⟨g1, x, H1, I1, rx, q1⟩ => thn (hi.run pins s1 σ H1 _ I1 q1) fun iv s2 ⟨g2, y, H2, I2, ry, a, v, ex, g, q2⟩ => ?_)
  subst ex
  obtain rfl : u = Value.ref a := rx
  exact ⟨dict_typeIs I2 g, d_getItemG hu I2 g ry fun w' s3 I3 e3 rw' => ⟨e3.trans (g2.trans g1), v, H2, I3, rw', q2⟩⟩
theorem eg_ifLt {a b x y : Expr} {p pos : Pos} {ta tb tx ty : TE} (ha : EG X a ta) (hb : EG X b tb) (hx : EG X x tx) (hy : EG X y ty) (hm : behindInMarks .Lt b = false) :
    EG X (.IfExp (.Compare a [.Lt] [b] p) x y pos) (tIf (tTest (tOp (rI0 fun i j => .bl (decide (i < j))) ta tb)) tx ty) := by
  refine ⟨fun pins s σ H Q I h => ?_⟩
  refine wpAny_IfExp (wpAny_isTrue_Compare1 (thn (ha.run pins s σ H _ I h) fun v s1 ⟨g1, x1, H1, I1, r1, q1⟩ => thn (hb.run pins s1 σ H1 _ I1 q1) fun u s2 ⟨g2, y1, H2, I2, r2, i, j, ei, ej, k, ek, q2⟩ => ?_) hm)
  subst ei ej
  obtain ⟨t1, rfl⟩ := r1
  obtain ⟨t2, rfl⟩ := r2
  refine lt_int ?_
  obtain rfl : decide (i < j) = k := by cases ek; rfl
  refine wpAny_truthy_bool ?_
  by_cases hij : decide (i < j) = true
  · rw [hij] at q2 ⊢
    exact thn (hx.run pins s2 σ H2 Q I2 q2) fun w s3 ⟨g3, q3⟩ => ⟨g3.trans (g2.trans g1), q3⟩
  · have hij : decide (i < j) = false := Bool.not_eq_true _ ▸ hij
    rw [hij] at q2 ⊢
    exact thn (hy.run pins s2 σ H2 Q I2 q2) fun w s3 ⟨g3, q3⟩ => ⟨g3.trans (g2.trans g1), q3⟩
end
end GN
end
section
set_option Elab.async false
set_option linter.all false
set_option maxRecDepth 100000
set_option maxHeartbeats 4000000
namespace K0
open PySem PySem.Spec PyProof.Rows L2 GN
/-! ### pairs -/
def prOne (R : List Row) (B : List RRow) (one : Str) (os : List Str) : List (List V) := os.filterMap fun o => match meetL R B one o with
  | [] => none
  | w :: _ => some [.str one, .str o, .str w]
def prTo (R : List Row) (B : List RRow) (ns : List Str) (i : Nat) : List (List V) := (List.range i).flatMap fun j => prOne R B (ns.getD j "") (ns.drop (j + 1))
def prAll (R : List Row) (B : List RRow) : List (List V) := prTo R B (rnm B) (rnm B).length
theorem prTo_succ {R : List Row} {B : List RRow} {ns : List Str} {i : Nat} {one : Str} (h : ns[i]? = some one) : prTo R B ns (i + 1) = prTo R B ns i ++ prOne R B one (ns.drop (i + 1)) := by
  unfold prTo
  rw [List.range_succ, List.flatMap_append, List.flatMap_singleton, List.getD_eq_getElem?_getD, h]
  rfl
theorem prOne_snoc {R : List Row} {B : List RRow} {one o : Str} {os : List Str} {k : Nat} (h : os[k]? = some o) : prOne R B one (os.take (k + 1)) = prOne R B one (os.take k) ++ (match meetL R B one o with
  | [] => []
  | w :: _ => [[V.str one, .str o, .str w]]) := by
  unfold prOne
  rw [List.take_add_one, h, List.filterMap_append]
  congr 1
  show (List.filterMap _ [o]) = _
  rw [List.filterMap_cons]
  cases meetL R B one o <;> rfl
theorem prTo_le {R : List Row} {B : List RRow} {ns : List Str} : ∀ {i j : Nat}, i ≤ j → ∃ r, prTo R B ns j = prTo R B ns i ++ r := fun {i j} h => by
  unfold prTo
  obtain ⟨d, rfl⟩ : ∃ d, j = i + d := ⟨j - i, by omega⟩
  rw [List.range_add, List.flatMap_append]
  exact ⟨_, rfl⟩
theorem prOne_le {R : List Row} {B : List RRow} {one : Str} {os : List Str} (k : Nat) : ∃ r, prOne R B one os = prOne R B one (os.take k) ++ r := by
  refine ⟨prOne R B one (os.drop k), ?_⟩
  unfold prOne
  rw [← List.filterMap_append, List.take_append_drop]
theorem prOne_len {R : List Row} {B : List RRow} {one : Str} {os : List Str} : (prOne R B one os).length ≤ os.length := List.length_filterMap_le _ _
theorem prTo_len {R : List Row} {B : List RRow} {ns : List Str} : ∀ i, (prTo R B ns i).length ≤ i * ns.length := by
  intro i
  induction i with
  | zero => exact Nat.le_of_eq (by simp [prTo])
  | succ i ih =>
    have e : prTo R B ns (i + 1) = prTo R B ns i ++ prOne R B (ns.getD i "") (ns.drop (i + 1)) := by
      unfold prTo
      rw [List.range_succ, List.flatMap_append, List.flatMap_singleton]
    rw [e, List.length_append, Nat.succ_mul]
    have h1 := prOne_len (R := R) (B := B) (one := ns.getD i "") (os := ns.drop (i + 1))
    rw [List.length_drop] at h1
    omega
theorem sl_tupAK {X : Cx} {K : PySem.W.Frag} (e : X.K = K := by rfl) : SlR X (rSlA K) := e ▸ sl_tupA
abbrev scPairs_N : List Str := ["rights", "place", "one", "other", "weirs"]
theorem scPairs : GScope scPairs_N ["rights"] (defScope sPairsG) := ⟨rfl, rfl, rfl, by decide +kernel, rfl, by decide +kernel, by decide +kernel⟩
def spPairs (Cg Cr : Addr) : SpN := fun vs G its => ∃ (p q : Addr) (AR : List (Addr × Row)) (BR : List (Addr × RRow)), vs = [.ref p] ∧ RigOk Cg Cr G p q AR BR ∧ its = (prAll (rowsOf AR) (bOf BR)).map Sum.inr
section
variable {P : Program} {w : World} {K : PySem.W.Frag} {mg : Str → Option Value} {base : Heap} {tS tM tL : Tok}
theorem ok_pairs {f fM fW Cg Cr : Addr} {fd fdM fdW : FuncData} (F : FnP K "pairs" sPairsG f fd) (Fmeet : FnP K "meet" sMeet fM fdM) (gmeet : mg "meet" = some (.ref fM)) (Fway : FnM K "way" "Rights.way" sGWay fW fdW) (Mway : Meth K Cg "way" fW) (D : NdG P w K mg base Cg Cr) (TG : Rg K mg Cg) (B : Bl mg) : GnOk P w K mg base 4 f fd ["rights"] (spPairs Cg Cr) := by
  have Gmeet : FnOk P w K mg base CX0 4 fM fdM ["rights", "one", "other"] (spMeet Cg Cr) := ok_meet Fmeet Fway Mway D TG B
  have bmeet : Binds K fdM ["rights", "one", "other"] [] := Fmeet.bindsN fun _ _ _ _ _ _ us hl => match us, hl with | [_, _, _], _ => rfl
  refine ⟨fun vs G its h => ?_, fun A outer s H G args us vs its hr e0 hb r gd h => ?_⟩
  · obtain ⟨p, q, AR, BR, rfl, _⟩ := h
    rfl
  obtain ⟨p, q, AR, BR, rfl, R, rfl⟩ := h
  refine codeAny_mono (gen_call (its := (prAll (rowsOf AR) (bOf BR)).map Sum.inr) F scPairs (fun n => rfl) (fun y => ?_) hr e0 hb rfl r gd fun cd A' hrb => ?_) fun r s' hq => ?_
  · refine ⟨fun z => ?_, fun z => ?_⟩
    · have := PySem.mem_of_lookup z
      revert this
      have hh : ∀ y ∈ (defScope sPairsG).names, y.2 ≠ .cell := by decide +kernel
      exact fun m => hh _ m rfl
    · exact scPairs.nofree _ (PySem.mem_of_lookup z) rfl
  · have hrmeet : Room 4 _ := hrb
    have hu := hu_of hrb
    refine ⟨_, (nss_one
      (ns_forE (g := gTup K 2 (gCons (gName 1) (gCons (gName 2) gNil))) (fun _ _ => (by rfl)) B.enumerate (fun _ _ => pa_cons (fldK (K := K) (pv 0) rfl) pa_nil) (fun _ _ => pg_tup rfl (pgs_cons (pg_name (i := 1) scPairs.nd rfl (Or.inl rfl)) (pgs_cons (pg_name (i := 2) scPairs.nd rfl (Or.inl rfl)) pgs_nil)))
        (nss_one (ns_forT (g := gName 3) (fun _ _ => pe_slice (sl_tupAK (K := K)) (fldK (K := K) (pv 0) rfl) (po_some (pe_op op_add (pv 1) pe_int)) po_none) (fun _ _ => pg_name (i := 3) scPairs.nd rfl (Or.inl rfl))
          (nss_cons (ns_plain fun _ _ => ps_set (i := 4) scPairs.nd rfl (Or.inl rfl) (pe_call Gmeet hrmeet (by rfl) gmeet Fmeet.kp bmeet .nil pass0 (pa_cons (pv 0) (pa_cons (pv 2) (pa_cons (pv 3) pa_nil)))))
          (nss_one (ns_if (fun _ _ => pt_tru (K := K) (pv 4))
            (nss_one (ns_yield (fun _ _ => pe_tup (pa_cons (pv 2) (pa_cons (pv 3) (pa_cons (pe_ix (ixTK (K := K)) (pv 4) pe_int (fun _ _ => rfl)) pa_nil)))) rfl (fun _ _ => rfl)))
            nss_nil)))))
        rfl)), ?_⟩
    intro H2 s2
    have R2 := R.same s2
    have hm := R.b.most
    have hln : (rnm (bOf BR)).length = (bOf BR).length := List.length_map _
    obtain ⟨dx, tn, tr, dw, dl, dp, h1, h2, h3, h4, h5, h6, h7⟩ := id R.at_.ex
    refine ⟨_, rfl, p, Cg, dx, _, _, rfl, s2 _ _ h1, TG.cl, TG.names, rr6n _ _ _ _ _ _, tn, rfl, ⟨_, .inl (h3.same s2)⟩, .refl _, ?_⟩
    have hal : (prAll (rowsOf AR) (bOf BR)).length = ((prAll (rowsOf AR) (bOf BR)).map (Sum.inr (α := V))).length := (List.length_map _).symm
    have itat : ∀ {i : Nat} {y : List V} {r : List (List V)}, prAll (rowsOf AR) (bOf BR) = r → r[i]? = some y → ((prAll (rowsOf AR) (bOf BR)).map (Sum.inr (α := V)))[i]? = some (.inr y) := fun {i y r} e h => by
      rw [List.getElem?_map, e, h]
      rfl
    refine ⟨fun j m i σ H => j ≤ (rnm (bOf BR)).length ∧ m = (rnm (bOf BR)).length - j ∧ i = (prTo (rowsOf AR) (bOf BR) (rnm (bOf BR)) j).length ∧ (∃ v1 v2 v3 v4, σ = [some (.ref p), v1, v2, v3, v4]) ∧ Same G H,
      ⟨(rnm (bOf BR)).length, Nat.zero_le _, rfl, rfl, ⟨none, none, none, none, rfl⟩, s2⟩, ?_⟩
    rintro j m i σ H ⟨hj, rfl, rfl, ⟨v1, v2, v3, v4, rfl⟩, sH⟩
    have htn := h3.same sH
    rcases Nat.lt_or_ge j (rnm (bOf BR)).length with hlt | hge
    · refine .inr ⟨⟨_, .str (rnm (bOf BR))[j], .inl htn, by rw [List.getElem?_map, List.getElem?_eq_getElem hlt]; rfl⟩, fun i' σ' H' => i' = (prTo (rowsOf AR) (bOf BR) (rnm (bOf BR)) (j + 1)).length ∧ (∃ v1 v2 v3 v4, σ' = [some (.ref p), v1, v2, v3, v4]) ∧ Same G H',
        fun i' σ' H' h => ⟨(rnm (bOf BR)).length - (j + 1), by omega, hlt, rfl, h.1, h.2.1, h.2.2⟩, fun x H' y => ?_⟩
      obtain ⟨T, x0, rfl, hT, rfl, hx0⟩ := y
      have hx0 := hx0 _ (.inl htn)
      rw [List.getElem?_map, List.getElem?_eq_getElem hlt] at hx0
      obtain rfl : V.str (rnm (bOf BR))[j] = x0 := Option.some.inj hx0
      have sT := same_upd hT (o := .tup [V.int (j : Nat), V.str (rnm (bOf BR))[j]])
      refine ⟨sT, T, _, rfl, .inl (.inl upd_same), rfl, _, _, rfl, _, _, rfl, rfl, .refl _, ?_⟩
      have sH3 := sH.trans sT
      generalize upd H T (.tup [V.int (j : Nat), V.str (rnm (bOf BR))[j]]) = H3 at sH3 ⊢
      -- the slice
      refine ⟨_, rfl, p, Cg, dx, _, _, rfl, sH3 _ _ h1, TG.cl, TG.names, rr6n _ _ _ _ _ _, ?_⟩
      have hcut : cutV ((rnm (bOf BR)).map V.str) (some ((j : Int) + 1)) none = ((rnm (bOf BR)).drop (j + 1)).map V.str := by
        have e := cut_drop ((rnm (bOf BR)).map V.str) (j + 1)
        rw [List.map_drop]
        exact e
      refine ⟨_, rfl, _, _, rfl, rfl, _, rfl, tn, _, rfl, .inl (h3.same sH3), fun hw => ?_, fun hw t nt => ?_⟩
      · have e := HT.sIx_nat ((rnm (bOf BR)).map V.str).length 0 (j + 1)
        have h1 := hw.1
        rw [show ((j : Int) + 1) = ((j + 1 : Nat) : Int) by omega, e, List.length_map] at h1
        omega
      rw [hcut]
      have s4 := sH3.trans (same_upd nt (o := .tup (((rnm (bOf BR)).drop (j + 1)).map V.str)))
      have ht4 : (upd H3 t (.tup (((rnm (bOf BR)).drop (j + 1)).map V.str))) t = some (.tup (((rnm (bOf BR)).drop (j + 1)).map V.str)) := upd_same
      refine ⟨t, rfl, ⟨_, .inl (.inl ht4)⟩, same_upd nt, ?_⟩
      generalize upd H3 t (.tup (((rnm (bOf BR)).drop (j + 1)).map V.str)) = H4 at s4 ht4 ⊢
      have hone : (rnm (bOf BR))[j]? = some (rnm (bOf BR))[j] := List.getElem?_eq_getElem hlt
      have hsucc := prTo_succ (R := rowsOf AR) (B := bOf BR) hone
      have hdl : ((rnm (bOf BR)).drop (j + 1)).length = (rnm (bOf BR)).length - (j + 1) := List.length_drop
      refine ⟨fun l m i σ H => l ≤ ((rnm (bOf BR)).drop (j + 1)).length ∧ m = ((rnm (bOf BR)).drop (j + 1)).length - l ∧ i = (prTo (rowsOf AR) (bOf BR) (rnm (bOf BR)) j ++ prOne (rowsOf AR) (bOf BR) (rnm (bOf BR))[j] (((rnm (bOf BR)).drop (j + 1)).take l)).length ∧ (∃ v3 v4, σ = [some (.ref p), some (.int (j : Nat)), some (.str (rnm (bOf BR))[j]), v3, v4]) ∧ Same G H ∧ TxR H t ((rnm (bOf BR)).drop (j + 1)),
        ⟨_, Nat.zero_le _, rfl, by rw [List.take_zero]; simp [prOne], ⟨_, _, rfl⟩, s4, .inl ht4⟩, ?_⟩
      rintro l m i σ H5 ⟨hl, rfl, rfl, ⟨w3, w4, rfl⟩, sH5, ht5⟩
      rcases Nat.lt_or_ge l ((rnm (bOf BR)).drop (j + 1)).length with hlt5 | hge5
      · have hol : (rnm (bOf BR))[j + 1 + l]? = some ((rnm (bOf BR)).drop (j + 1))[l] := by
          rw [← List.getElem?_drop, List.getElem?_eq_getElem hlt5]
        have hos : ((rnm (bOf BR)).drop (j + 1))[l]? = some ((rnm (bOf BR)).drop (j + 1))[l] := List.getElem?_eq_getElem hlt5
        have hom : ((rnm (bOf BR)).drop (j + 1))[l] ∈ rnm (bOf BR) := List.mem_of_getElem? hol
        have hsn := prOne_snoc (R := rowsOf AR) (B := bOf BR) (one := (rnm (bOf BR))[j]) hos
        generalize ho : ((rnm (bOf BR)).drop (j + 1))[l] = o at hol hos hom hsn
        refine .inr ⟨⟨_, .str o, .inl ht5, by rw [List.getElem?_map, hos]; rfl⟩, fun i' σ' H' => i' = (prTo (rowsOf AR) (bOf BR) (rnm (bOf BR)) j ++ prOne (rowsOf AR) (bOf BR) (rnm (bOf BR))[j] (((rnm (bOf BR)).drop (j + 1)).take (l + 1))).length ∧ (∃ v3 v4, σ' = [some (.ref p), some (.int (j : Nat)), some (.str (rnm (bOf BR))[j]), v3, v4]) ∧ Same G H' ∧ TxR H' t ((rnm (bOf BR)).drop (j + 1)),
          fun i' σ' H' h => ⟨((rnm (bOf BR)).drop (j + 1)).length - (l + 1), by omega, hlt5, rfl, h⟩, fun x H' y => ?_⟩
        obtain ⟨rfl, hx⟩ := y
        have hx := hx _ (.inl ht5)
        rw [List.getElem?_map, hos] at hx
        obtain rfl : V.str o = x := Option.some.inj hx
        refine ⟨.refl _, .refl _, ?_⟩
        refine ⟨_, rfl, _, rfl, _, rfl, p, q, (rnm (bOf BR))[j], o, AR, BR, rfl, R.same sH5, List.getElem_mem hlt, hom, fun tw H6 s6 htw => ?_⟩
        refine ⟨s6, ?_⟩
        have sH6 := sH5.trans s6
        have ht6 := ht5.same s6
        cases hml : meetL (rowsOf AR) (bOf BR) (rnm (bOf BR))[j] o with
        | nil =>
          rw [hml] at htw hsn
          refine ⟨_, rfl, false, .inr (.inl ⟨_, .inl htw, rfl⟩), .refl _, ?_⟩
          refine iteF ?_
          refine ⟨?_, ⟨_, _, rfl⟩, sH6, ht6⟩
          rw [hsn, List.append_nil]
        | cons y ys =>
          rw [hml] at htw hsn
          refine ⟨_, rfl, true, .inr (.inl ⟨_, .inl htw, rfl⟩), .refl _, ?_⟩
          refine iteT ?_
          have hat : prAll (rowsOf AR) (bOf BR) = (prTo (rowsOf AR) (bOf BR) (rnm (bOf BR)) j ++ prOne (rowsOf AR) (bOf BR) (rnm (bOf BR))[j] (((rnm (bOf BR)).drop (j + 1)).take l)) ++ [V.str (rnm (bOf BR))[j], .str o, .str y] :: (prAll (rowsOf AR) (bOf BR)).drop ((prTo (rowsOf AR) (bOf BR) (rnm (bOf BR)) j ++ prOne (rowsOf AR) (bOf BR) (rnm (bOf BR))[j] (((rnm (bOf BR)).drop (j + 1)).take l)).length + 1) := by
            obtain ⟨r1, e1⟩ := prTo_le (R := rowsOf AR) (B := bOf BR) (ns := rnm (bOf BR)) (i := j + 1) (j := (rnm (bOf BR)).length) hlt
            obtain ⟨r2, e2⟩ := prOne_le (R := rowsOf AR) (B := bOf BR) (one := (rnm (bOf BR))[j]) (os := (rnm (bOf BR)).drop (j + 1)) (l + 1)
            have e3 : prAll (rowsOf AR) (bOf BR) = (prTo (rowsOf AR) (bOf BR) (rnm (bOf BR)) j ++ prOne (rowsOf AR) (bOf BR) (rnm (bOf BR))[j] (((rnm (bOf BR)).drop (j + 1)).take l)) ++ [V.str (rnm (bOf BR))[j], .str o, .str y] :: (r2 ++ r1) := by
              unfold prAll
              rw [e1, hsucc, e2, hsn]
              simp [List.append_assoc]
            have e4 : (prAll (rowsOf AR) (bOf BR)).drop ((prTo (rowsOf AR) (bOf BR) (rnm (bOf BR)) j ++ prOne (rowsOf AR) (bOf BR) (rnm (bOf BR))[j] (((rnm (bOf BR)).drop (j + 1)).take l)).length + 1) = r2 ++ r1 := by
              rw [e3, ← List.drop_drop, List.drop_left]
              rfl
            rw [e4]
            exact e3
          refine ⟨.inr [V.str (rnm (bOf BR))[j], .str o, .str y], itat hat (by rw [List.getElem?_append_right (Nat.le_refl _), Nat.sub_self]; rfl), ?_⟩
          refine ⟨_, rfl, _, rfl, _, rfl, tw, _, _, .str y, rfl, rfl, .inl htw, atI_nat (j := 0) rfl, by show 3 ≤ sizeLine; decide, fun z nz => ?_⟩
          refine ⟨same_upd nz, ⟨z, rfl, nz, upd_same⟩, [(t, ((rnm (bOf BR)).drop (j + 1)).map V.str)], fun w hw => ?_, fun H7 s7 k7 => ?_⟩
          · rw [List.mem_singleton.mp hw]
            exact ht6.same (same_upd nz)
          · refine ⟨?_, ⟨_, _, rfl⟩, s7, k7 _ (List.mem_singleton.mpr rfl)⟩
            rw [hsn]
            simp only [List.length_append, List.length_cons, List.length_nil]
            omega
      · have hle : l = ((rnm (bOf BR)).drop (j + 1)).length := Nat.le_antisymm hl hge5
        refine .inl ⟨⟨_, .inl ht5, by rw [List.length_map]; omega⟩, ?_⟩
        refine ⟨?_, ⟨_, _, _, _, rfl⟩, sH5⟩
        rw [hsucc, hle, List.take_length]
    · have hje : j = (rnm (bOf BR)).length := Nat.le_antisymm hj hge
      refine .inl ⟨⟨_, .inl htn, by rw [List.length_map]; omega⟩, ?_⟩
      show (prTo (rowsOf AR) (bOf BR) (rnm (bOf BR)) j).length = _
      rw [hje, ← hal]
      rfl
  · cases r with
    | error e => exact hq
    | ok fl =>
      cases fl with
      | ret u =>
        obtain ⟨cd, hq⟩ := hq
        exact ⟨_, _, _, cd, hq⟩
      | next => exact hq
      | brk => exact hq
      | cont => exact hq
end
end K0
end
section
set_option Elab.async false
set_option linter.all false
set_option maxRecDepth 100000
set_option maxHeartbeats 4000000
namespace K0
open PySem PySem.Spec PyProof.Rows L2 GN
/-! ### rights among what a generator may read, and among what its walker keeps -/
section
variable {H H' : Hp}
theorem rivKd {Cr p : Addr} {AR : List (Addr × Row)} (k : ∀ a o, H a = some o → Kd o → (∀ y, o ≠ .own y) → H' a = some o) (r : RivAt Cr H p AR) : RivAt Cr H' p AR := by
  obtain ⟨dx, tw, tr, db, dc, da, du, o, h1, h2, h3, h4, h5, h6, h7, h8, h9⟩ := r.ex
  have tp : ∀ {c : Addr} {ns : List Str} {g : Str → List Str}, TupsAt H c ns g → TupsAt H' c ns g := fun t => by
    obtain ⟨ta, q1, q2⟩ := t.ex
    refine ⟨ta, k _ _ q1 trivial (fun _ z => by cases z), fun x hx => ?_⟩
    obtain ⟨o, p, e⟩ := q2 x hx
    exact ⟨o, p, k _ _ e trivial (fun _ z => by cases z)⟩
  exact ⟨dx, tw, tr, db, dc, da, du, o, k _ _ h1 trivial (fun _ z => by cases z), k _ _ h2 trivial (fun _ z => by cases z), k _ _ h3 trivial (fun _ z => by cases z),
    fun q hq => k _ _ (h4 q hq) trivial (fun _ z => by cases z), k _ _ h5 trivial (fun _ z => by cases z), tp h6, tp h7, tp h8, h9.to fun _ e => k _ _ e trivial (fun _ z => by cases z)⟩
theorem TxR.kd {t : Addr} {l : List Str} (k : ∀ a o, H a = some o → Kd o → (∀ y, o ≠ .own y) → H' a = some o) (h : TxR H t l) : TxR H' t l := by
  rcases h with e | ⟨o, e⟩
  · exact .inl (k _ _ e trivial (fun _ z => by cases z))
  · exact .inr ⟨o, k _ _ e trivial (fun _ z => by cases z)⟩
theorem TupsR.kd {c : Addr} {ns : List Str} {g : Str → List Str} (k : ∀ a o, H a = some o → Kd o → (∀ y, o ≠ .own y) → H' a = some o) (t : TupsR H c ns g) : TupsR H' c ns g := by
  obtain ⟨ta, q1, q2⟩ := t.ex
  exact ⟨ta, k _ _ q1 trivial (fun _ z => by cases z), fun x hx => (q2 x hx).kd k⟩
theorem rigKd {Cg Cr p q : Addr} {AR : List (Addr × Row)} {BR : List (Addr × RRow)} (k : ∀ a o, H a = some o → Kd o → (∀ y, o ≠ .own y) → H' a = some o) (r : RigOk Cg Cr H p q AR BR) : RigOk Cg Cr H' p q AR BR := by
  obtain ⟨dx, tn, tr, dw, dl, dp, h1, h2, h3, h4, h5, h6, h7⟩ := r.at_.ex
  exact ⟨⟨dx, tn, tr, dw, dl, dp, k _ _ h1 trivial (fun _ z => by cases z), rivKd k h2, h3.kd k, k _ _ h4 trivial (fun _ z => by cases z), fun z hz => k _ _ (h5 z hz) trivial (fun _ z => by cases z), h6.kd k, h7.kd k⟩, r.g, r.b⟩
theorem rigCut {Cg Cr p q : Addr} {AR : List (Addr × Row)} {BR : List (Addr × RRow)} (r : RigOk Cg Cr H p q AR BR) : RigOk Cg Cr (cutG H) p q AR BR := rigKd (fun _ _ e kd n => cutG_of e n kd) r
theorem rigPrn {Cg Cr p q : Addr} {AR : List (Addr × Row)} {BR : List (Addr × RRow)} (r : RigOk Cg Cr H p q AR BR) : RigOk Cg Cr (prn H) p q AR BR := rigKd (fun _ _ e kd n => prn_of e n fun φ z => by rw [z] at kd; exact kd) r
theorem rigGrow {Cg Cr p q : Addr} {AR : List (Addr × Row)} {BR : List (Addr × RRow)} (g : Grow H H') (r : RigOk Cg Cr H p q AR BR) : RigOk Cg Cr H' p q AR BR := rigKd (fun _ _ e kd n => g.keep _ _ e fun xs z => by rw [z] at kd; exact kd) r
end
end K0
end
section
set_option Elab.async false
set_option linter.all false
set_option maxRecDepth 100000
namespace K0
open PySem PySem.Spec PyProof.Rows L2
/-! ### rights as data; the dict of ways -/
theorem ref_not_str {H : Hp} {G b : Addr} {as : List Addr} {h : List Str} {m : Nat} {c : Addr} (hm : as[m]? = some c) (x1 : H G = some (.lst (as.map V.ref))) (e3 : H b = some (.lst (h.map V.str))) : b ≠ G := fun z => by
  rw [z, x1] at e3
  have e4 : as.map V.ref = h.map V.str := by
    injection e3 with q
    injection q
  have e5 := congrArg (fun l : List V => l[m]?) e4
  simp only [List.getElem?_map, hm] at e5
  cases e6 : h[m]? with
  | none =>
    rw [e6] at e5
    cases e5
  | some z =>
    rw [e6] at e5
    cases e5
section
variable {K : PySem.W.Frag}
def rrD (r : RRow) : PyData := .tuple [.str r.1, .str r.2.1, .str r.2.2]
theorem eqv_rr : ∀ a : List RRow, PyData.eqvAll (a.map rrD) (a.map rrD) = true
  | [] => by simp only [List.map_nil, PyData.eqvAll]
  | r :: a => by simp only [List.map_cons, PyData.eqvAll, rrD, PyData.eqv, beq_self_eq_true, eqv_rr a, Bool.and_self]
theorem canLay_rr : ∀ {a : List RRow}, (∀ r ∈ a, Plain r.1 ∧ Plain r.2.1 ∧ Plain r.2.2) → PyData.canLayAll0 (a.map rrD) = true
  | [], _ => by simp only [List.map_nil, PyData.canLayAll0]
  | r :: a, h => by
    have ih := canLay_rr fun z hz => h z (List.mem_cons_of_mem _ hz)
    obtain ⟨h1, h2, h3⟩ := h r List.mem_cons_self
    simp only [List.map_cons, PyData.canLayAll0, ih, rrD, PyData.canLay0, plain_ok h1, plain_ok h2, plain_ok h3]
    rfl
theorem depth_rr : ∀ a : List RRow, PyData.depthAll (a.map rrD) ≤ 1
  | [] => by simp only [List.map_nil, PyData.depthAll]; omega
  | r :: a => by
    have ih := depth_rr a
    simp only [List.map_cons, PyData.depthAll, rrD, PyData.depth]
    omega
theorem dp_rr {H : Hp} : ∀ {BR : List (Addr × RRow)}, (∀ q ∈ BR, H q.1 = some (.tup [.str q.2.1, .str q.2.2.1, .str q.2.2.2])) → DpAll K H (BR.map fun q => V.ref q.1) ((bOf BR).map rrD)
  | [], _ => .nil
  | (a, r) :: BR, h => .cons (.tup (.inl (.inl (h (a, r) List.mem_cons_self))) (.cons (.str r.1) (.cons (.str r.2.1) (.cons (.str r.2.2) .nil)))) (dp_rr fun q hq => h q (List.mem_cons_of_mem _ hq))
theorem shaped_rr {B : List RRow} (h : ∀ r ∈ B, Plain r.1 ∧ Plain r.2.1 ∧ Plain r.2.2) : SeqAt.shaped (.list (B.map rrD)) = true := by
  have h2 := depth_rr B
  have h3 : PyData.depthAll (B.map rrD) + 1 ≤ 64 := by omega
  unfold SeqAt.shaped
  simp only [PyData.canLay0, PyData.depth, canLay_rr h, h3]
  rfl
theorem rr_plain {R : List Row} {B : List RRow} (g : GoodRows R) (b : RtOk R B) : ∀ r ∈ B, Plain r.1 ∧ Plain r.2.1 ∧ Plain r.2.2 := fun r hr => by
  refine ⟨name_plain (b.ok r hr), plain_name g (b.inn r hr), ?_⟩
  rcases b.last r hr with e | e
  · rw [e]
    exact sea_plain
  · exact plain_name g (course_sub g (b.inn r hr) _ e)
theorem merge_kmap {f : Str → V} : ∀ {ms ns : List Str}, (ns ++ ms).Nodup → mergeK (kmap f ns) (kmap f ms) = kmap f (ns ++ ms)
  | [], ns, _ => by
    show kmap f ns = kmap f (ns ++ [])
    rw [List.append_nil]
  | m :: ms, ns, hd => by
    have hn : m ∉ ns := fun z => (List.nodup_append.mp hd).2.2 m z m List.mem_cons_self rfl
    have hd2 : ((ns ++ [m]) ++ ms).Nodup := by
      rw [List.append_assoc]
      exact hd
    have ih := merge_kmap (f := f) hd2
    have e1 := kmap_put (f := f) hn
    show mergeK (putK (kmap f ns) (Sum.inr m) (f m)) (kmap f ms) = _
    rw [e1, ih, List.append_assoc]
    rfl
/-- pairs of a name and a list, laid so far -/
structure PairW (H : Hp) (D : Addr) (ns : List Str) (g : Str → List Str) : Prop where
  ex : ∃ AP : List (Addr × Addr), H D = some (.lst (AP.map fun q => V.ref q.1)) ∧ AP.length = ns.length ∧ ∀ (k : Nat) (q : Addr × Addr) (n : Str), AP[k]? = some q → ns[k]? = some n → H q.1 = some (.tup [.str n, .ref q.2]) ∧ H q.2 = some (.lst ((g n).map V.str))
theorem pair_all {H : Hp} {f : Str → V} : ∀ {AP : List (Addr × Addr)} {ns : List Str}, AP.length = ns.length → (∀ (k : Nat) (q : Addr × Addr) (n : Str), AP[k]? = some q → ns[k]? = some n → H q.1 = some (.tup [.str n, f n])) → Paired (fun p (kv : Key × V) => SqT K H p [kV kv.1, kv.2]) (AP.map (·.1)) (kmap f ns)
  | [], [], _, _ => .nil
  | [], _ :: _, e, _ => by cases e
  | _ :: _, [], e, _ => by cases e
  | q :: AP, n :: ns, e, h => .cons (.inl (.inl (h 0 q n rfl rfl))) (pair_all (Nat.succ.inj e) fun k q n h1 h2 => h (k + 1) q n h1 h2)
theorem PairW.dict {H : Hp} {D : Addr} {ns : List Str} {g : Str → List Str} (h : PairW H D ns g) (hd : ns.Nodup) :
    ∃ (ps : List Addr) (ta : Str → Addr), H D = some (.lst (ps.map V.ref)) ∧ Paired (fun p (kv : Key × V) => SqT K H p [kV kv.1, kv.2]) ps (kmap (fun y => .ref (ta y)) ns) ∧ ∀ y ∈ ns, H (ta y) = some (.lst ((g y).map V.str)) := by
  obtain ⟨AP, h1, h2, h3⟩ := h.ex
  have hta : ∀ (k : Nat) (q : Addr × Addr) (n : Str), AP[k]? = some q → ns[k]? = some n → ((AP[ns.idxOf n]?).map (·.2)).getD 0 = q.2 := fun k q n e1 e2 => by
    have hk := (List.getElem?_eq_some_iff.mp e2)
    obtain ⟨hk, e3⟩ := hk
    have e4 : ns.idxOf n = k := by
      rw [← e3]
      exact hd.idxOf_getElem k hk
    rw [e4, e1]
    rfl
  refine ⟨AP.map (·.1), fun n => ((AP[ns.idxOf n]?).map (·.2)).getD 0, by rw [List.map_map]; exact h1, pair_all h2 fun k q n e1 e2 => ?_, fun y hy => ?_⟩
  · have := (h3 k q n e1 e2).1
    rw [this]
    simp only [hta k q n e1 e2]
  · obtain ⟨k, hk⟩ := List.getElem?_of_mem hy
    have hkl := (List.getElem?_eq_some_iff.mp hk).1
    have e1 : AP[k]? = some AP[k] := List.getElem?_eq_getElem (by omega)
    simp only [hta k _ y e1 hk]
    exact (h3 k _ y e1 hk).2
theorem PairW.more {H H' : Hp} {C t c : Addr} {ns : List Str} {g : Str → List Str} {n : Str} (h : PairW H C ns g) (s : Same H H') (hc0 : H c = none) (hc : H' c = some (.lst ((g n).map V.str))) (nt : H' t = none) :
    ∃ acc, (upd H' t (.tup [.str n, .ref c])) C = some (.lst acc) ∧ acc.length = ns.length ∧ PairW (upd (upd H' t (.tup [.str n, .ref c])) C (.lst (acc ++ [.ref t]))) C (ns ++ [n]) g := by
  obtain ⟨AP, h1, h2, h3⟩ := h.ex
  have hC := s _ _ h1
  have nCt : C ≠ t := ne_of_none hC nt
  have ncC : c ≠ C := fun e => by
    rw [e, h1] at hc0
    cases hc0
  have nct : c ≠ t := ne_of_none hc nt
  refine ⟨_, by rw [upd_ne nCt]; exact hC, by rw [List.length_map]; exact h2, AP ++ [(t, c)], by rw [upd_same, List.map_append]; rfl, by rw [List.length_append, List.length_append, h2]; rfl, fun k q m e1 e2 => ?_⟩
  rcases Nat.lt_or_ge k AP.length with hl | hl
  · rw [List.getElem?_append_left hl] at e1
    rw [List.getElem?_append_left (by omega)] at e2
    obtain ⟨h4, h5⟩ := h3 k q m e1 e2
    have h6 := s _ _ h4
    have h7 := s _ _ h5
    refine ⟨?_, ?_⟩
    · rw [upd_ne (ne_of h6 hC (fun z => by cases z)), upd_ne (ne_of_none h6 nt)]
      exact h6
    · have hm : (AP.map (·.1))[k]? = some q.1 := by rw [List.getElem?_map, e1]; rfl
      have hC2 : H' C = some (.lst ((AP.map (·.1)).map V.ref)) := by
        rw [List.map_map]
        exact hC
      rw [upd_ne (ref_not_str hm hC2 h7), upd_ne (ne_of_none h7 nt)]
      exact h7
  · rw [List.getElem?_append_right hl] at e1
    rw [List.getElem?_append_right (by omega)] at e2
    have e3 : k - AP.length = 0 := by
      have := (List.getElem?_eq_some_iff.mp e1).1
      rw [List.length_singleton] at this
      omega
    have e4 : k - ns.length = 0 := by omega
    rw [e3] at e1
    rw [e4] at e2
    obtain rfl : (t, c) = q := Option.some.inj e1
    obtain rfl : n = m := Option.some.inj e2
    refine ⟨?_, ?_⟩
    · show (upd (upd H' t (.tup [.str n, .ref c])) C _) t = _
      rw [upd_ne nCt.symm, upd_same]
    · show (upd (upd H' t (.tup [.str n, .ref c])) C _) c = _
      rw [upd_ne ncC, upd_ne nct]
      exact hc
end
end K0
end
section
set_option Elab.async false
set_option linter.all false
set_option maxRecDepth 100000
set_option maxHeartbeats 8000000
namespace K0
open PySem PySem.Spec PyProof.Rows L2 GN
/-! ### pairs are right -/
theorem eqv_nilL (l : List Str) : PyData.eqv (.list (l.map PyData.str)) (.list []) = decide (l = []) := by
  cases l with
  | nil => simp only [PyData.eqv, List.map_nil, PyData.eqvAll]; rfl
  | cons a r => simp only [PyData.eqv, List.map_cons, PyData.eqvAll]; rfl
def trV (r : RRow) : List V := [V.str r.1, .str r.2.1, .str r.2.2]
def prOneR (R : List Row) (B : List RRow) (one : Str) (os : List Str) : List RRow := os.filterMap fun o => match meetL R B one o with
  | [] => none
  | w :: _ => some (one, o, w)
def prToR (R : List Row) (B : List RRow) (ns : List Str) (i : Nat) : List RRow := (List.range i).flatMap fun j => prOneR R B (ns.getD j "") (ns.drop (j + 1))
theorem prOne_map (R : List Row) (B : List RRow) (one : Str) (os : List Str) : prOne R B one os = (prOneR R B one os).map trV := by
  unfold prOne prOneR
  rw [List.map_filterMap]
  congr 1
  funext o
  cases meetL R B one o <;> rfl
theorem prTo_map (R : List Row) (B : List RRow) (ns : List Str) (i : Nat) : prTo R B ns i = (prToR R B ns i).map trV := by
  unfold prTo prToR
  rw [List.map_flatMap]
  congr 1
  funext j
  exact prOne_map R B _ _
theorem prToR_succ {R : List Row} {B : List RRow} {ns : List Str} {i : Nat} {one : Str} (h : ns[i]? = some one) : prToR R B ns (i + 1) = prToR R B ns i ++ prOneR R B one (ns.drop (i + 1)) := by
  unfold prToR
  rw [List.range_succ, List.flatMap_append, List.flatMap_singleton, List.getD_eq_getElem?_getD, h]
  rfl
theorem prOneR_app (R : List Row) (B : List RRow) (one o : Str) (os : List Str) : prOneR R B one (os ++ [o]) = prOneR R B one os ++ (match meetL R B one o with
  | [] => []
  | w :: _ => [(one, o, w)]) := by
  unfold prOneR
  rw [List.filterMap_append]
  congr 1
  show (List.filterMap _ [o]) = _
  rw [List.filterMap_cons]
  cases meetL R B one o <;> rfl
theorem take_drop_in {ns : List Str} {i j : Nat} {o : Str} (h : ns[j]? = some o) : (ns.take (j + 1)).drop (i + 1) = (ns.take j).drop (i + 1) ++ (if i < j then [o] else []) := by
  have hj := (List.getElem?_eq_some_iff.mp h).1
  rw [List.take_add_one, h]
  by_cases q : i < j
  · rw [if_pos q, List.drop_append_of_le_length (by rw [List.length_take]; omega)]
    rfl
  · rw [if_neg q, List.append_nil, List.drop_of_length_le, List.drop_of_length_le]
    · rw [List.length_take]; omega
    · rw [List.length_append, List.length_take]; show min j ns.length + 1 ≤ i + 1; omega
theorem pr_len {R : List Row} {B : List RRow} {ns : List Str} (i : Nat) (one : Str) (os : List Str) (hi : i ≤ 40) (hn : ns.length ≤ 40) (ho : os.length ≤ 40) : (prToR R B ns i ++ prOneR R B one os).length ≤ 1640 := by
  have h1 : (prToR R B ns i).length = (prTo R B ns i).length := by rw [prTo_map, List.length_map]
  have h2 := prTo_len (R := R) (B := B) (ns := ns) i
  have h3 : (prOneR R B one os).length ≤ os.length := List.length_filterMap_le _ _
  have h4 : i * ns.length ≤ 40 * 40 := Nat.mul_le_mul hi hn
  rw [List.length_append]
  omega
theorem BRows.more {H H4 : Hp} {U t : Addr} {DU : List (Addr × RRow)} {r : RRow} (h : BRows H U DU) (s : Same H H4) (nt : H4 t = none) : (upd H4 t (.tup [.str r.1, .str r.2.1, .str r.2.2])) U = some (.lst (DU.map fun q => V.ref q.1)) ∧ BRows (upd (upd H4 t (.tup [.str r.1, .str r.2.1, .str r.2.2])) U (.lst ((DU.map fun q => V.ref q.1) ++ [.ref t]))) U (DU ++ [(t, r)]) := by
  have hU := s _ _ h.lst
  have hUt : U ≠ t := ne_of_none hU nt
  refine ⟨by rw [upd_ne hUt]; exact hU, by rw [upd_same, List.map_append]; rfl, fun q hq => ?_⟩
  rcases List.mem_append.mp hq with e | e
  · have h4 := s _ _ (h.tup q e)
    rw [upd_ne (ne_of h4 hU (fun z => by cases z)), upd_ne (ne_of_none h4 nt)]
    exact h4
  · rw [List.mem_singleton.mp e, upd_ne hUt.symm, upd_same]
/-- all that was tracked stands, but for own dicts and other things -/
def Keep (H H' : Hp) : Prop := ∀ b o, H b = some o → (∀ y, o ≠ .own y) → (∀ φ, o = .ext φ → FieldX b φ) → H' b = some o
theorem Keep.of {H H' : Hp} (s : Same H H') : Keep H H' := fun b o e _ _ => s b o e
theorem Keep.trans {H H1 H2 : Hp} (a : Keep H H1) (b : Keep H1 H2) : Keep H H2 := fun c o e n m => b c o (a c o e n m) n m
theorem Keep.prn {H : Hp} : Keep H (prn H) := fun b o e n m => by
  by_cases z : ∃ φ, o = .ext φ
  · obtain ⟨φ, rfl⟩ := z
    exact prn_ext e (m φ rfl)
  · exact prn_of e n fun φ q => z ⟨φ, q⟩
theorem rigKeep {H H' : Hp} {Cg Cr p q : Addr} {AR : List (Addr × Row)} {BR : List (Addr × RRow)} (k : Keep H H') (r : RigOk Cg Cr H p q AR BR) : RigOk Cg Cr H' p q AR BR := rigKd (fun _ _ e kd n => k _ _ e n fun φ z => by rw [z] at kd; exact kd.elim) r
theorem PairW.keep {H H' : Hp} {d : Addr} {ns : List Str} {g : Str → List Str} (k : Keep H H') (h : PairW H d ns g) : PairW H' d ns g := by
  obtain ⟨AP, h1, h2, h3⟩ := h.ex
  exact ⟨AP, k _ _ h1 (fun _ z => by cases z) (fun _ z => by cases z), h2, fun i q n e1 e2 => ⟨k _ _ (h3 i q n e1 e2).1 (fun _ z => by cases z) (fun _ z => by cases z), k _ _ (h3 i q n e1 e2).2 (fun _ z => by cases z) (fun _ z => by cases z)⟩⟩
theorem BRows.keep {H H' : Hp} {l : Addr} {BR : List (Addr × RRow)} (k : Keep H H') (r : BRows H l BR) : BRows H' l BR := ⟨k _ _ r.lst (fun _ z => by cases z) (fun _ z => by cases z), fun q hq => k _ _ (r.tup q hq) (fun _ z => by cases z) (fun _ z => by cases z)⟩
theorem prToR_mem {R : List Row} {B : List RRow} {ns : List Str} : ∀ {i : Nat} {r : RRow}, i ≤ ns.length → r ∈ prToR R B ns i → r.1 ∈ ns ∧ r.2.1 ∈ ns ∧ r.2.2 ∈ meetL R B r.1 r.2.1 := fun {i r} hi h => by
  unfold prToR at h
  obtain ⟨j, hj, hr⟩ := List.mem_flatMap.mp h
  have hj := List.mem_range.mp hj
  unfold prOneR at hr
  obtain ⟨o, ho, e⟩ := List.mem_filterMap.mp hr
  have hlt : j < ns.length := by omega
  have hg : ns.getD j "" = ns[j] := by rw [List.getD_eq_getElem?_getD, List.getElem?_eq_getElem hlt]; rfl
  rw [hg] at e
  cases hm : meetL R B ns[j] o with
  | nil => rw [hm] at e; cases e
  | cons w ws =>
    rw [hm] at e
    cases e
    exact ⟨List.getElem_mem hlt, List.mem_of_mem_drop ho, by show w ∈ meetL R B ns[j] o; rw [hm]; exact List.mem_cons_self⟩
theorem items_rows {H : Hp} : ∀ {l : List RRow} {xs : List V}, ItemsAt (l.map fun r => (Sum.inr (trV r) : V ⊕ List V)) xs H → ∃ LO : List (Addr × RRow), xs = LO.map (fun q => V.ref q.1) ∧ bOf LO = l ∧ ∀ q ∈ LO, H q.1 = some (.tup [.str q.2.1, .str q.2.2.1, .str q.2.2.2])
  | [], xs, h => by
    obtain ⟨h1, _⟩ := h
    cases xs with
    | nil => exact ⟨[], rfl, rfl, fun q hq => by cases hq⟩
    | cons x xs => cases h1
  | r :: l, xs, h => by
    obtain ⟨h1, h2⟩ := h
    cases xs with
    | nil => cases h1
    | cons x xs =>
      obtain ⟨t, rfl, ht⟩ := h2 0 _ x rfl rfl
      obtain ⟨LO, e1, e2, e3⟩ := items_rows (l := l) (xs := xs) ⟨Nat.succ.inj h1, fun i it y a b => h2 (i + 1) it y a b⟩
      refine ⟨(t, r) :: LO, by rw [e1]; rfl, by show r :: bOf LO = r :: l; rw [e2], fun q hq => ?_⟩
      rcases List.mem_cons.mp hq with e | hq
      · rw [e]; exact ht
      · exact e3 q hq
theorem name_pl {R : List Row} {B : List RRow} (b : RtOk R B) {n : Str} (hn : n ∈ rnm B) : Plain n := by
  obtain ⟨r, hr, rfl⟩ := List.mem_map.mp hn
  exact name_plain (b.ok r hr)
end K0
end
section
set_option Elab.async false
set_option linter.all false
set_option maxRecDepth 100000
set_option maxHeartbeats 4000000
namespace L2
open PySem PySem.Spec PyProof.Rows
/-! ### dicts whose keys are tuples of texts and whole numbers: by a comprehension, by dict(..) -/
theorem dt_put {X : Cx} {pins : List (Addr × Obj)} {σ : St} {H : Hp} {s : Shared} {E : Value → Shared → Prop} {L b : Addr} {kvs : List (List Key × V)} {k : List Key} {v : V} {r : Value} {Q : Unit → Shared → Prop} (hu : X.A.units < cLine) (I : Inv X pins σ H s) (hL : H L = some (.dT kvs)) (hz : kvs.length < sizeLine)
    (hb : H b = some (.tup (k.map kV))) (rv : RelV v r) (h : ∀ s', Inv X pins σ (upd H L (.dT (putK kvs k v))) s' → Q () s') : wpAny (model X.prog X.w) X.A (dictSet L (.ref b) r) Q E s := by
  obtain ⟨z, hne, xs, rel, dd⟩ := dt_of I.hok hL
  have zx : xs.length ≤ sizeLine := by rw [← Paired.length rel]; exact z
  have zk : (putK kvs k v).length ≤ sizeLine := by have := length_putK kvs k v; omega
  refine wpAny_dictSet_heap (hsz := zx) (knd := tupleKind (mixKind X.prog X.w)) hu (key_of I.hok hb) dd fun h' d2 same => h _ ?_
  obtain ⟨q, es, ep, hq, a2, a3, a4, _, a5⟩ := d2
  refine d_write I (by rw [hL]; exact True.intro) same ⟨q, hq⟩ ⟨zk, hne, _, (rel.put k hb rv).keeps fun c ys ec => ?_, q, es, ep, hq, a2, a3, a4, a5⟩
  rw [upd_ne (ne_of ec hL (fun z => nomatch z))]
  exact ec
section
variable {X : Cx}
/-- {k: v for target in iter}, keys tuples -/
def tDcT (wi : TI) (g : TG) (tk tv : TE) (vs : List Nat) : TE := fun σ H Q => wi σ H fun J H1 => ∀ L, H1 L = none → ∃ W : Nat → Nat → Hp → Prop, (∃ m, W 0 m (upd H1 L (.dT []))) ∧ ∀ i m H, W i m H →
  (J.stop i H ∧ Q (.ref L) H) ∨ (J.go i H ∧ ∃ Nx : Hp → Prop, (∀ H', Nx H' → ∃ m', m' < m ∧ W (i + 1) m' H') ∧ ∀ x H', J.yld i H x H' → g x (wipe σ vs) H' fun σ2 H2 => wipe σ2 vs = wipe σ vs ∧
    tk σ2 H2 fun y H4 => tv σ2 H4 fun z H5 => ∃ kvs k b, y = .ref b ∧ H5 b = some (.tup (k.map kV)) ∧ H5 L = some (.dT kvs) ∧ kvs.length < sizeLine ∧ Nx (upd H5 L (.dT (putK kvs k z))))
theorem dcT_core {pins : List (Addr × Obj)} {s : Shared} {σ : St} {H : Hp} {Q : VK} {kx vx target iter : Expr} {scope : Scope} {own : List (Str × Nat)} {pos pos' : Pos} {wi : TI} {g : TG} {tk tv : TE} {use : Option (Value → Sem Unit)} {Qf : Value → Shared → Prop}
    (hu : X.A.units < cLine) (calm : X.calm = true) (nd : X.N.Nodup) (I : Inv X pins σ H s) (hi : PI X target iter wi) (ok : BlkOk X.N X.env.scope scope own)
    (hg : ∀ (s : Shared) (H : Hp) (C : Addr) (cl : List (Str × Addr)) (fp : List Addr), PG (X.blk s H scope (compEnvC scope cl C X.env) fp) target g)
    (hk : ∀ (s : Shared) (H : Hp) (C : Addr) (cl : List (Str × Addr)) (fp : List Addr), PE (X.blk s H scope (compEnvC scope cl C X.env) fp) kx tk)
    (hv : ∀ (s : Shared) (H : Hp) (C : Addr) (cl : List (Str × Addr)) (fp : List Addr), PE (X.blk s H scope (compEnvC scope cl C X.env) fp) vx tv) (fold : ∀ x, foldedSetIterable iter X.env x = pure x)
    (h : tDcT wi g tk tv (own.map (·.2)) σ H Q)
    (back : ∀ L C s' m H', Inv X pins σ H' s' → Q (.ref L) H' → s'.heap.Ns C m → FpOk X pins H' C → compPost (model X.prog X.w) X.A X.xe use Qf (.ref L) C (.ok .next) s') :
    wpAny (model X.prog X.w) X.A (comprehension (.DictComp kx vx [⟨target, iter, [], 0⟩] scope pos) scope X.env pos' newDict false (eval iter X.env) use) Qf X.xe s := by
  have cap : ∀ y ∈ scope.names, y.2 = .free → ∃ c, X.env.cells.lookup y.1 = some c := fun y hy e => (ok.free y hy e).elim (fun z => I.ok.has _ (.inl z)) fun z => I.ok.has _ (.inr z)
  refine wpAny_comprehension_free (use := use) rfl fold (closure_ok cap) ok.kind (fun y hy e => by rw [ok.uniq y hy, e]) (thn (hi.run pins s σ H _ I h) fun xv s1 hx => thn hx fun itv s2 h2 => ?_)
  obtain ⟨it, fp, tn, J, Ha, e, I2, T, st2, f2, q⟩ := h2
  subst e
  refine wpAny_newObj_type (newEnv_comp ?_)
  generalize eL : s2.heap.objs.size = L
  have nL : Ha L = none := I2.hok.fresh (Nat.le_of_eq eL)
  obtain ⟨W, ⟨m0, w0⟩, turn⟩ := q L nL
  generalize e3 : ({ s2 with heap := s2.heap.push { cls := .type "dict", data := .dict #[] } } : Shared) = s3
  have h3 : s3.heap = s2.heap.push { cls := .type "dict", data := .dict #[] } := by rw [← e3]
  have I3 : Inv X pins σ (upd Ha L (.dT [])) s3 := by
    rw [← e3]
    refine I2.laid (t' := s2.toks) (fun b o z => Heap.get?_push_of_some _ z) (Nat.le_of_eq eL) ?_
    rw [← eL]
    exact dt_empty s2.heap I2.big
  have low : ∀ b ∈ fp, b < s2.heap.objs.size := fun b hb => (T.obj _ _ st2 b hb).elim fun o z => Heap.lt_size z.1
  have f3 : ∀ b ∈ fp, FpOk X pins (upd Ha L (.dT [])) b ∧ b < s3.heap.objs.size := fun b hb => by
    refine ⟨⟨?_, (f2 b hb).2⟩, by rw [h3, Heap.size_push]; exact Nat.lt_succ_of_lt (low b hb)⟩
    rw [upd_ne (by rw [← eL]; exact Nat.ne_of_lt (low b hb))]
    exact (f2 b hb).1
  have st3 : tn 0 s3.heap := T.keep _ _ _ st2 fun b _ o z => by rw [h3]; exact Heap.get?_push_of_some _ z
  have I4 := block_start I3 ok nd f3
  have pg := hg s3 (upd Ha L (.dT [])) s3.heap.objs.size (cellsFrom (s3.heap.objs.size + 1) scope.names (cloFrom X.env.cells scope.names [])) fp
  have pk := hk s3 (upd Ha L (.dT [])) s3.heap.objs.size (cellsFrom (s3.heap.objs.size + 1) scope.names (cloFrom X.env.cells scope.names [])) fp
  have pv := hv s3 (upd Ha L (.dT [])) s3.heap.objs.size (cellsFrom (s3.heap.objs.size + 1) scope.names (cloFrom X.env.cells scope.names [])) fp
  show codeAny _ _ (.compStart (.DictComp kx vx [⟨target, iter, [], 0⟩] scope pos) 0 (.ref it) (.ref L) (compEnvC scope (cellsFrom (s3.heap.objs.size + 1) scope.names (cloFrom X.env.cells scope.names [])) s3.heap.objs.size X.env)) (compPost (model X.prog X.w) X.A X.xe use Qf (.ref L) s3.heap.objs.size) { s3 with heap := pushCells (s3.heap.push { cls := .type "dict", data := .dict #[] }) scope.names }
  have n0 : ∀ b ∈ fp, (upd Ha L (.dT [])) b = none := fun b hb => (f3 b hb).1.1
  generalize ece : compEnvC scope (cellsFrom (s3.heap.objs.size + 1) scope.names (cloFrom X.env.cells scope.names [])) s3.heap.objs.size X.env = ce at I4 pg pk pv ⊢
  have lce : ce.locals = s3.heap.objs.size := by subst ece; rfl
  generalize eH : upd Ha L (.dT []) = Hb at I3 I4 pg pk pv w0 n0 f3
  generalize e4 : ({ s3 with heap := pushCells (s3.heap.push { cls := .type "dict", data := .dict #[] }) scope.names } : Shared) = s4 at I4 ⊢
  have st4 : tn 0 s4.heap := T.keep _ _ _ st3 fun b _ o z => by rw [← e4]; exact pushCells_keeps _ _ _ _ (Heap.get?_push_of_some _ z)
  have stays : ∀ {σ' : St} {H' : Hp} {s' : Shared}, Inv (X.blk s3 Hb scope ce fp) [] σ' H' s' → (∀ b ∈ fp, H' b = none) → ∀ b ∈ fp, FpOk (X.blk s3 Hb scope ce fp) [] H' b := fun {σ' H' s'} J n b hb =>
    ⟨n b hb, (J.ok.exf b hb).1, J.ok.exfs b hb, .inl hb, fun x c z => (J.ok.exf b hb).2 x c z, fun p hp => by cases (show p ∈ ([] : List (Addr × Obj)) from hp)⟩
  have loop : codeAny (model X.prog X.w) X.A (.compLoop (.DictComp kx vx [⟨target, iter, [], 0⟩] scope pos) 0 (.ref it) (.ref L) ce) (compPost (model X.prog X.w) X.A X.xe use Qf (.ref L) s3.heap.objs.size) s4 := by
    refine compLoop_anyD (fun n s' => ∃ i H', Inv (X.blk s3 Hb scope ce fp) [] (wipe σ (own.map (·.2))) H' s' ∧ tn i s'.heap ∧ (∀ b ∈ fp, H' b = none) ∧ W i n H') ?_ m0 ⟨0, Hb, I4, st4, n0, w0⟩
    rintro n s5 ⟨i, H5, I5, st5, n5, w5⟩
    rcases turn i n H5 w5 with ⟨stop, end_⟩ | ⟨go, Nx, more, step⟩
    · refine thnF (T.done (X.blk s3 Hb scope ce fp) rfl rfl rfl calm i [] s5 _ H5 (fun _ _ => False) I5 (stays I5 n5) st5 stop) fun r s6 ⟨er, I6⟩ => ?_
      subst er
      have I7 : Inv X pins σ H5 s6 := I3.call' (ch := fp) I6.os I6.base I6.hok I6.bare fun b hb => ⟨(f3 b hb).1.2.2.2.1, (f3 b hb).1.2.1, (f3 b hb).1.2.2.2.2.1, (f3 b hb).1.2.2.2.2.2⟩
      have nC : H5 s3.heap.objs.size = none := by
        have z : H5 ce.locals = none := I6.free
        rwa [lce] at z
      obtain ⟨m, ns, _⟩ := I6.loc
      have ns : s6.heap.Ns ce.locals m := ns
      rw [lce] at ns
      exact back L s3.heap.objs.size s6 m H5 I7 end_ ns (I3.fpOk (Nat.le_refl _) nC)
    · refine thnF (T.item (X.blk s3 Hb scope ce fp) rfl rfl rfl calm i [] s5 _ H5 (fun _ _ => False) I5 (stays I5 n5) st5 go) fun r s6 ⟨u, er, h6⟩ => ?_
      subst er
      refine thnF h6 fun _ s7 ⟨x, H7, I7, r7, y7, st7, n7⟩ => ?_
      refine thnF (pg.run _ s7 _ H7 x u _ (I7.pinned (stays I7 n7) (T.obj _ _ st7)) r7 (step x H7 y7)) fun _ s8 ⟨σ8, H8, I8, w8, q8⟩ => ?_
      refine wpAny_tests_nil ?_
      rw [if_pos rfl]
      refine thnF (pk.run _ s8 σ8 H8 _ I8 q8) fun ku s9 ⟨yk, H9, I9, r9, q9⟩ => ?_
      refine thnF (pv.run _ s9 σ8 H9 _ I9 q9) fun vu s10 ⟨yv, Hc, Ic, rc, kvs, k, b, ek, hb, hL, hz, nx⟩ => ?_
      subst ek
      obtain rfl : ku = Value.ref b := r9
      refine dt_put (X := X.blk s3 Hb scope ce fp) hu Ic hL hz hb rc fun s11 J => ?_
      obtain ⟨m', lt, w'⟩ := more _ nx
      have still : ∀ b ∈ fp, ∀ o, s7.heap.get? b = some o → s11.heap.get? b = some o ∧ (upd Hc L (.dT (putK kvs k yv))) b = none := fun b hb o z =>
        let p := J.pin (b, o) (List.mem_append_right _ (List.mem_append_right _ (mem_pinsAt hb z)))
        ⟨p.1, p.2.1⟩
      refine ⟨m', lt, i + 1, _, (J.unpinned (pins := [])).weak (by rw [← w8, wipe_length]) (fun j v z => ?_), T.keep _ _ _ st7 fun b hb o z => (still b hb o z).1, fun b hb => ?_, w'⟩
      · rw [← w8] at z
        exact (wipe_some z).1
      · obtain ⟨o, z, _⟩ := T.obj _ _ st7 b hb
        exact (still b hb o z).2
  exact codeAny_compStart_dict loop (T.self X.A 0 _ _ _ st4 loop)
/-- name = {..} on one line -/
theorem k0_setDcT {i : Nat} {y : Str} {py : Pos} {kx vx target iter : Expr} {scope : Scope} {own : List (Str × Nat)} {pos spos : Pos} {wi : TI} {g : TG} {tk tv : TE} (hu : X.A.units < cLine) (calm : X.calm = true) (nd : X.N.Nodup) (hy : X.N[i]? = some y) (hyl : X.env.scope.names.lookup y = some .local)
    (hsw : swapsWith (.DictComp kx vx [⟨target, iter, [], 0⟩] scope pos) (some (.Name y py)) spos.line X.env = pure true) (hi : PI X target iter wi) (ok : BlkOk X.N X.env.scope scope own)
    (hg : ∀ (s : Shared) (H : Hp) (C : Addr) (cl : List (Str × Addr)) (fp : List Addr), PG (X.blk s H scope (compEnvC scope cl C X.env) fp) target g)
    (hk : ∀ (s : Shared) (H : Hp) (C : Addr) (cl : List (Str × Addr)) (fp : List Addr), PE (X.blk s H scope (compEnvC scope cl C X.env) fp) kx tk)
    (hv : ∀ (s : Shared) (H : Hp) (C : Addr) (cl : List (Str × Addr)) (fp : List Addr), PE (X.blk s H scope (compEnvC scope cl C X.env) fp) vx tv) (fold : ∀ x, foldedSetIterable iter X.env x = pure x := by intro _; rfl) :
    PS X (.Assign [.Name y py] (.DictComp kx vx [⟨target, iter, [], 0⟩] scope pos) spos) (tAsg (tDcT wi g tk tv (own.map (·.2))) (gName i)) := by
  refine ⟨fun pins s σ H D I h => ?_⟩
  rw [exec_Assign_Name_used _ _ _ _ hsw]
  refine wpAny_bind (wpAny_standAt (wpAny_bind ?_))
  show wpAny _ X.A (do let _ ← comprehension (.DictComp kx vx [⟨target, iter, [], 0⟩] scope pos) scope X.env (firstIterPos [⟨target, iter, [], 0⟩] pos) newDict false (eval iter X.env) (some (assign (.Name y py) X.env))) _ _ s
  have h : tDcT wi g tk tv (own.map (·.2)) σ H (fun x H1 => gName i x σ H1 D.nx) := h
  refine wpAny_bind (thn (dcT_core (Qf := fun _ s' => SP X pins D .next s') hu calm nd I hi ok hg hk hv fold h fun L C s' m H' I' q hn f => ?_) fun _ s' hq => wpAny_pure (wpAny_pure hq))
  show wpAny _ _ (assign (.Name y py) X.env (.ref L)) _ _ _
  refine wpAny_assign_Name (store_ok2 (v := V.ref L) I' nd hy (.inl hyl) rfl (fun s2 I2 ⟨a, sb, ha⟩ => ?_) (.inr hyl))
  obtain ⟨f0, f1, f2, f3, f4, f5⟩ := f
  have haC : C ≠ a := ha.elim (fun z => by rw [z]; exact f1) fun z e => f4 y a z e.symm
  exact ⟨m, hn.sameBut sb haC, fun h3 sb3 => ⟨_, H', I2.turned (t' := s2.toks) (fun b o hb e => (sb3.2 b hb).trans e) f0 f1 f3 f4 f5, q⟩⟩
end
/-! ### dict(list of (tuple, True)) -/
def trueT (l : List (List Key)) (acc : List (List Key × V)) : List (List Key × V) := l.foldl (fun acc k => putK acc k (.bl true)) acc
theorem kt_all {H : Hp} : ∀ {qs : List (Addr × Addr × List Key)} {kvs : List (List Key × V)} {xs : List (List Key × Addr × Value)}, KT H kvs xs → (∀ q ∈ qs, H q.2.1 = some (.tup (q.2.2.map kV))) →
    KT H (trueT (qs.map fun q => q.2.2) kvs) (storedAllH xs (qs.map fun q => (q.2.2, q.2.1, Value.bool true)))
  | [], _, _, r, _ => r
  | q :: qs, kvs, xs, r, h => by
    have r1 := KT.put r q.2.2 (b := q.2.1) (y := .bl true) (u := .bool true) (h q List.mem_cons_self) rfl
    exact kt_all (qs := qs) (kvs := putK kvs q.2.2 (.bl true)) (xs := storedH xs q.2.2 q.2.1 (.bool true)) r1 fun z hz => h z (List.mem_cons_of_mem _ hz)
theorem trueT_len : ∀ (l : List (List Key)) (acc : List (List Key × V)), (trueT l acc).length ≤ acc.length + l.length
  | [], acc => Nat.le_refl _
  | k :: l, acc => by
    have h1 := trueT_len l (putK acc k (.bl true))
    have h2 := length_putK acc k (.bl true)
    show (trueT l (putK acc k (.bl true))).length ≤ acc.length + (l.length + 1)
    omega
theorem call_dictT {X : Cx} (hu : X.A.units + 2 < cLine) (calm : X.calm = true) : CallR X (.type "dict") (fun xs H Q => ∃ (a : Addr) (qs : List (Addr × Addr × List Key)), xs = [.ref a] ∧ SqL X.K H a (qs.map fun q => V.ref q.1) ∧ (∀ q ∈ qs, H q.1 = some (.tup [.ref q.2.1, .bl true]) ∧ H q.2.1 = some (.tup (q.2.2.map kV))) ∧
    ∀ p, H p = none → Q (.ref p) (upd H p (.dT (trueT (qs.map fun q => q.2.2) [])))) := by
  intro pins s σ H xs us Q I r h
  obtain ⟨a, qs, rfl, hq, hp, q⟩ := h
  obtain ⟨u, rfl, rx⟩ := vals1 r
  cases rx
  obtain ⟨its, rv, pl, hz⟩ := I.list hq
  rw [List.length_map] at hz
  have eits : its = qs.map fun q => Value.ref q.1 := by
    have rv2 : Vals ((qs.map fun q => q.1).map V.ref) its := by rw [List.map_map]; exact rv
    have := refs_at rv2
    rw [List.map_map] at this
    exact this
  obtain ⟨o, n, ho, hc, hd, hdat⟩ := pl
  have hpl : PlainSeq "list" s.heap a its.toArray := ⟨o, n, ho, hc, hd, hdat⟩
  have hpi : PairItems s.heap its.toArray (fun j => (qs[j]?.map (·.1)).getD 0) (qs.map fun q => (Value.ref q.2.1, Value.bool true)) := by
    refine ⟨by rw [eits]; simp, fun j k v hj => ?_⟩
    rw [List.getElem?_map] at hj
    obtain ⟨z, hz, e⟩ := Option.map_eq_some_iff.mp hj
    cases e
    have ez : (qs[j]?.map (·.1)).getD 0 = z.1 := by rw [hz]; rfl
    refine ⟨?_, .inl ?_⟩
    · show its.toArray[j]? = some (Value.ref ((qs[j]?.map (·.1)).getD 0))
      rw [ez, eits, List.getElem?_toArray, List.getElem?_map, hz]
      rfl
    show s.heap.IsTuple ((qs[j]?.map (·.1)).getD 0) _
    rw [ez]
    obtain ⟨ts, rt, pt, _⟩ := I.tuple (.inl (.inl (hp z (List.mem_of_getElem? hz)).1))
    cases rt with
    | cons r1 rr =>
      cases rr with
      | cons r2 rr =>
        cases rr
        cases r1
        cases r2
        exact pt
  have hkey : ∀ z ∈ qs, (tupleKind (mixKind X.prog X.w)).is s.heap z.2.2 z.2.1 := fun z hz => key_of I.hok (hp z hz).2
  refine PySem.call_dict_pairsH (knd := tupleKind (mixKind X.prog X.w)) (ps := qs.map fun q => (q.2.2, q.2.1, Value.bool true)) (PySem.PairArg.list a its.toArray _ (qs.map fun q => (Value.ref q.2.1, Value.bool true))) (I.ok.hd calm) ?_ ⟨hpl, hpi⟩ ⟨by simp, fun i key v hr => ?_⟩ (fun h' hk x hx => ?_) (by rw [List.length_map]; exact hz) fun h' tk hd' hk => ?_
  · show X.A.in1.in1.units < cLine
    exact tupleKind_room_in1 (knd := mixKind X.prog X.w) (A := X.A.in1) (by have := Around.in1_units (A := X.A); omega)
  · have hr : (qs.map fun q => (Value.ref q.2.1, Value.bool true))[i]? = some (key, v) := hr
    rw [List.getElem?_map] at hr
    obtain ⟨z, hz, e⟩ := Option.map_eq_some_iff.mp hr
    cases e
    exact ⟨z.2.2, z.2.1, by rw [List.getElem?_map, hz]; rfl, rfl⟩
  · obtain ⟨z, hz, rfl⟩ := List.mem_map.mp hx
    obtain ⟨o, its, n, h1, r⟩ := hkey z hz
    exact ⟨o, its, n, hk _ _ (Nat.ne_of_lt (Heap.lt_size h1)) (fun z => by cases z) h1, r⟩
  · have hm : (s.heap.objs.size == sysModules) = false := beq_eq_false_iff_ne.mpr (Nat.ne_of_gt I.big)
    have hn : H s.heap.objs.size = none := I.hok.fresh (Nat.le_refl _)
    have hkt : KT H (trueT (qs.map fun q => q.2.2) []) (storedAllH [] (qs.map fun q => (q.2.2, q.2.1, Value.bool true))) := kt_all .nil fun z hz => (hp z hz).2
    obtain ⟨q1, es, ep, hq1, a2, a3, a4, _, a5⟩ := hd'
    have hl : (trueT (qs.map fun q => q.2.2) []).length ≤ sizeLine := by
      have := trueT_len (qs.map fun q => q.2.2) []
      rw [List.length_map, List.length_nil] at this
      omega
    refine ⟨.ref s.heap.objs.size, upd H s.heap.objs.size (.dT (trueT (qs.map fun q => q.2.2) [])), I.laid (t' := tk) (fun b o e => hk b o (fun z => by cases z) e) (Nat.le_refl _) ?_, rfl, q _ hn⟩
    refine ⟨hl, hm, _, hkt.keeps fun c ys ec => ?_, q1, es, ep, hq1, a2, a3, a4, a5⟩
    rw [upd_ne (ne_of_none ec hn)]
    exact ec
end L2
end
section
set_option Elab.async false
set_option linter.all false
set_option maxRecDepth 100000
set_option maxHeartbeats 8000000
namespace K0
open PySem PySem.Spec PyProof.Rows L2 GN
/-! ### line_pairs of a line -/
def linR (L : List Str) (r : RRow) : Row := if (L.idxOf r.1 : Int) < (L.idxOf r.2.1 : Int) then (r.1, r.2.1) else (r.2.1, r.1)
def prAllR (R : List Row) (B : List RRow) : List RRow := prToR R B (rnm B) (rnm B).length
theorem prAllR_len {R : List Row} {B : List RRow} (h : B.length ≤ 40) : (prAllR R B).length ≤ 1640 := by
  have h1 : (prAllR R B).length = (prTo R B (rnm B) (rnm B).length).length := by unfold prAllR; rw [prTo_map]; exact (List.length_map _).symm
  have h2 := prTo_len (R := R) (B := B) (ns := rnm B) (rnm B).length
  have h3 : (rnm B).length = B.length := List.length_map _
  have h4 : (rnm B).length * (rnm B).length ≤ 40 * 40 := Nat.mul_le_mul (by omega) (by omega)
  omega
theorem prAll_trV {R : List Row} {B : List RRow} : (prAll R B).map (Sum.inr (α := V)) = (prAllR R B).map fun r => Sum.inr (trV r) := by
  unfold prAll prAllR
  rw [prTo_map, List.map_map]
  rfl
/-- a list of pairs of texts grows -/
theorem RowsAt.more {H H4 : Hp} {U t : Addr} {DU : List (Addr × Row)} {r : Row} (h : RowsAt H U DU) (s : Same H H4) (nt : H4 t = none) : (upd H4 t (.tup [.str r.1, .str r.2])) U = some (.lst (DU.map fun q => V.ref q.1)) ∧ RowsAt (upd (upd H4 t (.tup [.str r.1, .str r.2])) U (.lst ((DU.map fun q => V.ref q.1) ++ [.ref t]))) U (DU ++ [(t, r)]) := by
  have hU := s _ _ h.lst
  have ne : U ≠ t := ne_of_none hU nt
  refine ⟨by rw [upd_ne ne]; exact hU, by rw [upd_same, List.map_append]; rfl, fun q hq => ?_⟩
  rcases List.mem_append.mp hq with hq | hq
  · have e := s _ _ (h.tup q hq)
    rw [upd_ne (ne_of e hU (fun z => by cases z)), upd_ne (ne_of_none e nt)]
    exact e
  · rw [List.mem_singleton.mp hq, upd_ne ne.symm]
    exact upd_same
abbrev scLinePairs_N : List Str := ["rights", "names", "places", "name", "place", "one", "other", "_"]
abbrev scLinePairs_S : Stmt := sLinePairs
theorem scLinePairs : FnScope scLinePairs_N ["rights", "names"] (defScope sLinePairs) := ⟨rfl, rfl, rfl, by decide +kernel, rfl, by decide +kernel, by decide +kernel⟩
def spLineP (Cg Cr : Addr) : Sp := fun vs H Q _ => ∃ (p q l : Addr) (L : List Str) (AR : List (Addr × Row)) (BR : List (Addr × RRow)), vs = [.ref p, .ref l] ∧ RigOk Cg Cr H p q AR BR ∧ H l = some (.lst (L.map V.str)) ∧ L.Perm (rnm (bOf BR)) ∧
  ∀ H' z AP, Keep H H' → H z = none → RowsAt H' z AP → rowsOf AP = (prAllR (rowsOf AR) (bOf BR)).map (linR L) → Q (.ref z) H'
section
variable {P : Program} {w : World} {K : PySem.W.Frag} {mg : Str → Option Value} {base : Heap} {tS tM tL : Tok}
theorem ok_linep {f fN fM fP Cg Cr : Addr} {fd fdN fdM fdP : FuncData} (F : FnP K "line_pairs" sLinePairs f fd) (Fneed_different : FnP K "need_different" sNeedDiff fN fdN) (gneed_different : mg "need_different" = some (.ref fN)) (Fmeet : FnP K "meet" sMeet fM fdM) (gmeet : mg "meet" = some (.ref fM)) (Fpairs : FnP K "pairs" sPairsG fP fdP) (gpairs : mg "pairs" = some (.ref fP))
    (W : ∃ f fd, FnM K "way" "Rights.way" sGWay f fd ∧ Meth K Cg "way" f) (M : Gm K Cg) (D : NdG P w K mg base Cg Cr) (TG : Rg K mg Cg) (B : Bl mg) : FnOk P w K mg base CX0 9 f fd ["rights", "names"] (spLineP Cg Cr) := by
  obtain ⟨a3, d3, Fway, Mway⟩ := W
  have Gneed_different : FnOk P w K mg base CX0 2 fN fdN ["rights", "names"] (spNeedDiff Cg Cr) := ok_needdiff Fneed_different M TG B
  have bneed_different : Binds K fdN ["rights", "names"] [] := Fneed_different.bindsN fun _ _ _ _ _ _ us hl => match us, hl with | [_, _], _ => rfl
  have Gpairs : GnOk P w K mg base 4 fP fdP ["rights"] (spPairs Cg Cr) := ok_pairs Fpairs Fmeet gmeet Fway Mway D TG B
  have bpairs : Binds K fdP ["rights"] [] := Fpairs.bindsN fun _ _ _ _ _ _ us hl => match us, hl with | [_], _ => rfl
  refine F.ok scLinePairs (fun vs H Q E h => ?_) (fun cdv A outer s H vs Q E hr h => ?_)
  · obtain ⟨p, q, l, L, AR, BR, rfl, _⟩ := h
    rfl
  · obtain ⟨p, q, l, L, AR, BR, rfl, R, hl, hL, k⟩ := h
    have hu := hu_of hr
    have hr8 : Room 8 _ := hr
    have hrneed_different : Room 2 _ := hr.mono (by decide)
    refine ⟨_, PSs.nox (pss_cons
      (ps_expr (pe_call Gneed_different hrneed_different (by rfl) gneed_different Fneed_different.kp bneed_different .nil pass0 (pa_cons (pv 0) (pa_cons (pv 1) pa_nil))))
      (pss_cons
      (ps_set (i := 2) scLinePairs.nd rfl (Or.inr rfl) (pe_dc (own := [("place", 4), ("name", 3)]) (tt := tYes) (by rfl) scLinePairs.nd (pi_enum (by rfl) B.enumerate (pa_cons (pv 1) pa_nil)) (blkOk_by (own := [("place", 4), ("name", 3)]) (N := scLinePairs_N) (sc := defScope scLinePairs_S) (by decide +kernel)) (fun _ _ _ _ _ => (tgK (K := K) (n := 2) (by rfl) (pgs_cons (pg_name (i := 4) scLinePairs.nd rfl (Or.inl rfl)) (pgs_cons (pg_name (i := 3) scLinePairs.nd rfl (Or.inl rfl)) pgs_nil)))) (fun _ _ _ _ _ => pts_nil) (fun _ _ _ _ _ => (pv 3)) (fun _ _ _ _ _ => (pv 4))))
      (pss_cons
      (ps_for PassesOwn.never rfl (pi_tup (fldK (K := K) (pv 0) rfl)) (pg_name (i := 3) scLinePairs.nd rfl (Or.inl rfl)) (pss_one
      (ps_if (pt_cmp (pc_dnotin hu (pv 3) (pv 2))) (pss_one ps_never) pss_nil)))
      (pss_one
      (ps_ret (pe_lcN (k := 4) (own := [("one", 5), ("other", 6), ("_", 7)]) (g := gTup K 3 (gCons (gName 5) (gCons (gName 6) (gCons (gName 7) gNil)))) (pgn_call (k := 4) Gpairs (hr8.mono (by decide)) (by rfl) gpairs Fpairs.kp bpairs (pa_cons (pv 0) pa_nil)) (hr8.mono (by decide)) scLinePairs.nd (blkOk_by (own := [("one", 5), ("other", 6), ("_", 7)]) (N := scLinePairs_N) (sc := defScope scLinePairs_S) (by decide +kernel))
        (fun _ _ _ _ _ => tg_tup rfl (tgs_cons (tg_name (i := 5) scLinePairs.nd rfl rfl) (tgs_cons (tg_name (i := 6) scLinePairs.nd rfl rfl) (tgs_cons (tg_name (i := 7) scLinePairs.nd rfl rfl) tgs_nil))))
        (fun _ _ _ _ _ => eg_ifLt (eg_dget hu (eg_var (i := 2) rfl (.inr (.inl rfl))) (eg_var (i := 5) rfl (.inl rfl)) (fun _ _ => rfl)) (eg_dget hu (eg_var (i := 2) rfl (.inr (.inl rfl))) (eg_var (i := 6) rfl (.inl rfl)) (fun _ _ => rfl)) (eg_tup (ag_cons (eg_var (i := 5) rfl (.inl rfl)) (ag_cons (eg_var (i := 6) rfl (.inl rfl)) ag_nil))) (eg_tup (ag_cons (eg_var (i := 6) rfl (.inl rfl)) (ag_cons (eg_var (i := 5) rfl (.inl rfl)) ag_nil))) rfl))))))), ?_⟩
    have hg := R.g
    have hb := R.b
    have hm := hb.most
    have hln : (rnm (bOf BR)).length = (bOf BR).length := List.length_map _
    have hLl : L.length = (rnm (bOf BR)).length := hL.length_eq
    have hLn : L.Nodup := hL.nodup_iff.mpr hb.nd
    have z40 : 40000 ≤ sizeLine := by rw [sizeLine_eq]; omega
    refine ⟨_, rfl, _, rfl, p, q, l, L, AR, BR, rfl, R, hl, fun x hx => hL.mem_iff.mp hx, hLn, by omega, fun H1 s1 => ?_⟩
    obtain ⟨dx, tn, tr, dw, dl, dp, h1, h2, h3, h4, h5, h6, h7⟩ := id (R.same s1).at_.ex
    -- places
    refine ⟨_, rfl, l, L.map V.str, rfl, .inl (.inl (s1 _ _ hl)), fun D hD => ?_⟩
    refine dc_itO (walk_enum (K := K) (a := l) (xs := L.map V.str)) hD (fun i => kmap (fun n => V.int (L.idxOf n)) (L.take i)) (by rw [List.take_zero]; rfl) (fun i hi => by rw [kmap_len, List.length_take]; exact small1000 (by omega)) (fun H2 s2 => .inl (.inl (s2 _ _ (s1 _ _ hl)))) ?_ ?_
    · intro i x H2 H3 Nx hi s2 hD2 put hy
      obtain ⟨T, x1, x2, rfl, nT, rfl, e1, e2⟩ := hy
      cases e1
      have e2 : (L.map V.str)[i]? = some x2 := e2
      rw [List.getElem?_map] at e2
      obtain ⟨n, hn, rfl⟩ := Option.map_eq_some_iff.mp e2
      have s3 : Same H2 (upd H2 T (.tup [.int (i : Nat), .str n])) := same_upd nT
      refine ⟨T, _, rfl, .inl (.inl upd_same), rfl, _, _, rfl, _, _, rfl, rfl, rfl, ?_⟩
      unfold tYes
      refine iteT ?_
      refine ⟨_, rfl, _, rfl, put (Sum.inr n) _ _ s3 ?_⟩
      have hnot : n ∉ L.take i := nodup_take hLn hn
      have hix : L.idxOf n = i := by
        obtain ⟨hlt, e⟩ := List.getElem?_eq_some_iff.mp hn
        rw [← e, hLn.idxOf_getElem]
      have := kmap_put (f := fun n => V.int (L.idxOf n)) hnot
      rw [hix] at this
      rw [List.take_add_one, hn, this]
      rfl
    intro H2 s2 hD2
    have hLt : L.take (L.map V.str).length = L := by rw [List.length_map, List.take_length]
    simp only [hLt] at hD2
    have R2 := (R.same s1).same s2
    -- each is there
    refine ⟨_, rfl, p, Cg, dx, _, _, rfl, s2 _ _ h1, TG.cl, TG.names, rr6n _ _ _ _ _ _, tn, rfl, ⟨_, .inl (h3.same s2)⟩, ?_⟩
    refine for_tup (K := K) (a := tn) (xs := (rnm (bOf BR)).map V.str) (fun i σ H3 => ∃ v3, σ = [some (.ref p), some (.ref l), some (.ref D), v3, none, none, none, none] ∧ H3 = H2) ⟨_, rfl, rfl⟩ (fun i σ H3 hi h => by
      obtain ⟨_, _, rfl⟩ := h
      exact .inl (h3.same s2)) ?_ ?_
    · rintro i x σ H3 hx ⟨v3, rfl, rfl⟩
      rw [List.getElem?_map] at hx
      obtain ⟨n, hn, rfl⟩ := Option.map_eq_some_iff.mp hx
      have hnL : n ∈ L := hL.mem_iff.mpr (List.mem_of_getElem? hn)
      refine ⟨_, rfl, _, rfl, D, _, rfl, dget_rn (.inl hD2) hnL, _, rfl, ?_⟩
      exact iteF ⟨_, rfl, rfl⟩
    rintro σ H3 ⟨v3, rfl, rfl⟩
    -- the pairs
    refine ⟨_, rfl, _, ⟨p, q, AR, BR, rfl, rigCut R2, rfl⟩, fun z nz => ?_⟩
    rw [prAll_trV]
    have hpl := prAllR_len (R := rowsOf AR) hm
    have hpm : ∀ r ∈ prAllR (rowsOf AR) (bOf BR), r.1 ∈ L ∧ r.2.1 ∈ L := fun r hr => by
      obtain ⟨a1, a2, _⟩ := prToR_mem (Nat.le_refl _) hr
      exact ⟨hL.mem_iff.mpr a1, hL.mem_iff.mpr a2⟩
    have nzp : prn H3 z = none := prn_none nz
    have kz : Keep H (upd (prn H3) z (.lst [])) := ((Keep.of (s1.trans s2)).trans Keep.prn).trans (Keep.of (same_upd nzp))
    have hDz : z ≠ D := fun e => by rw [e, hD2] at nz; cases nz
    have hDp : (upd (prn H3) z (.lst [])) D = some (.dK (kmap (fun n => V.int (L.idxOf n)) L)) := by
      rw [upd_ne hDz.symm]
      exact prn_of hD2 (fun _ z => by cases z) (fun _ z => by cases z)
    have nzH : H z = none := by
      cases e : H z with
      | none => rfl
      | some o => rw [s2 _ _ (s1 _ _ e)] at nz; cases nz
    refine ⟨fun i H' => Keep H H' ∧ H' D = some (.dK (kmap (fun n => V.int (L.idxOf n)) L)) ∧ ∃ AP, RowsAt H' z AP ∧ rowsOf AP = ((prAllR (rowsOf AR) (bOf BR)).take i).map (linR L),
      ⟨kz, hDp, [], ⟨upd_same, fun q hq => by cases hq⟩, rfl⟩, ?_, ?_⟩
    · rintro i it H' x H'' hit ⟨kH, hD', AP, hA, eA⟩ hic
      rw [List.getElem?_map] at hit
      obtain ⟨r, hr, rfl⟩ := Option.map_eq_some_iff.mp hit
      obtain ⟨t, rfl, nt, rfl⟩ := hic
      obtain ⟨m1, m2⟩ := hpm r (List.mem_of_getElem? hr)
      have s5 : Same H' (upd H' t (.tup (trV r))) := same_upd nt
      refine ⟨t, _, rfl, .inl (.inl upd_same), rfl, _, _, rfl, _, _, rfl, _, _, rfl, rfl, Grow.refl, rfl, ?_⟩
      generalize upd H' t (.tup (trV r)) = H5 at s5
      have hD5 := s5 _ _ hD'
      have hA5 := hA.same s5
      have hAl : AP.length ≤ 1640 := by
        have e : AP.length = (rowsOf AP).length := (List.length_map _).symm
        rw [e, eA, List.length_map, List.length_take]
        omega
      have fin : ∀ (y : Row), linR L r = y → ∀ t2, H5 t2 = none → Grow H5 (upd H5 t2 (.tup [.str y.1, .str y.2])) ∧ ∃ acc, (upd H5 t2 (.tup [.str y.1, .str y.2])) z = some (.lst acc) ∧ acc.length < sizeLine ∧
          (Keep H (upd (upd H5 t2 (.tup [.str y.1, .str y.2])) z (.lst (acc ++ [.ref t2]))) ∧ (upd (upd H5 t2 (.tup [.str y.1, .str y.2])) z (.lst (acc ++ [.ref t2]))) D = some (.dK (kmap (fun n => V.int (L.idxOf n)) L)) ∧ ∃ AP, RowsAt (upd (upd H5 t2 (.tup [.str y.1, .str y.2])) z (.lst (acc ++ [.ref t2]))) z AP ∧ rowsOf AP = ((prAllR (rowsOf AR) (bOf BR)).take (i + 1)).map (linR L)) := fun y ey t2 nt2 => by
        obtain ⟨f1, f2⟩ := hA5.more (r := y) (.refl _) nt2
        refine ⟨Grow.tup nt2, _, f1, by rw [List.length_map]; omega, fun b u e n1 n2 => ?_, ?_, AP ++ [(t2, y)], f2, ?_⟩
        · have e2 := s5 _ _ (kH b u e n1 n2)
          rw [upd_ne (ne_of_none e nzH), upd_ne (ne_of_none e2 nt2)]
          exact e2
        · rw [upd_ne hDz.symm, upd_ne (ne_of_none hD5 nt2)]
          exact hD5
        · show (AP ++ [(t2, y)]).map (·.2) = _
          rw [List.map_append, List.take_add_one, hr, List.map_append, ← eA, ← ey]
          rfl
      refine ⟨_, rfl, _, rfl, D, _, rfl, dget_rn (.inl hD5) m1, _, rfl, _, rfl, D, _, rfl, dget_rn (.inl hD5) m2, _, _, rfl, rfl, _, rfl, ?_⟩
      refine ite2 (fun h => ?_) (fun h => ?_)
      · refine ⟨_, rfl, _, rfl, by show 2 ≤ sizeLine; decide, fun t2 nt2 => ?_⟩
        exact fin (r.1, r.2.1) (if_pos (of_decide_eq_true h)) t2 nt2
      · refine ⟨_, rfl, _, rfl, by show 2 ≤ sizeLine; decide, fun t2 nt2 => ?_⟩
        exact fin (r.2.1, r.1) (if_neg fun z => h (decide_eq_true z)) t2 nt2
    · rintro H' ⟨kH, _, AP, hA, eA⟩
      rw [List.length_map, List.take_length] at eA
      exact k H' z AP kH nzH hA eA
end
end K0
end
section
set_option Elab.async false
set_option linter.all false
set_option maxRecDepth 100000
set_option maxHeartbeats 8000000
namespace K0
open PySem PySem.Spec PyProof.Rows L2 GN
/-! ### line_pairs of other lists: NoRight -/
/-- all names there, once each, but one missing -/
def spMiss (Cg Cr Cn : Addr) : Sp := fun vs H Q E => ∃ (p q l : Addr) (L dn rs : List Str) (x : Str) (AR : List (Addr × Row)) (BR : List (Addr × RRow)), vs = [.ref p, .ref l] ∧ RigOk Cg Cr H p q AR BR ∧ H l = some (.lst (L.map V.str)) ∧ (∀ y ∈ L, y ∈ rnm (bOf BR)) ∧ L.Nodup ∧ L.length ≤ 40 ∧
  rnm (bOf BR) = dn ++ x :: rs ∧ (∀ y ∈ dn, y ∈ L) ∧ x ∉ L ∧ ∀ H' d, Same H H' → H' d = none → E (.ref Cn) (some d) (upd H' d (.xd [(("name" : Str), .str x)]))
def spLinePX (K : PySem.W.Frag) (Cg Cr Cn : Addr) : Sp := fun vs H Q E => spBad K Cg Cr Cn vs H Q E ∨ spMiss Cg Cr Cn vs H Q E
section
variable {P : Program} {w : World} {K : PySem.W.Frag} {mg : Str → Option Value} {base : Heap} {tS tM tL : Tok}
theorem ok_linepX {f fN fM fP fn Cg Cr Cn : Addr} {fd fdN fdM fdP fdn : FuncData} (F : FnP K "line_pairs" sLinePairs f fd) (Fneed_different : FnP K "need_different" sNeedDiff fN fdN) (gneed_different : mg "need_different" = some (.ref fN)) (Fmeet : FnP K "meet" sMeet fM fdM) (gmeet : mg "meet" = some (.ref fM)) (Fpairs : FnP K "pairs" sPairsG fP fdP) (gpairs : mg "pairs" = some (.ref fP))
    (W : ∃ f fd, FnM K "way" "Rights.way" sGWay f fd ∧ Meth K Cg "way" f) (N : Nr P K mg Cn fn fdn) (M : Gm K Cg) (D : NdG P w K mg base Cg Cr) (TG : Rg K mg Cg) (B : Bl mg) : FnOk P w K mg base (L2.CX P w) 9 f fd ["rights", "names"] (spLinePX K Cg Cr Cn) := by
  obtain ⟨a3, d3, Fway, Mway⟩ := W
  have Gneed_different : FnOk P w K mg base CX0 2 fN fdN ["rights", "names"] (spNeedDiff Cg Cr) := ok_needdiff Fneed_different M TG B
  have GneedX : FnOk P w K mg base (L2.CX P w) 3 fN fdN ["rights", "names"] (spBad K Cg Cr Cn) := ok_needdiffX Fneed_different N M TG B
  have bneed_different : Binds K fdN ["rights", "names"] [] := Fneed_different.bindsN fun _ _ _ _ _ _ us hl => match us, hl with | [_, _], _ => rfl
  have Gpairs : GnOk P w K mg base 4 fP fdP ["rights"] (spPairs Cg Cr) := ok_pairs Fpairs Fmeet gmeet Fway Mway D TG B
  have bpairs : Binds K fdP ["rights"] [] := Fpairs.bindsN fun _ _ _ _ _ _ us hl => match us, hl with | [_], _ => rfl
  have Gn : FnOk P w K mg base CX0 1 fn fdn ["self", "name"] (spSup K Cn) := ok_noright N
  have bn := binds_noright N
  refine F.ok scLinePairs (fun vs H Q E h => ?_) (fun cdv A outer s H vs Q E hr h => ?_)
  · rcases h with ⟨p, q, l, _, _, _, AR, BR, rfl, _⟩ | ⟨p, q, l, L, _, _, _, AR, BR, rfl, _⟩ <;> rfl
  · have hu := hu_of hr
    have hr8 : Room 8 _ := hr
    have hr2 : Room 2 _ := hr.mono (by decide)
    have hr3 : Room 3 _ := hr.mono (by decide)
    rcases h with h | h
    · refine ⟨_, (pss_cons
      (ps_expr (pe_callS GneedX hr3 (by rfl) gneed_different Fneed_different.kp bneed_different (fun σ => passAt (takes_of rfl rfl rfl rfl) σ) (pa_cons (pv 0) (pa_cons (pv 1) pa_nil))))
      (pss_cons
      (ps_set (i := 2) scLinePairs.nd rfl (Or.inr rfl) (pe_dc (own := [("place", 4), ("name", 3)]) (tt := tYes) (by rfl) scLinePairs.nd (pi_enum (by rfl) B.enumerate (pa_cons (pv 1) pa_nil)) (blkOk_by (own := [("place", 4), ("name", 3)]) (N := scLinePairs_N) (sc := defScope scLinePairs_S) (by decide +kernel)) (fun _ _ _ _ _ => (tgK (K := K) (n := 2) (by rfl) (pgs_cons (pg_name (i := 4) scLinePairs.nd rfl (Or.inl rfl)) (pgs_cons (pg_name (i := 3) scLinePairs.nd rfl (Or.inl rfl)) pgs_nil)))) (fun _ _ _ _ _ => pts_nil) (fun _ _ _ _ _ => (pv 3)) (fun _ _ _ _ _ => (pv 4))))
      (pss_cons
      (ps_for (passes_of rfl) rfl (pi_tup (fldK (K := K) (pv 0) rfl)) (pg_name (i := 3) scLinePairs.nd rfl (Or.inl rfl)) (pss_one
      (ps_if (pt_cmp (pc_dnotin hu (pv 3) (pv 2))) (pss_one
      (ps_raise rfl (takes_of rfl rfl rfl rfl) (pmk_oex N.S.exc N.iC N.tI Gn hr2 bn .nil (fun _ _ _ _ _ _ _ h => h.elim) (by rfl) N.mgN (pa_cons (pv 3) pa_nil)))) pss_nil)))
      (pss_one
      (ps_ret (pe_lcN (k := 4) (own := [("one", 5), ("other", 6), ("_", 7)]) (g := gTup K 3 (gCons (gName 5) (gCons (gName 6) (gCons (gName 7) gNil)))) (pgn_call (k := 4) Gpairs (hr8.mono (by decide)) (by rfl) gpairs Fpairs.kp bpairs (pa_cons (pv 0) pa_nil)) (hr8.mono (by decide)) scLinePairs.nd (blkOk_by (own := [("one", 5), ("other", 6), ("_", 7)]) (N := scLinePairs_N) (sc := defScope scLinePairs_S) (by decide +kernel))
        (fun _ _ _ _ _ => tg_tup rfl (tgs_cons (tg_name (i := 5) scLinePairs.nd rfl rfl) (tgs_cons (tg_name (i := 6) scLinePairs.nd rfl rfl) (tgs_cons (tg_name (i := 7) scLinePairs.nd rfl rfl) tgs_nil))))
        (fun _ _ _ _ _ => eg_ifLt (eg_dget hu (eg_var (i := 2) rfl (.inr (.inl rfl))) (eg_var (i := 5) rfl (.inl rfl)) (fun _ _ => rfl)) (eg_dget hu (eg_var (i := 2) rfl (.inr (.inl rfl))) (eg_var (i := 6) rfl (.inl rfl)) (fun _ _ => rfl)) (eg_tup (ag_cons (eg_var (i := 5) rfl (.inl rfl)) (ag_cons (eg_var (i := 6) rfl (.inl rfl)) ag_nil))) (eg_tup (ag_cons (eg_var (i := 6) rfl (.inl rfl)) (ag_cons (eg_var (i := 5) rfl (.inl rfl)) ag_nil))) rfl))))))), ?_⟩
      obtain ⟨p, q, l, pre, x, post, AR, BR, rfl, h⟩ := h
      exact ⟨_, rfl, _, rfl, p, q, l, pre, x, post, AR, BR, rfl, h⟩
    · refine ⟨_, (pss_cons
      (ps_expr (pe_call Gneed_different hr2 (by rfl) gneed_different Fneed_different.kp bneed_different .nil pass0 (pa_cons (pv 0) (pa_cons (pv 1) pa_nil))))
      (pss_cons
      (ps_set (i := 2) scLinePairs.nd rfl (Or.inr rfl) (pe_dc (own := [("place", 4), ("name", 3)]) (tt := tYes) (by rfl) scLinePairs.nd (pi_enum (by rfl) B.enumerate (pa_cons (pv 1) pa_nil)) (blkOk_by (own := [("place", 4), ("name", 3)]) (N := scLinePairs_N) (sc := defScope scLinePairs_S) (by decide +kernel)) (fun _ _ _ _ _ => (tgK (K := K) (n := 2) (by rfl) (pgs_cons (pg_name (i := 4) scLinePairs.nd rfl (Or.inl rfl)) (pgs_cons (pg_name (i := 3) scLinePairs.nd rfl (Or.inl rfl)) pgs_nil)))) (fun _ _ _ _ _ => pts_nil) (fun _ _ _ _ _ => (pv 3)) (fun _ _ _ _ _ => (pv 4))))
      (pss_cons
      (ps_for (passes_of rfl) rfl (pi_tup (fldK (K := K) (pv 0) rfl)) (pg_name (i := 3) scLinePairs.nd rfl (Or.inl rfl)) (pss_one
      (ps_if (pt_cmp (pc_dnotin hu (pv 3) (pv 2))) (pss_one
      (ps_raise rfl (takes_of rfl rfl rfl rfl) (pmk_oex N.S.exc N.iC N.tI Gn hr2 bn .nil (fun _ _ _ _ _ _ _ h => h.elim) (by rfl) N.mgN (pa_cons (pv 3) pa_nil)))) pss_nil)))
      (pss_one
      (ps_ret (pe_lcN (k := 4) (own := [("one", 5), ("other", 6), ("_", 7)]) (g := gTup K 3 (gCons (gName 5) (gCons (gName 6) (gCons (gName 7) gNil)))) (pgn_call (k := 4) Gpairs (hr8.mono (by decide)) (by rfl) gpairs Fpairs.kp bpairs (pa_cons (pv 0) pa_nil)) (hr8.mono (by decide)) scLinePairs.nd (blkOk_by (own := [("one", 5), ("other", 6), ("_", 7)]) (N := scLinePairs_N) (sc := defScope scLinePairs_S) (by decide +kernel))
        (fun _ _ _ _ _ => tg_tup rfl (tgs_cons (tg_name (i := 5) scLinePairs.nd rfl rfl) (tgs_cons (tg_name (i := 6) scLinePairs.nd rfl rfl) (tgs_cons (tg_name (i := 7) scLinePairs.nd rfl rfl) tgs_nil))))
        (fun _ _ _ _ _ => eg_ifLt (eg_dget hu (eg_var (i := 2) rfl (.inr (.inl rfl))) (eg_var (i := 5) rfl (.inl rfl)) (fun _ _ => rfl)) (eg_dget hu (eg_var (i := 2) rfl (.inr (.inl rfl))) (eg_var (i := 6) rfl (.inl rfl)) (fun _ _ => rfl)) (eg_tup (ag_cons (eg_var (i := 5) rfl (.inl rfl)) (ag_cons (eg_var (i := 6) rfl (.inl rfl)) ag_nil))) (eg_tup (ag_cons (eg_var (i := 6) rfl (.inl rfl)) (ag_cons (eg_var (i := 5) rfl (.inl rfl)) ag_nil))) rfl))))))), ?_⟩
      obtain ⟨p, q, l, L, dn, rs, x, AR, BR, rfl, R, hl, hLm, hLn, hLl, hre, hdn, hx, k⟩ := h
      refine ⟨_, rfl, _, rfl, p, q, l, L, AR, BR, rfl, R, hl, hLm, hLn, hLl, fun H1 s1 => ?_⟩
      obtain ⟨dx, tn, tr, dw, dl, dp, h1, h2, h3, h4, h5, h6, h7⟩ := id (R.same s1).at_.ex
      -- places
      refine ⟨_, rfl, l, L.map V.str, rfl, .inl (.inl (s1 _ _ hl)), fun D hD => ?_⟩
      refine dc_itO (walk_enum (K := K) (a := l) (xs := L.map V.str)) hD (fun i => kmap (fun n => V.int (L.idxOf n)) (L.take i)) (by rw [List.take_zero]; rfl) (fun i hi => by rw [kmap_len, List.length_take]; exact small1000 (by omega)) (fun H2 s2 => .inl (.inl (s2 _ _ (s1 _ _ hl)))) ?_ ?_
      · intro i x H2 H3 Nx hi s2 hD2 put hy
        obtain ⟨T, x1, x2, rfl, nT, rfl, e1, e2⟩ := hy
        cases e1
        have e2 : (L.map V.str)[i]? = some x2 := e2
        rw [List.getElem?_map] at e2
        obtain ⟨n, hn, rfl⟩ := Option.map_eq_some_iff.mp e2
        have s3 : Same H2 (upd H2 T (.tup [.int (i : Nat), .str n])) := same_upd nT
        refine ⟨T, _, rfl, .inl (.inl upd_same), rfl, _, _, rfl, _, _, rfl, rfl, rfl, ?_⟩
        unfold tYes
        refine iteT ?_
        refine ⟨_, rfl, _, rfl, put (Sum.inr n) _ _ s3 ?_⟩
        have hnot : n ∉ L.take i := nodup_take hLn hn
        have hix : L.idxOf n = i := by
          obtain ⟨hlt, e⟩ := List.getElem?_eq_some_iff.mp hn
          rw [← e, hLn.idxOf_getElem]
        have := kmap_put (f := fun n => V.int (L.idxOf n)) hnot
        rw [hix] at this
        rw [List.take_add_one, hn, this]
        rfl
      intro H2 s2 hD2
      have hLt : L.take (L.map V.str).length = L := by rw [List.length_map, List.take_length]
      simp only [hLt] at hD2
      -- the missing one
      refine ⟨_, rfl, p, Cg, dx, _, _, rfl, s2 _ _ h1, TG.cl, TG.names, rr6n _ _ _ _ _ _, tn, rfl, ⟨_, .inl (h3.same s2)⟩, ?_⟩
      refine for_tup (K := K) (a := tn) (xs := (rnm (bOf BR)).map V.str) (fun i σ H3 => ∃ v3, σ = [some (.ref p), some (.ref l), some (.ref D), v3, none, none, none, none] ∧ H3 = H2 ∧ i ≤ dn.length) ⟨_, rfl, rfl, Nat.zero_le _⟩ (fun i σ H3 hi h => by
        obtain ⟨_, _, rfl, _⟩ := h
        exact .inl (h3.same s2)) ?_ ?_
      · rintro i y σ H3 hy ⟨v3, rfl, rfl, hi⟩
        rw [List.getElem?_map, hre] at hy
        obtain ⟨n, hn, rfl⟩ := Option.map_eq_some_iff.mp hy
        rcases Nat.lt_or_ge i dn.length with hlt | hge
        · rw [List.getElem?_append_left hlt] at hn
          have hnL := hdn n (List.mem_of_getElem? hn)
          refine ⟨_, rfl, _, rfl, D, _, rfl, dget_rn (.inl hD2) hnL, _, rfl, ?_⟩
          exact iteF ⟨_, rfl, rfl, hlt⟩
        · have hie : i = dn.length := Nat.le_antisymm hi hge
          subst hie
          rw [List.getElem?_append_right (Nat.le_refl _), Nat.sub_self] at hn
          obtain rfl : x = n := Option.some.inj hn
          refine ⟨_, rfl, _, rfl, D, none, rfl, .inl ⟨_, Sum.inr x, .inl hD2, rfl, (kmap_not hx).symm⟩, _, rfl, ?_⟩
          refine iteT ?_
          have hshx : ∀ H', Shown K H' (.str x) := fun H' => by
            have hxm : x ∈ rnm (bOf BR) := by rw [hre]; exact List.mem_append_right _ List.mem_cons_self
            obtain ⟨r, hr, e⟩ := List.mem_map.mp hxm
            rw [← e]
            refine .str _ (name_plain (R.b.ok r hr)) ?_
            have := (R.b.ok r hr).most
            show r.1.cps.toList.length ≤ 1000
            omega
          refine ⟨_, rfl, by show 1 ≤ 1000; decide, fun a na => ⟨a, .str x, rfl, upd_same, hshx _, fun dx n1 n2 => ⟨rfl, dx, [(("name" : Str), .str x)], upd_same, ?_, ?_, ?_⟩⟩⟩
          · rw [upd_ne n2, upd_same]
          · rw [upd_ne n2] at n1
            exact n1
          · rw [upd_ne n2] at n1
            have e : upd (del (upd (upd (upd H3 a (exo a Cn none)) dx (exd dx [(("name" : Str), .str x)])) a (exo a Cn (some dx))) a) dx (.xd [(("name" : Str), .str x)]) = upd H3 dx (.xd [(("name" : Str), .str x)]) := by
              funext b
              by_cases hd : b = dx
              · rw [hd, upd_same, upd_same]
              · rw [upd_ne hd, upd_ne hd]
                by_cases ha : b = a
                · rw [ha, del_same, na]
                · rw [del_ne ha, upd_ne ha, upd_ne hd, upd_ne ha]
            rw [e]
            exact k H3 dx (s1.trans s2) n1
      · rintro σ H3 ⟨v3, rfl, rfl, hi⟩
        rw [List.length_map, hre, List.length_append, List.length_cons] at hi
        omega
end
end K0
end
section
set_option Elab.async false
set_option linter.all false
set_option maxRecDepth 100000
set_option maxHeartbeats 4000000
namespace L2
open PySem PySem.Spec PyProof.Rows
/-! ### xs.remove(text), there -/
def strE (k : Str) (v : Value) : Bool := match v with
  | .str x _ => x.cps.toList == k.cps.toList
  | _ => false
theorem str_cps {x y : Str} : x.cps.toList = y.cps.toList ↔ x = y := ⟨fun h => by
  cases x with | mk a => cases y with | mk b =>
  have e : a = b := Array.ext' h
  rw [e], fun h => by rw [h]⟩
def rRemS : V → List V → Hp → VK → Prop := fun x xs H Q => ∃ (l : Addr) (ns : List Str) (k : Str), x = .ref l ∧ xs = [.str k] ∧ H l = some (.lst (ns.map V.str)) ∧ k ∈ ns ∧ Q .non (upd H l (.lst ((ns.erase k).map V.str)))
theorem erase_at [DecidableEq α] : ∀ {ns : List α} {k : α}, k ∈ ns → ∃ j, ns[j]? = some k ∧ (∀ m : Nat, m < j → ns[m]? ≠ some k) ∧ ns.eraseIdx j = ns.erase k
  | [], k, h => absurd h (by simp)
  | a :: r, k, h => by
    by_cases e : a = k
    · exact ⟨0, by rw [e]; rfl, fun m hm => absurd hm (Nat.not_lt_zero _), by rw [e, List.erase_cons_head]; rfl⟩
    · obtain ⟨j, h1, h2, h3⟩ := erase_at ((List.mem_cons.mp h).resolve_left fun z => e z.symm)
      refine ⟨j + 1, h1, fun m hm => ?_, by rw [List.erase_cons_tail (by simpa using e), ← h3]; rfl⟩
      cases m with
      | zero => exact fun z => e (Option.some.inj z)
      | succ m => exact h2 m (Nat.lt_of_succ_lt_succ hm)
theorem erase_map {α β : Type} (f : α → β) : ∀ (l : List α) (j : Nat), (l.map f).eraseIdx j = (l.eraseIdx j).map f
  | [], j => by simp
  | a :: r, 0 => by simp
  | a :: r, j + 1 => by
    have ih := erase_map f r j
    simp [ih]
theorem mt_removeS {X : Cx} : MtM X "list.remove" rRemS := by
  intro pins s σ H x xs v us Q I rx rxs h
  obtain ⟨l, ns, k, rfl, rfl, hH, hk, q⟩ := h
  cases rx
  obtain ⟨u, rfl, ru⟩ := rxs.one
  obtain ⟨t, rfl⟩ := ru
  obtain ⟨z, its, n, r, hl, e⟩ := I.lstM hH
  rw [List.length_map] at hl z
  obtain ⟨j, hj, hno, he⟩ := erase_at hk
  have hjn : j < ns.length := (List.getElem?_eq_some_iff.mp hj).1
  have hjl : j < its.toArray.size := by rw [List.size_toArray]; omega
  have at_ : ∀ m (hm : m < its.length), ∃ y t', ns[m]? = some y ∧ its[m] = .str y t' := fun m hm => by
    have hmn : m < ns.length := by omega
    obtain ⟨w, h1, h2⟩ := r.get (i := m) (x := .str ns[m]) (by rw [List.getElem?_map, List.getElem?_eq_getElem hmn]; rfl)
    obtain ⟨t', rfl⟩ := h2
    obtain ⟨_, h3⟩ := List.getElem?_eq_some_iff.mp h1
    exact ⟨ns[m], t', List.getElem?_eq_getElem hmn, h3⟩
  refine call_meets PySem.F.slot_list_remove ⟨_, e, rfl⟩ PySem.F.entry_list_remove (PySem.F.args_list_remove_2 _ _)
    (MeetsSeq.list_remove l its.toArray n (.str k t) (strE k) (fun y hy => ?_) j hjl ?_ ?_ (by rw [List.size_toArray]; omega)) ⟨e, ?_⟩
  · have hy : y ∈ its := by simpa using hy
    obtain ⟨m, hm, rfl⟩ := List.mem_iff_getElem.mp hy
    obtain ⟨y, t', _, e2⟩ := at_ m hm
    rw [e2]
    exact PySem.SeqRoads2.EqGives.str y k t' t
  · obtain ⟨y, t', e1, e2⟩ := at_ j (by omega)
    rw [hj] at e1
    cases e1
    have e3 : its.toArray[j] = .str k t' := by simpa using e2
    rw [e3]
    exact beq_self_eq_true k.cps.toList
  · intro m hm hmj
    obtain ⟨y, t', e1, e2⟩ := at_ m (by rw [List.size_toArray] at hm; exact hm)
    have e3 : its.toArray[m] = .str y t' := by simpa using e2
    rw [e3]
    show (y.cps.toList == k.cps.toList) = false
    refine beq_eq_false_iff_ne.mpr fun e4 => hno m hmj ?_
    rw [e1, str_cps.mp e4]
  · have rr := r.eraseIdx j
    rw [erase_map, he] at rr
    refine ⟨.non, _, I.lset (its' := its.eraseIdx j) (t' := s.toks) hH e ?_ rr ?_, rfl, q⟩
    · show its.toArray.eraseIdxIfInBounds j = (its.eraseIdx j).toArray
      rw [List.eraseIdxIfInBounds_toArray]
    · rw [List.length_map]
      have := List.length_erase_le (a := k) (l := ns)
      omega
end L2
namespace K0
open PySem PySem.Spec PyProof.Rows L2
/-! ### who goes ahead of whom, told by a dict of pairs -/
def pkR (r : Row) : List Key := [Sum.inr r.1, Sum.inr r.2]
def toldD (A : List Row) : List (List Key × V) := trueT (A.map pkR) []
theorem told_has {l : List (List Key)} : ∀ {acc : List (List Key × V)} (k : List Key), (valV (trueT l acc) k).isSome = true ↔ (valV acc k).isSome = true ∨ k ∈ l := by
  induction l with
  | nil => exact fun k => ⟨.inl, fun h => h.resolve_right fun z => by cases z⟩
  | cons a r ih =>
    intro acc k
    show (valV (trueT r (putK acc a (.bl true))) k).isSome = true ↔ _
    rw [ih, valV_put]
    by_cases e : k = a
    · rw [if_pos e]
      exact ⟨fun _ => .inr (by rw [e]; exact List.mem_cons_self), fun _ => .inl rfl⟩
    · rw [if_neg e]
      exact ⟨fun h => h.imp id (List.mem_cons_of_mem _), fun h => h.imp id fun z => (List.mem_cons.mp z).resolve_left e⟩
theorem told_in {A : List Row} (a b : Str) : (valV (toldD A) (pkR (a, b))).isSome = decide ((a, b) ∈ A) := by
  have h : pkR (a, b) ∈ A.map pkR ↔ (a, b) ∈ A := ⟨fun h => by
    obtain ⟨r, hr, e⟩ := List.mem_map.mp h
    unfold pkR at e
    injection e with e1 e2
    injection e2 with e2 _
    cases e1
    cases e2
    exact hr, fun h => List.mem_map.mpr ⟨_, h, rfl⟩⟩
  rw [Bool.eq_iff_iff, decide_eq_true_eq, ← h]
  unfold toldD
  rw [told_has]
  exact ⟨fun z => z.resolve_left (fun y => by cases y), Or.inr⟩
theorem pk_kv (a b : Str) : ([.str a, .str b] : List V) = (pkR (a, b)).map kV := rfl
def behind (A : List Row) (L : List Str) (n : Str) : Bool := L.any fun o => decide ((o, n) ∈ A)
def firstFree (A : List Row) (L : List Str) : Option Str := L.find? fun n => !behind A L n
def optS : Option Str → V
  | none => .non
  | some n => .str n
abbrev scFirstFree_N : List Str := ["left", "told", "name", "other"]
abbrev scFirstFree_S : Stmt := sFirstFree
theorem scFirstFree : FnScope scFirstFree_N ["left", "told"] (defScope sFirstFree) := ⟨rfl, rfl, rfl, by decide +kernel, rfl, by decide +kernel, by decide +kernel⟩
def spFirstFree : Sp := fun vs H Q _ => ∃ (l D : Addr) (L : List Str) (A : List Row), vs = [.ref l, .ref D] ∧ H l = some (.lst (L.map V.str)) ∧ H D = some (.dT (toldD A)) ∧ L.length ≤ 40 ∧ ∀ H', Same H H' → Q (optS (firstFree A L)) H'
section
variable {P : Program} {w : World} {K : PySem.W.Frag} {mg : Str → Option Value} {base : Heap} {tS tM tL : Tok}
theorem ok_firstfree {f : Addr} {fd : FuncData} (F : FnP K "_first_free" sFirstFree f fd) (B : Bl mg) : FnOk P w K mg base CX0 1 f fd ["left", "told"] spFirstFree := by
  refine F.ok scFirstFree (fun vs H Q E h => ?_) (fun cdv A outer s H vs Q E hr h => ?_)
  · obtain ⟨l, D, L, A, rfl, _⟩ := h
    rfl
  · obtain ⟨l, D, L, AA, rfl, hl, hD, hLl, k⟩ := h
    have hu := hu_of hr
    refine ⟨_, PSs.nox (pss_cons
      (ps_for PassesOwn.never rfl (pi_list (pv 0)) (pg_name (i := 2) scFirstFree.nd rfl (Or.inr rfl)) (pss_one
      (ps_if (pt_not (pt_val (pe_callB (anyK (K := K) rfl) (by rfl) B.any (by decide +kernel) (pa_cons (pe_lc (own := [("other", 3)]) (g := gName 3) (tt := tYes) (by rfl) scFirstFree.nd (pi_list (pv 0)) (blkOk_by (own := [("other", 3)]) (N := scFirstFree_N) (sc := defScope scFirstFree_S) (by decide +kernel)) (fun _ _ _ _ _ => (pg_name (i := 3) scFirstFree.nd rfl (Or.inl rfl))) (fun _ _ _ _ _ => pts_nil) (fun _ _ _ _ _ => (pe_cmp (pc_din hu (pe_tup (pa_cons (pv 3) (pa_cons (pv 2) pa_nil))) (pv 1)) rfl))) pa_nil)))) (pss_one
      (ps_ret (pv 2))) pss_nil)))
      (pss_one
      (ps_ret pe_non))), ?_⟩
    refine ⟨_, rfl, l, rfl, ⟨_, .inl (.inl hl)⟩, ?_⟩
    refine for_list (K := K) (a := l) (xs := L.map V.str) (fun i σ H2 => ∃ v2, σ = [some (.ref l), some (.ref D), v2, none] ∧ Same H H2 ∧ firstFree AA L = (L.drop i).find? fun n => !behind AA L n) ⟨_, rfl, .refl _, rfl⟩ (fun i σ H2 hi h => by
      obtain ⟨_, _, s, _⟩ := h
      exact .inl (.inl (s _ _ hl))) ?_ ?_
    · rintro i x σ H2 hx ⟨v2, rfl, s2, hff⟩
      rw [List.getElem?_map] at hx
      obtain ⟨n, hn, rfl⟩ := Option.map_eq_some_iff.mp hx
      have hdr : L.drop i = n :: L.drop (i + 1) := by
        obtain ⟨hlt, e⟩ := List.getElem?_eq_some_iff.mp hn
        rw [List.drop_eq_getElem_cons hlt, e]
      have hl2 := s2 _ _ hl
      refine ⟨_, rfl, l, rfl, ⟨_, .inl (.inl hl2)⟩, fun Z nZ => ?_⟩
      refine lc_listO (K := K) (a := l) (xs := L.map V.str) nZ (fun j => ((L.take j).map fun o => decide ((o, n) ∈ AA)).map V.bl) (by rw [List.take_zero]; rfl) (fun j _ => by rw [List.length_map, List.length_map, List.length_take]; exact small1000 (by omega)) (.inl (.inl hl2)) ?_ ?_
      · intro j x H3 Nx hx s3 put skip
        rw [List.getElem?_map] at hx
        obtain ⟨o, ho, rfl⟩ := Option.map_eq_some_iff.mp hx
        refine ⟨rfl, ?_⟩
        unfold tYes
        refine iteT ?_
        refine ⟨_, rfl, _, rfl, by show 2 ≤ sizeLine; decide, fun t nt => ?_⟩
        have s4 : Same H3 (upd H3 t (.tup [.str o, .str n])) := same_upd nt
        have hD4 := s4 _ _ (s3 _ _ (s2 _ _ hD))
        refine ⟨_, rfl, D, _, rfl, DGet.t (k := pkR (o, n)) hD4 (by rw [upd_same]; rfl), ?_⟩
        rw [told_in]
        refine put _ _ s4 ?_
        rw [take_map1 ho, List.map_append]
        rfl
      intro H3 s3 hl3
      rw [List.length_map, List.take_length] at hl3
      refine ⟨Z, _, rfl, .inl (.inl hl3), _, rfl, ?_⟩
      have e : ((L.map fun o => decide ((o, n) ∈ AA)).any id) = behind AA L n := by
        rw [List.any_map]
        rfl
      rw [e]
      rw [hdr, List.find?_cons] at hff
      refine ite2 (fun h => ?_) (fun h => ?_)
      · rw [h] at hff
        refine ⟨_, rfl, ?_⟩
        have := k H3 (s2.trans s3)
        rw [hff] at this
        exact this
      · have h : (!behind AA L n) = false := Bool.not_eq_true _ ▸ h
        rw [h] at hff
        exact ⟨_, rfl, s2.trans s3, hff⟩
    · rintro σ H2 ⟨v2, rfl, s2, hff⟩
      rw [List.length_map, List.drop_length] at hff
      have := k H2 s2
      rw [hff] at this
      exact this
end
end K0
end
section
set_option Elab.async false
set_option linter.all false
set_option maxRecDepth 100000
set_option maxHeartbeats 4000000
namespace K0
open PySem PySem.Spec PyProof.Rows L2
/-! ### the line -/
def goLine (A : List Row) : Nat → List Str → List Str
  | 0, _ => []
  | k + 1, L => match firstFree A L with
    | none => []
    | some n => n :: goLine A k (L.erase n)
def lineOf (A : List Row) (L : List Str) : List Str := goLine A L.length L
theorem ff_mem {A : List Row} {L : List Str} {n : Str} (h : firstFree A L = some n) : n ∈ L := List.mem_of_find?_eq_some h
theorem lineOf_none {A : List Row} {L : List Str} (h : firstFree A L = none) : lineOf A L = [] := by
  unfold lineOf
  cases L with
  | nil => rfl
  | cons a r =>
    show (match firstFree A (a :: r) with
      | none => []
      | some n => n :: goLine A r.length ((a :: r).erase n)) = []
    rw [h]
theorem lineOf_some {A : List Row} {L : List Str} {n : Str} (h : firstFree A L = some n) : lineOf A L = n :: lineOf A (L.erase n) := by
  have hm := ff_mem h
  have hl : (L.erase n).length + 1 = L.length := by
    have := List.length_erase_of_mem hm
    have hp := List.length_pos_of_mem hm
    omega
  unfold lineOf
  rw [← hl]
  simp only [goLine, h]
theorem lineOf_len {A : List Row} : ∀ (k : Nat) (L : List Str), (goLine A k L).length ≤ k
  | 0, L => Nat.le_refl _
  | k + 1, L => by
    show (match firstFree A L with
      | none => []
      | some n => n :: goLine A k (L.erase n)).length ≤ k + 1
    cases firstFree A L with
    | none => exact Nat.zero_le _
    | some n => exact Nat.succ_le_succ (lineOf_len k _)
abbrev scLine_N : List Str := ["rights", "told", "left", "line", "name"]
abbrev scLine_S : Stmt := sLine
theorem scLine : FnScope scLine_N ["rights", "told"] (defScope sLine) := ⟨rfl, rfl, rfl, by decide +kernel, rfl, by decide +kernel, by decide +kernel⟩
def spLine (Cg Cr : Addr) : Sp := fun vs H Q _ => ∃ (p q D : Addr) (A : List Row) (AR : List (Addr × Row)) (BR : List (Addr × RRow)), vs = [.ref p, .ref D] ∧ RigOk Cg Cr H p q AR BR ∧ H D = some (.dT (toldD A)) ∧
  ∀ H' z, Same H H' → H z = none → H' z = some (.lst ((lineOf A (rnm (bOf BR))).map V.str)) → Q (.ref z) H'
section
variable {P : Program} {w : World} {K : PySem.W.Frag} {mg : Str → Option Value} {base : Heap} {tS tM tL : Tok}
theorem ok_line {f fF Cg Cr : Addr} {fd fdF : FuncData} (F : FnP K "_line" sLine f fd) (F_first_free : FnP K "_first_free" sFirstFree fF fdF) (g_first_free : mg "_first_free" = some (.ref fF)) (TG : Rg K mg Cg) (B : Bl mg) : FnOk P w K mg base CX0 2 f fd ["rights", "told"] (spLine Cg Cr) := by
  have G_first_free : FnOk P w K mg base CX0 1 fF fdF ["left", "told"] spFirstFree := ok_firstfree F_first_free B
  have b_first_free : Binds K fdF ["left", "told"] [] := F_first_free.bindsN fun _ _ _ _ _ _ us hl => match us, hl with | [_, _], _ => rfl
  refine F.ok scLine (fun vs H Q E h => ?_) (fun cdv A outer s H vs Q E hr h => ?_)
  · obtain ⟨p, q, D, AA, AR, BR, rfl, _⟩ := h
    rfl
  · obtain ⟨p, q, D, AA, AR, BR, rfl, R, hD, k⟩ := h
    have hr_first_free : Room 1 _ := hr
    refine ⟨_, PSs.nox (pss_cons
      (ps_set (i := 2) scLine.nd rfl (Or.inl rfl) (pe_callTy (listK (K := K)) (by rfl) B.list (by decide +kernel) (pa_cons (fldK (K := K) (pv 0) rfl) pa_nil)))
      (pss_cons
      (ps_set (i := 3) scLine.nd rfl (Or.inl rfl) (pe_lst pa_nil))
      (pss_cons
      (ps_set (i := 4) scLine.nd rfl (Or.inl rfl) (pe_call G_first_free hr_first_free (by rfl) g_first_free F_first_free.kp b_first_free .nil pass0 (pa_cons (pv 2) (pa_cons (pv 1) pa_nil))))
      (pss_cons
      (ps_while PassesOwn.never (pt_cmpR op_notN (pv 4) pe_non (nomark _)) (pss_cons
      (ps_expr (pe_bm PySem.F.plainAttrs_list PySem.F.slot_list_remove PySem.F.type_list_remove mt_removeS (pv 2) (pa_cons (pv 4) pa_nil)))
      (pss_cons
      (ps_expr (pe_bm PySem.F.plainAttrs_list PySem.F.slot_list_append PySem.F.type_list_append mt_append (pv 3) (pa_cons (pv 4) pa_nil)))
      (pss_one
      (ps_set (i := 4) scLine.nd rfl (Or.inl rfl) (pe_call G_first_free hr_first_free (by rfl) g_first_free F_first_free.kp b_first_free .nil pass0 (pa_cons (pv 2) (pa_cons (pv 1) pa_nil))))))))
      (pss_one
      (ps_ret (pv 3))))))), ?_⟩
    have hm := R.b.most
    have hln : (rnm (bOf BR)).length = (bOf BR).length := List.length_map _
    obtain ⟨dx, tn, tr, dw, dl, dp, h1, h2, h3, h4, h5, h6, h7⟩ := id R.at_.ex
    refine ⟨_, rfl, p, Cg, dx, _, _, rfl, h1, TG.cl, TG.names, rr6n _ _ _ _ _ _, tn, _, rfl, .inr (.inl h3), fun lf nlf => ?_⟩
    have s1 : Same H (upd H lf (.lst ((rnm (bOf BR)).map V.str))) := same_upd nlf
    have hlf : (upd H lf (.lst ((rnm (bOf BR)).map V.str))) lf = some (.lst ((rnm (bOf BR)).map V.str)) := upd_same
    generalize upd H lf (.lst ((rnm (bOf BR)).map V.str)) = H1 at s1 hlf
    refine ⟨Nat.zero_le _, fun z nz => ?_⟩
    have s2 : Same H1 (upd H1 z (.lst [])) := same_upd nz
    have hz : (upd H1 z (.lst [])) z = some (.lst (([] : List Str).map V.str)) := upd_same
    have lz : lf ≠ z := ne_of_none hlf nz
    have nzH : H z = none := by
      cases e : H z with
      | none => rfl
      | some o => rw [s1 _ _ e] at nz; cases nz
    generalize upd H1 z (.lst []) = H2 at s2 hz
    have hl2 := s2 _ _ hlf
    have hD2 := s2 _ _ (s1 _ _ hD)
    refine ⟨_, rfl, _, rfl, lf, D, rnm (bOf BR), AA, rfl, hl2, hD2, by omega, fun H3 s3 => ?_⟩
    refine ⟨fun m σ H4 => ∃ (Lf dn : List Str), m = Lf.length ∧ σ = [some (.ref p), some (.ref D), some (.ref lf), some (.ref z), some (optS (firstFree AA Lf))] ∧ H4 lf = some (.lst (Lf.map V.str)) ∧ H4 z = some (.lst (dn.map V.str)) ∧ lineOf AA (rnm (bOf BR)) = dn ++ lineOf AA Lf ∧ Same H H4 ∧ dn.length + Lf.length ≤ 40,
      ⟨_, rnm (bOf BR), [], rfl, rfl, s3 _ _ hl2, s3 _ _ hz, rfl, (s1.trans s2).trans s3, by show 0 + _ ≤ 40; omega⟩, ?_⟩
    rintro m σ H4 ⟨Lf, dn, rfl, rfl, hl4, hz4, hln4, s4, hsz⟩
    refine ⟨_, rfl, rfl, _, rfl, ?_⟩
    cases hff : firstFree AA Lf with
    | none =>
      refine iteF ?_
      rw [lineOf_none hff, List.append_nil] at hln4
      refine ⟨_, rfl, k H4 z s4 nzH ?_⟩
      rw [hln4]
      exact hz4
    | some n =>
      have hnm := ff_mem hff
      have hpos := List.length_pos_of_mem hnm
      have hel := List.length_erase_of_mem hnm
      refine iteT ⟨fun σ' H' => ∃ (dn' : List Str), σ' = [some (.ref p), some (.ref D), some (.ref lf), some (.ref z), some (optS (firstFree AA (Lf.erase n)))] ∧ H' lf = some (.lst ((Lf.erase n).map V.str)) ∧ H' z = some (.lst (dn'.map V.str)) ∧ lineOf AA (rnm (bOf BR)) = dn' ++ lineOf AA (Lf.erase n) ∧ Same H H' ∧ dn'.length + (Lf.erase n).length ≤ 40, fun σ' H' ⟨dn', a1, a2, a3, a4, a5, a6⟩ => ⟨(Lf.erase n).length, by omega, Lf.erase n, dn', rfl, a1, a2, a3, a4, a5, a6⟩, ?_⟩
      refine ⟨_, rfl, .inl ⟨rfl, _, .inl (.inl hl4)⟩, _, rfl, lf, Lf, n, rfl, rfl, hl4, hnm, ?_⟩
      have z5 : (upd H4 lf (.lst ((Lf.erase n).map V.str))) z = some (.lst (dn.map V.str)) := by rw [upd_ne lz.symm]; exact hz4
      refine ⟨_, rfl, .inl ⟨rfl, _, .inl (.inl z5)⟩, _, rfl, z, _, _, rfl, rfl, z5, by rw [List.length_map]; exact small1000 (by omega), ?_⟩
      have hlfH : H lf = none := nlf
      have s6 : Same H (upd (upd H4 lf (.lst ((Lf.erase n).map V.str))) z (.lst (dn.map V.str ++ [optS (some n)]))) := fun b o e => by
        rw [upd_ne (ne_of_none e nzH), upd_ne (ne_of_none e hlfH)]
        exact s4 _ _ e
      have l6 : (upd (upd H4 lf (.lst ((Lf.erase n).map V.str))) z (.lst (dn.map V.str ++ [optS (some n)]))) lf = some (.lst ((Lf.erase n).map V.str)) := by rw [upd_ne lz, upd_same]
      have z6 : (upd (upd H4 lf (.lst ((Lf.erase n).map V.str))) z (.lst (dn.map V.str ++ [optS (some n)]))) z = some (.lst ((dn ++ [n]).map V.str)) := by rw [upd_same, List.map_append]; rfl
      generalize upd (upd H4 lf (.lst ((Lf.erase n).map V.str))) z (.lst (dn.map V.str ++ [optS (some n)])) = H6 at s6 l6 z6
      refine ⟨_, rfl, _, rfl, lf, D, Lf.erase n, AA, rfl, l6, s6 _ _ hD, by omega, fun H7 s7 => ?_⟩
      refine ⟨dn ++ [n], rfl, s7 _ _ l6, s7 _ _ z6, ?_, s6.trans s7, ?_⟩
      · rw [hln4, lineOf_some hff, List.append_assoc]
        rfl
      · rw [List.length_append]
        show dn.length + 1 + _ ≤ 40
        omega
end
end K0
end
section
set_option Elab.async false
set_option linter.all false
set_option maxRecDepth 100000
set_option maxHeartbeats 4000000
namespace K0
open PySem PySem.Spec PyProof.Rows L2
/-! ### three that go round -/
abbrev Tri : Type := Str × Str × Str
def turnT (A : List Row) (a b c : Str) : Option Tri :=
  if (a, b) ∈ A ∧ (b, c) ∈ A ∧ (c, a) ∈ A then some (a, b, c) else if (a, c) ∈ A ∧ (c, b) ∈ A ∧ (b, a) ∈ A then some (a, c, b) else none
def OptT (H : Hp) (v : V) : Option Tri → Prop
  | none => v = .non
  | some t => ∃ a, v = .ref a ∧ H a = some (.tup [.str t.1, .str t.2.1, .str t.2.2])
theorem OptT.same {H H' : Hp} {v : V} {o : Option Tri} (h : OptT H v o) (s : Same H H') : OptT H' v o := by
  cases o with
  | none => exact h
  | some t =>
    obtain ⟨a, e, h⟩ := h
    exact ⟨a, e, s _ _ h⟩
theorem OptT.non {H : Hp} {v : V} {o : Option Tri} (h : OptT H v o) : decide (v = .non) = o.isNone := by
  cases o with
  | none => rw [show v = .non from h]; rfl
  | some t =>
    obtain ⟨a, e, _⟩ := h
    rw [e]
    rfl
abbrev scTurned_N : List Str := ["one", "two", "three", "told"]
abbrev scTurned_S : Stmt := sTurned
theorem scTurned : FnScope scTurned_N ["one", "two", "three", "told"] (defScope sTurned) := ⟨rfl, rfl, rfl, by decide +kernel, rfl, by decide +kernel, by decide +kernel⟩
def spTurned : Sp := fun vs H Q _ => ∃ (a b c : Str) (D : Addr) (A : List Row), vs = [.str a, .str b, .str c, .ref D] ∧ H D = some (.dT (toldD A)) ∧ ∀ H' v, Same H H' → OptT H' v (turnT A a b c) → Q v H'
/-- (x, y) in told -/
def tTold (i j m : Nat) : TT := tTest (tDIn (tTup (tCons (tVar i) (tCons (tVar j) tNil))) (tVar m))
theorem ask_told {σ : L2.St} {H : Hp} {i j m : Nat} {x y : Str} {D : Addr} {A : List Row} {Q : Bool → Hp → Prop} (hi : σ[i]? = some (some (.str x))) (hj : σ[j]? = some (some (.str y))) (hm : σ[m]? = some (some (.ref D))) (hD : H D = some (.dT (toldD A))) (k : ∀ H2, Same H H2 → Q (decide ((x, y) ∈ A)) H2) : tTold i j m σ H Q := by
  refine ⟨_, hi, _, hj, by show 2 ≤ sizeLine; decide, fun t nt => ⟨_, hm, D, _, rfl, DGet.t (k := pkR (x, y)) (same_upd nt _ _ hD) (by rw [upd_same]; rfl), _, rfl, ?_⟩⟩
  rw [told_in]
  exact k _ (same_upd nt)
section
variable {P : Program} {w : World} {K : PySem.W.Frag} {mg : Str → Option Value} {base : Heap} {tS tM tL : Tok}
theorem ok_turned {f : Addr} {fd : FuncData} (F : FnP K "turned" sTurned f fd) (B : Bl mg) : FnOk P w K mg base CX0 1 f fd ["one", "two", "three", "told"] spTurned := by
  refine F.ok scTurned (fun vs H Q E h => ?_) (fun cdv A outer s H vs Q E hr h => ?_)
  · obtain ⟨a, b, c, D, A, rfl, _⟩ := h
    rfl
  · obtain ⟨a, b, c, D, AA, rfl, hD, k⟩ := h
    have hu := hu_of hr
    refine ⟨_, PSs.nox (pss_cons
      (ps_if (PW.pt (pw_and (pt_cmp (pc_din hu (pe_tup (pa_cons (pv 0) (pa_cons (pv 1) pa_nil))) (pv 3))) (pw_and (pt_cmp (pc_din hu (pe_tup (pa_cons (pv 1) (pa_cons (pv 2) pa_nil))) (pv 3))) (pw_and1 (pt_cmp (pc_din hu (pe_tup (pa_cons (pv 2) (pa_cons (pv 0) pa_nil))) (pv 3))))))) (pss_one
      (ps_ret (pe_tup (pa_cons (pv 0) (pa_cons (pv 1) (pa_cons (pv 2) pa_nil)))))) pss_nil)
      (pss_cons
      (ps_if (PW.pt (pw_and (pt_cmp (pc_din hu (pe_tup (pa_cons (pv 0) (pa_cons (pv 2) pa_nil))) (pv 3))) (pw_and (pt_cmp (pc_din hu (pe_tup (pa_cons (pv 2) (pa_cons (pv 1) pa_nil))) (pv 3))) (pw_and1 (pt_cmp (pc_din hu (pe_tup (pa_cons (pv 1) (pa_cons (pv 0) pa_nil))) (pv 3))))))) (pss_one
      (ps_ret (pe_tup (pa_cons (pv 0) (pa_cons (pv 2) (pa_cons (pv 1) pa_nil)))))) pss_nil)
      (pss_one
      (ps_ret pe_non)))), ?_⟩
    refine ask_told rfl rfl rfl hD fun H1 s1 => ?_
    have second : ∀ {H1 : Hp}, Same H H1 → ¬ ((a, b) ∈ AA ∧ (b, c) ∈ AA ∧ (c, a) ∈ AA) → tIfS (tAnd (tTold 0 2 3) (tAnd (tTold 2 1 3) (tTold 1 0 3))) (tSeq (tRet (tTup (tCons (tVar 0) (tCons (tVar 2) (tCons (tVar 1) tNil))))) tNext) tNext { nx := fun σ H' => (tSeq (tRet (tC V.non)) tNext) { nx := fun _ H' => Q .non H', rt := Q } σ H', rt := Q } (start scTurned_N [.str a, .str b, .str c, .ref D]) H1 := fun {H1} s1 n1 => by
      have hn : turnT AA a b c = if (a, c) ∈ AA ∧ (c, b) ∈ AA ∧ (b, a) ∈ AA then some (a, c, b) else none := if_neg n1
      have no : ∀ {H2}, Same H H2 → ¬ ((a, c) ∈ AA ∧ (c, b) ∈ AA ∧ (b, a) ∈ AA) → Q .non H2 := fun {H2} s2 n2 => k H2 .non s2 (by rw [hn, if_neg n2]; rfl)
      refine ask_told rfl rfl rfl (s1 _ _ hD) fun H2 s2 => ?_
      refine ite2 (fun h1 => ?_) (fun h1 => ?_)
      · refine ask_told rfl rfl rfl ((s1.trans s2) _ _ hD) fun H3 s3 => ?_
        refine ite2 (fun h2 => ?_) (fun h2 => ?_)
        · refine ask_told rfl rfl rfl (((s1.trans s2).trans s3) _ _ hD) fun H4 s4 => ?_
          have s14 := ((s1.trans s2).trans s3).trans s4
          refine ite2 (fun h3 => ?_) (fun h3 => ?_)
          · refine ⟨_, rfl, _, rfl, _, rfl, by show 3 ≤ sizeLine; decide, fun t nt => ?_⟩
            refine k _ _ (s14.trans (same_upd nt)) ?_
            rw [hn, if_pos ⟨of_decide_eq_true h1, of_decide_eq_true h2, of_decide_eq_true h3⟩]
            exact ⟨t, rfl, upd_same⟩
          · exact no s14 fun z => h3 (decide_eq_true z.2.2)
        · exact no ((s1.trans s2).trans s3) fun z => h2 (decide_eq_true z.2.1)
      · exact no (s1.trans s2) fun z => h1 (decide_eq_true z.1)
    refine ite2 (fun h1 => ?_) (fun h1 => ?_)
    · refine ask_told rfl rfl rfl (s1 _ _ hD) fun H2 s2 => ?_
      refine ite2 (fun h2 => ?_) (fun h2 => ?_)
      · refine ask_told rfl rfl rfl ((s1.trans s2) _ _ hD) fun H3 s3 => ?_
        have s13 := (s1.trans s2).trans s3
        refine ite2 (fun h3 => ?_) (fun h3 => ?_)
        · refine ⟨_, rfl, _, rfl, _, rfl, by show 3 ≤ sizeLine; decide, fun t nt => ?_⟩
          refine k _ _ (s13.trans (same_upd nt)) ?_
          have : turnT AA a b c = some (a, b, c) := if_pos ⟨of_decide_eq_true h1, of_decide_eq_true h2, of_decide_eq_true h3⟩
          rw [this]
          exact ⟨t, rfl, upd_same⟩
        · exact second s13 fun z => h3 (decide_eq_true z.2.2)
      · exact second (s1.trans s2) fun z => h2 (decide_eq_true z.2.1)
    · exact second s1 fun z => h1 (decide_eq_true z.1)
end
end K0
end
section
set_option Elab.async false
set_option linter.all false
set_option maxRecDepth 100000
set_option maxHeartbeats 8000000
namespace K0
open PySem PySem.Spec PyProof.Rows L2
/-! ### the first three of some names that go round -/
def ring2 (A : List Row) (a : Str) : List Str → Option Tri
  | [] => none
  | b :: cs => (cs.findSome? (turnT A a b)).or (ring2 A a cs)
def ring1 (A : List Row) : List Str → Option Tri
  | [] => none
  | a :: bs => (ring2 A a bs).or (ring1 A bs)
abbrev scRingAt_N : List Str := ["names", "told", "place", "one", "at", "three", "ring"]
abbrev scRingAt_S : Stmt := sRingAt
theorem scRingAt : FnScope scRingAt_N ["names", "told"] (defScope sRingAt) := ⟨rfl, rfl, rfl, by decide +kernel, rfl, by decide +kernel, by decide +kernel⟩
def spRingAt : Sp := fun vs H Q _ => ∃ (t D : Addr) (ns : List Str) (A : List Row), vs = [.ref t, .ref D] ∧ TxR H t ns ∧ H D = some (.dT (toldD A)) ∧ ns.length ≤ 40 ∧ ∀ H' v, Same H H' → OptT H' v (ring1 A ns) → Q v H'
section
variable {P : Program} {w : World} {K : PySem.W.Frag} {mg : Str → Option Value} {base : Heap} {tS tM tL : Tok}
theorem ok_ringat {f fT : Addr} {fd fdT : FuncData} (F : FnP K "_ring_at" sRingAt f fd) (Fturned : FnP K "turned" sTurned fT fdT) (gturned : mg "turned" = some (.ref fT)) (B : Bl mg) : FnOk P w K mg base CX0 2 f fd ["names", "told"] spRingAt := by
  have Gturned : FnOk P w K mg base CX0 1 fT fdT ["one", "two", "three", "told"] spTurned := ok_turned Fturned B
  have bturned : Binds K fdT ["one", "two", "three", "told"] [] := Fturned.bindsN fun _ _ _ _ _ _ us hl => match us, hl with | [_, _, _, _], _ => rfl
  refine F.ok scRingAt (fun vs H Q E h => ?_) (fun cdv A outer s H vs Q E hr h => ?_)
  · obtain ⟨t, D, ns, A, rfl, _⟩ := h
    rfl
  · obtain ⟨t, D, ns, AA, rfl, ht, hD, hl, k⟩ := h
    have hrturned : Room 1 _ := hr
    refine ⟨_, PSs.nox (pss_cons
      (ps_for PassesOwn.never rfl (pi_enumT (by rfl) B.enumerate (pa_cons (pv 0) pa_nil)) (tgK (K := K) (n := 2) (by rfl) (pgs_cons (pg_name (i := 2) scRingAt.nd rfl (Or.inl rfl)) (pgs_cons (pg_name (i := 3) scRingAt.nd rfl (Or.inl rfl)) pgs_nil))) (pss_one
      (ps_for PassesOwn.never rfl (pi_range2 (by rfl) B.range (pa_cons (pe_op op_add (pv 2) pe_int) (pa_cons (pe_callB (lenK (K := K)) (by rfl) B.len PySem.boot_len (pa_cons (pv 0) pa_nil)) pa_nil))) (pg_name (i := 4) scRingAt.nd rfl (Or.inl rfl)) (pss_one
      (ps_for PassesOwn.never rfl (pi_tup (pe_slice (sl_tupAK (K := K)) (pv 0) (po_some (pe_op op_add (pv 4) pe_int)) po_none)) (pg_name (i := 5) scRingAt.nd rfl (Or.inl rfl)) (pss_cons
      (ps_set (i := 6) scRingAt.nd rfl (Or.inl rfl) (pe_call Gturned hrturned (by rfl) gturned Fturned.kp bturned .nil pass0 (pa_cons (pv 3) (pa_cons (pe_ix (ixTK (K := K)) (pv 0) (pv 4) (fun _ _ => rfl)) (pa_cons (pv 5) (pa_cons (pv 1) pa_nil))))))
      (pss_one
      (ps_if (pt_cmpR op_notN (pv 6) pe_non (nomark _)) (pss_one
      (ps_ret (pv 6))) pss_nil))))))))
      (pss_one
      (ps_ret pe_non))), ?_⟩
    have hnl : (ns.map V.str).length = ns.length := List.length_map _
    refine ⟨_, rfl, t, _, rfl, .inl ht, ?_⟩
    refine for_it (walk_enumT (K := K) (a := t) (xs := ns.map V.str)) (fun i σ H2 => ∃ (v2 v3 v4 v5 v6 : Option V), σ = [some (.ref t), some (.ref D), v2, v3, v4, v5, v6] ∧ Same H H2 ∧ ring1 AA ns = ring1 AA (ns.drop i))
      ⟨_, _, _, _, _, rfl, .refl _, rfl⟩ (fun _ _ _ _ h => by obtain ⟨_, _, _, _, _, _, s, _⟩ := h; exact .inl (ht.same s)) ?_ ?_
    · rintro i x σ H2 H3 hi ⟨v2, v3, v4, v5, v6, rfl, s2, hr1⟩ ⟨T, x1, x2, rfl, hT, rfl, e1, e2⟩
      rw [hnl] at hi
      cases e1
      have e2 : (ns.map V.str)[i]? = some x2 := e2
      rw [List.getElem?_map, List.getElem?_eq_getElem hi] at e2
      obtain rfl : V.str ns[i] = x2 := Option.some.inj e2
      have hdr : ns.drop i = ns[i] :: ns.drop (i + 1) := List.drop_eq_getElem_cons hi
      have s3 : Same H (upd H2 T (.tup [.int (i : Nat), .str ns[i]])) := s2.trans (same_upd hT)
      refine ⟨T, _, rfl, .inl (.inl upd_same), rfl, _, _, rfl, _, _, rfl, rfl, ?_⟩
      generalize upd H2 T (.tup [.int (i : Nat), .str ns[i]]) = H3 at s3
      rw [hdr] at hr1
      have hq1 : ring1 AA ns = (ring2 AA ns[i] (ns.drop (i + 1))).or (ring1 AA (ns.drop (i + 1))) := hr1
      clear hr1
      generalize ns[i] = a at hq1
      -- the middle one
      refine ⟨_, rfl, _, _, rfl, rfl, _, rfl, t, _, rfl, .inr (.inl (ht.same s3)), ?_⟩
      rw [hnl]
      refine ⟨_, _, rfl, ⟨by omega, by omega, by omega, by omega⟩, ?_⟩
      refine for_range (n := ((ns.length : Int) - ((i : Int) + 1)).toNat) (lo := (i : Int) + 1) (fun j σ H4 => ∃ (v4 v5 v6 : Option V), σ = [some (.ref t), some (.ref D), some (.int (i : Nat)), some (.str a), v4, v5, v6] ∧ Same H H4 ∧ ring2 AA a (ns.drop (i + 1)) = ring2 AA a (ns.drop (i + 1 + j)))
        ⟨_, _, _, rfl, s3, rfl⟩ ?_ ?_
      · rintro j σ H4 hj ⟨w4, w5, w6, rfl, s4, hr2⟩
        have hm : i + 1 + j < ns.length := by omega
        have eat : ((i : Int) + 1) + (j : Int) = ((i + 1 + j : Nat) : Int) := by omega
        rw [eat]
        have hdr2 : ns.drop (i + 1 + j) = ns[i + 1 + j] :: ns.drop (i + 1 + j + 1) := List.drop_eq_getElem_cons hm
        rw [hdr2] at hr2
        have hq2 : ring2 AA a (ns.drop (i + 1)) = ((ns.drop (i + 1 + j + 1)).findSome? (turnT AA a ns[i + 1 + j])).or (ring2 AA a (ns.drop (i + 1 + j + 1))) := hr2
        clear hr2
        have hbm : ns[i + 1 + j]? = some ns[i + 1 + j] := List.getElem?_eq_getElem hm
        generalize ns[i + 1 + j] = b at hq2 hbm
        generalize hme : i + 1 + j = m at hm hq2 hbm ⊢
        -- the third
        have hcut : cutV (ns.map V.str) (some ((m : Int) + 1)) none = (ns.drop (m + 1)).map V.str := by
          have e := cut_drop (ns.map V.str) (m + 1)
          rw [List.map_drop]
          exact e
        refine ⟨_, rfl, _, rfl, _, _, rfl, rfl, _, rfl, t, _, rfl, .inl (ht.same s4), fun hw => ?_, fun hw u nu => ?_⟩
        · have e := HT.sIx_nat (ns.map V.str).length 0 (m + 1)
          have h1 := hw.1
          rw [show ((m : Int) + 1) = ((m + 1 : Nat) : Int) by omega, e, List.length_map] at h1
          omega
        rw [hcut]
        have s5 : Same H (upd H4 u (.tup ((ns.drop (m + 1)).map V.str))) := s4.trans (same_upd nu)
        have hu5 : (upd H4 u (.tup ((ns.drop (m + 1)).map V.str))) u = some (.tup ((ns.drop (m + 1)).map V.str)) := upd_same
        generalize upd H4 u (.tup ((ns.drop (m + 1)).map V.str)) = H5 at s5 hu5
        refine ⟨u, rfl, ⟨_, .inl (.inl hu5)⟩, ?_⟩
        refine for_tup (K := K) (a := u) (xs := (ns.drop (m + 1)).map V.str) (fun l σ H6 => ∃ (v5 v6 : Option V), σ = [some (.ref t), some (.ref D), some (.int (i : Nat)), some (.str a), some (.int (m : Nat)), v5, v6] ∧ Same H H6 ∧ H6 u = some (.tup ((ns.drop (m + 1)).map V.str)) ∧ (ns.drop (m + 1)).findSome? (turnT AA a b) = ((ns.drop (m + 1)).drop l).findSome? (turnT AA a b))
          ⟨_, _, rfl, s5, hu5, rfl⟩ (fun l σ H6 _ h => by obtain ⟨_, _, _, _, h, _⟩ := h; exact .inl (.inl h)) ?_ ?_
        · rintro l x σ H6 hx ⟨z5, z6, rfl, s6, hu6, hr3⟩
          rw [List.getElem?_map] at hx
          obtain ⟨c, hc, rfl⟩ := Option.map_eq_some_iff.mp hx
          have hdr3 : (ns.drop (m + 1)).drop l = c :: (ns.drop (m + 1)).drop (l + 1) := by
            obtain ⟨hlt, e⟩ := List.getElem?_eq_some_iff.mp hc
            rw [List.drop_eq_getElem_cons hlt, e]
          rw [hdr3, List.findSome?_cons] at hr3
          refine ⟨_, rfl, _, rfl, _, rfl, t, _, _, .str b, rfl, rfl, .inl (ht.same s6), atI_nat (j := m) (by rw [List.getElem?_map, hbm]; rfl), _, rfl, _, rfl, a, b, c, D, AA, rfl, s6 _ _ hD, fun H7 v s7 ho => ?_⟩
          refine ⟨_, rfl, rfl, _, rfl, ?_⟩
          rw [ho.non]
          cases htr : turnT AA a b c with
          | none =>
            rw [htr] at hr3
            exact iteF ⟨_, _, rfl, s6.trans s7, s7 _ _ hu6, hr3⟩
          | some tr =>
            rw [htr] at hr3 ho
            refine iteT ⟨_, rfl, k H7 v (s6.trans s7) ?_⟩
            have e2 : ring2 AA a (ns.drop (i + 1)) = some tr := by rw [hq2, hr3]; rfl
            have e1 : ring1 AA ns = some tr := by rw [hq1, e2]; rfl
            rw [e1]
            exact ho
        · rintro σ H6 ⟨z5, z6, rfl, s6, hu6, hr3⟩
          rw [List.length_map, List.drop_length] at hr3
          have hr3 : (ns.drop (m + 1)).findSome? (turnT AA a b) = none := hr3
          refine ⟨_, _, _, rfl, s6, ?_⟩
          rw [hq2, hr3, ← Nat.add_assoc, hme]
          rfl
      · rintro σ H4 ⟨w4, w5, w6, rfl, s4, hr2⟩
        have e : i + 1 + ((ns.length : Int) - ((i : Int) + 1)).toNat = ns.length := by omega
        rw [e, List.drop_length] at hr2
        refine ⟨_, _, _, _, _, rfl, s4, ?_⟩
        rw [hq1, hr2]
        rfl
    · rintro σ H2 ⟨v2, v3, v4, v5, v6, rfl, s2, hr1⟩
      rw [hnl, List.drop_length] at hr1
      exact k H2 .non s2 (by rw [hr1]; rfl)
end
end K0
end
section
set_option Elab.async false
set_option linter.all false
set_option maxRecDepth 100000
set_option maxHeartbeats 4000000
namespace K0
open PySem PySem.Spec PyProof.Rows L2
/-! ### the first weir with such three -/
def firstRing (A : List Row) (R : List Row) (B : List RRow) (ws : List Str) : Option (Str × Tri) := ws.findSome? fun w => (ring1 A (passR R B w)).map fun r => (w, r)
def OptR (H : Hp) (v : V) : Option (Str × Tri) → Prop
  | none => v = .non
  | some r => ∃ t u, v = .ref t ∧ H t = some (.tup [.str "ring", .str r.1, .ref u]) ∧ H u = some (.tup [.str r.2.1, .str r.2.2.1, .str r.2.2.2])
theorem OptR.same {H H' : Hp} {v : V} {o : Option (Str × Tri)} (h : OptR H v o) (s : Same H H') : OptR H' v o := by
  cases o with
  | none => exact h
  | some t =>
    obtain ⟨a, u, e, h1, h2⟩ := h
    exact ⟨a, u, e, s _ _ h1, s _ _ h2⟩
abbrev scFirstRing_N : List Str := ["rights", "told", "weir", "ring"]
abbrev scFirstRing_S : Stmt := sFirstRing
theorem scFirstRing : FnScope scFirstRing_N ["rights", "told"] (defScope sFirstRing) := ⟨rfl, rfl, rfl, by decide +kernel, rfl, by decide +kernel, by decide +kernel⟩
def spFirstRing (Cg Cr : Addr) : Sp := fun vs H Q _ => ∃ (p q D : Addr) (A : List Row) (AR : List (Addr × Row)) (BR : List (Addr × RRow)), vs = [.ref p, .ref D] ∧ RigOk Cg Cr H p q AR BR ∧ H D = some (.dT (toldD A)) ∧ ∀ H' v, Same H H' → OptR H' v (firstRing A (rowsOf AR) (bOf BR) (namesOf AR)) → Q v H'
section
variable {P : Program} {w : World} {K : PySem.W.Frag} {mg : Str → Option Value} {base : Heap} {tS tM tL : Tok}
theorem ok_firstring {f fA fT fP Cg Cr : Addr} {fd fdA fdT fdP : FuncData} (F : FnP K "_first_ring" sFirstRing f fd) (F_ring_at : FnP K "_ring_at" sRingAt fA fdA) (g_ring_at : mg "_ring_at" = some (.ref fA)) (Fturned : FnP K "turned" sTurned fT fdT) (gturned : mg "turned" = some (.ref fT)) (Fpassing : FnM K "passing" "Rights.passing" sGPassing fP fdP) (Mpassing : Meth K Cg "passing" fP) (DW : NdS P w K mg base Cr) (TG : Rg K mg Cg) (T : Rv K mg Cr) (B : Bl mg) : FnOk P w K mg base CX0 4 f fd ["rights", "told"] (spFirstRing Cg Cr) := by
  have G_ring_at : FnOk P w K mg base CX0 2 fA fdA ["names", "told"] spRingAt := ok_ringat F_ring_at Fturned gturned B
  have b_ring_at : Binds K fdA ["names", "told"] [] := F_ring_at.bindsN fun _ _ _ _ _ _ us hl => match us, hl with | [_, _], _ => rfl
  have Gpassing : FnOk P w K mg base CX0 3 fP fdP ["self", "weir"] (spPassG Cg Cr) := ok_passG Fpassing DW TG
  have bpassing : Binds K fdP ["self", "weir"] [] := Fpassing.bindsN fun _ _ _ _ _ _ us hl => match us, hl with | [_, _], _ => rfl
  refine F.ok scFirstRing (fun vs H Q E h => ?_) (fun cdv A outer s H vs Q E hr h => ?_)
  · obtain ⟨p, q, D, AA, AR, BR, rfl, _⟩ := h
    rfl
  · obtain ⟨p, q, D, AA, AR, BR, rfl, R, hD, k⟩ := h
    have hr_ring_at : Room 2 _ := hr.mono (by decide)
    have hrpassing : Room 3 _ := hr
    refine ⟨_, PSs.nox (pss_cons
      (ps_for PassesOwn.never rfl (pi_tup (fldK (K := K) (fldK (K := K) (pv 0) rfl) rfl)) (pg_name (i := 2) scFirstRing.nd rfl (Or.inl rfl)) (pss_cons
      (ps_set (i := 3) scFirstRing.nd rfl (Or.inl rfl) (pe_call G_ring_at hr_ring_at (by rfl) g_ring_at F_ring_at.kp b_ring_at .nil pass0 (pa_cons (pe_meth (pv 0) TG.cl Mpassing Gpassing hrpassing bpassing .nil pass0 (pa_cons (pv 2) pa_nil)) (pa_cons (pv 1) pa_nil))))
      (pss_one
      (ps_if (pt_cmpR op_notN (pv 3) pe_non (nomark _)) (pss_one
      (ps_ret (pe_tup (pa_cons pe_str (pa_cons (pv 2) (pa_cons (pv 3) pa_nil)))))) pss_nil))))
      (pss_one
      (ps_ret pe_non))), ?_⟩
    have hb := R.b
    have hm := hb.most
    obtain ⟨dx, tn, tr, dw, dl, dp, h1, h2, h3, h4, h5, h6, h7⟩ := id R.at_.ex
    obtain ⟨ex, tw, tr2, db, dc, da, du, o3, e1, e2, _⟩ := id h2.ex
    refine ⟨_, rfl, p, Cg, dx, _, _, rfl, h1, TG.cl, TG.river, rr6r _ _ _ _ _ _, q, Cr, ex, _, _, rfl, e1, T.cl, T.weirs, g7w _ _ _ _ _ _ _, tw, rfl, ⟨_, .inl (.inl e2)⟩, ?_⟩
    refine for_tup (K := K) (a := tw) (xs := (namesOf AR).map V.str) (fun i σ H2 => ∃ v2 v3, σ = [some (.ref p), some (.ref D), v2, v3] ∧ Same H H2 ∧ firstRing AA (rowsOf AR) (bOf BR) (namesOf AR) = firstRing AA (rowsOf AR) (bOf BR) ((namesOf AR).drop i))
      ⟨_, _, rfl, .refl _, rfl⟩ (fun i σ H2 _ h => by obtain ⟨_, _, _, s, _⟩ := h; exact .inl (.inl (s _ _ e2))) ?_ ?_
    · rintro i x σ H2 hx ⟨v2, v3, rfl, s2, hf⟩
      rw [List.getElem?_map] at hx
      obtain ⟨y, hy, rfl⟩ := Option.map_eq_some_iff.mp hx
      have hym : y ∈ namesOf AR := List.mem_of_getElem? hy
      have hdr : (namesOf AR).drop i = y :: (namesOf AR).drop (i + 1) := by
        obtain ⟨hlt, e⟩ := List.getElem?_eq_some_iff.mp hy
        rw [List.drop_eq_getElem_cons hlt, e]
      rw [hdr] at hf
      unfold firstRing at hf
      rw [List.findSome?_cons] at hf
      refine ⟨_, rfl, p, dx, _, rfl, s2 _ _ h1, rr6no _ _ _ _ _ _ (by decide +kernel), _, rfl, p, q, y, AR, BR, rfl, R.same s2, hym, fun t ht => ?_⟩
      refine ⟨_, rfl, t, D, _, AA, rfl, ht, s2 _ _ hD, Nat.le_trans (List.length_filter_le _ _) (by rw [show (rnm (bOf BR)).length = (bOf BR).length from List.length_map _]; omega), fun H3 v s3 ho => ?_⟩
      refine ⟨_, rfl, rfl, _, rfl, ?_⟩
      rw [ho.non]
      cases htr : ring1 AA (passR (rowsOf AR) (bOf BR) y) with
      | none =>
        rw [htr] at hf
        exact iteF ⟨_, _, rfl, s2.trans s3, hf⟩
      | some tr =>
        rw [htr] at hf ho
        obtain ⟨u, rfl, hu⟩ := ho
        refine iteT ⟨_, rfl, _, rfl, by show 3 ≤ sizeLine; decide, fun z nz => ?_⟩
        have s4 : Same H3 (upd H3 z (.tup [.str "ring", .str y, .ref u])) := same_upd nz
        refine k _ _ ((s2.trans s3).trans s4) ?_
        have e : firstRing AA (rowsOf AR) (bOf BR) (namesOf AR) = some (y, tr) := hf
        rw [e]
        exact ⟨z, u, rfl, upd_same, s4 _ _ hu⟩
    · rintro σ H2 ⟨v2, v3, rfl, s2, hf⟩
      rw [List.length_map, List.drop_length] at hf
      refine k H2 .non s2 ?_
      rw [hf]
      rfl
end
end K0
end
section
set_option Elab.async false
set_option linter.all false
set_option maxRecDepth 100000
set_option maxHeartbeats 4000000
namespace L2
open PySem PySem.Spec PyProof.Rows
theorem dcT_list {K : PySem.W.Frag} {a : Addr} {xs : List V} {g : TG} {tk tv : TE} {vs : List Nat} {σ : St} {H1 : Hp} {L : Addr} {Qd : Hp → Prop} (Pv : Nat → Hp → Prop) (h0 : Pv 0 (upd H1 L (.dT []))) (hl : ∀ i H, i ≤ xs.length → Pv i H → SqL K H a xs)
    (hs : ∀ i x H, xs[i]? = some x → Pv i H → g x (wipe σ vs) H fun σ2 H2 => wipe σ2 vs = wipe σ vs ∧ tk σ2 H2 fun y H4 => tv σ2 H4 fun z H5 => ∃ kvs k b, y = .ref b ∧ H5 b = some (.tup (k.map kV)) ∧ H5 L = some (.dT kvs) ∧ kvs.length < sizeLine ∧ Pv (i + 1) (upd H5 L (.dT (putK kvs k z)))) (hd : ∀ H, Pv xs.length H → Qd H) :
    ∃ W : Nat → Nat → Hp → Prop, (∃ m, W 0 m (upd H1 L (.dT []))) ∧ ∀ i m H, W i m H → ((Itl K a).stop i H ∧ Qd H) ∨ ((Itl K a).go i H ∧ ∃ Nx : Hp → Prop, (∀ H', Nx H' → ∃ m', m' < m ∧ W (i + 1) m' H') ∧ ∀ x H', (Itl K a).yld i H x H' → g x (wipe σ vs) H' fun σ2 H2 => wipe σ2 vs = wipe σ vs ∧
      tk σ2 H2 fun y H4 => tv σ2 H4 fun z H5 => ∃ kvs k b, y = .ref b ∧ H5 b = some (.tup (k.map kV)) ∧ H5 L = some (.dT kvs) ∧ kvs.length < sizeLine ∧ Nx (upd H5 L (.dT (putK kvs k z)))) := by
  refine ⟨fun i m H => m = xs.length - i ∧ i ≤ xs.length ∧ Pv i H, ⟨_, rfl, Nat.zero_le _, h0⟩, fun i m H ⟨em, hi, p⟩ => ?_⟩
  have q := hl i H hi p
  rcases Nat.lt_or_ge i xs.length with lt | ge
  · refine .inr ⟨⟨xs, xs[i], q, List.getElem?_eq_getElem lt⟩, Pv (i + 1), fun H' p' => ⟨xs.length - (i + 1), by omega, rfl, lt, p'⟩, fun x H' ⟨e, y⟩ => ?_⟩
    rw [e]
    exact hs i x H (y xs q) p
  · obtain rfl : i = xs.length := by omega
    exact .inl ⟨⟨xs, q, Nat.le_refl _⟩, hd H p⟩
end L2
namespace K0
open PySem PySem.Spec PyProof.Rows L2
theorem toldD_take {A : List Row} {i : Nat} {r : Row} (h : A[i]? = some r) : toldD (A.take (i + 1)) = putK (toldD (A.take i)) (pkR r) (.bl true) := by
  unfold toldD
  rw [List.take_add_one, h, List.map_append]
  exact List.foldl_append
theorem toldD_len (A : List Row) : (toldD A).length ≤ A.length := by
  have := trueT_len (A.map pkR) []
  rw [List.length_map, List.length_nil, Nat.zero_add] at this
  exact this
/-! ### len(rights) -/
abbrev sGLen : Stmt := inClass sRights 2
theorem scGLen : FnScope ["self"] ["self"] (defScope sGLen) := ⟨rfl, rfl, rfl, by decide +kernel, rfl, by decide +kernel, by decide +kernel⟩
abbrev GLenG (Cg Cr : Addr) : Hp → Addr → Nat → Prop := fun H p n => ∃ q AR BR, RigOk Cg Cr H p q AR BR ∧ n = (rnm (bOf BR)).length
structure Ln (K : PySem.W.Frag) (Cg : Addr) : Prop where
  ex : ∃ f fd, FnM K "__len__" "Rights.__len__" sGLen f fd ∧ PySem.W.findIn K (.ref Cg) "__len__" = some (some (.ref f)) ∧ PySem.W.isFn K (.ref f) = true
/-! ### line_up -/
def LineUp (H : Hp) (v : V) (A R : List Row) (B : List RRow) (ws : List Str) : Prop :=
  if (lineOf A (rnm B)).length < (rnm B).length then OptR H v (firstRing A R B ws) else ∃ t u, v = .ref t ∧ H t = some (.tup [.str "line", .ref u]) ∧ FT H u (lineOf A (rnm B))
abbrev scLineUp_N : List Str := ["rights", "ahead", "told", "line", "pair"]
abbrev scLineUp_S : Stmt := sLineUp
theorem scLineUp : FnScope scLineUp_N ["rights", "ahead"] (defScope sLineUp) := ⟨rfl, rfl, rfl, by decide +kernel, rfl, by decide +kernel, by decide +kernel⟩
def spLineUp (Cg Cr : Addr) : Sp := fun vs H Q _ => ∃ (p q l : Addr) (AP AR : List (Addr × Row)) (BR : List (Addr × RRow)), vs = [.ref p, .ref l] ∧ RigOk Cg Cr H p q AR BR ∧ RowsAt H l AP ∧ AP.length ≤ 1640 ∧ ∀ H' v, Same H H' → LineUp H' v (rowsOf AP) (rowsOf AR) (bOf BR) (namesOf AR) → Q v H'
section
variable {P : Program} {w : World} {K : PySem.W.Frag} {mg : Str → Option Value} {base : Heap} {tS tM tL : Tok}
theorem ok_glen {f Cg Cr : Addr} {fd : FuncData} (F : FnM K "__len__" "Rights.__len__" sGLen f fd) (TG : Rg K mg Cg) (B : Bl mg) : FnOk P w K mg base CX0 1 f fd ["self"] (spLenG (GLenG Cg Cr)) := by
  refine F.ok scGLen (fun vs H Q E h => ?_) (fun cdv A outer s H vs Q E hr h => ?_)
  · obtain ⟨p, n, rfl, _⟩ := h
    rfl
  · obtain ⟨p, n, rfl, ⟨q, AR, BR, R, rfl⟩, hn, k⟩ := h
    refine ⟨_, PSs.nox (pss_one (ps_ret (pe_callB (lenK (K := K)) (by rfl) B.len PySem.boot_len (pa_cons (fldK (K := K) (pv 0) rfl) pa_nil)))), ?_⟩
    obtain ⟨dx, tn, tr, dw, dl, dp, h1, h2, h3, h4, h5, h6, h7⟩ := id R.at_.ex
    refine ⟨_, rfl, p, Cg, dx, _, _, rfl, h1, TG.cl, TG.names, rr6n _ _ _ _ _ _, tn, _, rfl, .inr (.inl h3), ?_⟩
    rw [List.length_map]
    exact k
theorem ok_lineup {f fL fF fR fA fT fP Cg Cr : Addr} {fd fdL fdF fdR fdA fdT fdP : FuncData} (F : FnP K "line_up" sLineUp f fd) (F_line : FnP K "_line" sLine fL fdL) (g_line : mg "_line" = some (.ref fL)) (F_first_free : FnP K "_first_free" sFirstFree fF fdF) (g_first_free : mg "_first_free" = some (.ref fF)) (F_first_ring : FnP K "_first_ring" sFirstRing fR fdR) (g_first_ring : mg "_first_ring" = some (.ref fR))
    (F_ring_at : FnP K "_ring_at" sRingAt fA fdA) (g_ring_at : mg "_ring_at" = some (.ref fA)) (Fturned : FnP K "turned" sTurned fT fdT) (gturned : mg "turned" = some (.ref fT)) (Fpassing : FnM K "passing" "Rights.passing" sGPassing fP fdP) (Mpassing : Meth K Cg "passing" fP) (N : Ln K Cg) (DW : NdS P w K mg base Cr) (TG : Rg K mg Cg) (T : Rv K mg Cr) (B : Bl mg) : FnOk P w K mg base CX0 5 f fd ["rights", "ahead"] (spLineUp Cg Cr) := by
  obtain ⟨fN, fdN, FN, hs, hf⟩ := N.ex
  have GN : FnOk P w K mg base CX0 1 fN fdN ["self"] (spLenG (GLenG Cg Cr)) := ok_glen FN TG B
  have bN : Binds K fdN ["self"] [] := FN.bindsN fun _ _ _ _ _ _ us hl => match us, hl with | [_], _ => rfl
  have G_line : FnOk P w K mg base CX0 2 fL fdL ["rights", "told"] (spLine Cg Cr) := ok_line F_line F_first_free g_first_free TG B
  have b_line : Binds K fdL ["rights", "told"] [] := F_line.bindsN fun _ _ _ _ _ _ us hl => match us, hl with | [_, _], _ => rfl
  have G_first_ring : FnOk P w K mg base CX0 4 fR fdR ["rights", "told"] (spFirstRing Cg Cr) := ok_firstring F_first_ring F_ring_at g_ring_at Fturned gturned Fpassing Mpassing DW TG T B
  have b_first_ring : Binds K fdR ["rights", "told"] [] := F_first_ring.bindsN fun _ _ _ _ _ _ us hl => match us, hl with | [_, _], _ => rfl
  refine F.ok scLineUp (fun vs H Q E h => ?_) (fun cdv A outer s H vs Q E hr h => ?_)
  · obtain ⟨p, q, l, AP, AR, BR, rfl, _⟩ := h
    rfl
  · obtain ⟨p, q, l, AP, AR, BR, rfl, R, hA, hAl, k⟩ := h
    have hu := hu_of hr
    have hr_line : Room 2 _ := hr.mono (by decide)
    have hr_first_ring : Room 4 _ := hr
    have hrN : Room 2 _ := hr.mono (by decide)
    refine ⟨_, PSs.nox (pss_cons
      (k0_setDcT (i := 2) (own := [("pair", 4)]) (g := gName 4) (Nat.lt_of_succ_lt hu) rfl scLineUp.nd rfl rfl (k0_sw rfl rfl rfl (by decide +kernel)) (pi_list (pv 1)) (blkOk_by (own := [("pair", 4)]) (N := scLineUp_N) (sc := defScope scLineUp_S) (by decide +kernel)) (fun _ _ _ _ _ => (pg_name (i := 4) scLineUp.nd rfl (Or.inl rfl))) (fun _ _ _ _ _ => (pv 4)) (fun _ _ _ _ _ => pe_bl))
      (pss_cons
      (ps_set (i := 3) scLineUp.nd rfl (Or.inl rfl) (pe_call G_line hr_line (by rfl) g_line F_line.kp b_line .nil pass0 (pa_cons (pv 0) (pa_cons (pv 2) pa_nil))))
      (pss_cons
      (ps_if (pt_cmpR op_lt (pe_callB (lenK (K := K)) (by rfl) B.len PySem.boot_len (pa_cons (pv 3) pa_nil)) (pe_callB (k0_len_own (X := _) (k := 1) (C := Cg) GN hrN hs hf bN) (by rfl) B.len PySem.boot_len (pa_cons (pv 0) pa_nil)) (nomark _)) (pss_one
      (ps_ret (pe_call G_first_ring hr_first_ring (by rfl) g_first_ring F_first_ring.kp b_first_ring .nil pass0 (pa_cons (pv 0) (pa_cons (pv 2) pa_nil))))) pss_nil)
      (pss_one
      (ps_ret (pe_tup (pa_cons pe_str (pa_cons (pe_callTy (tupleF (K := K)) (by rfl) B.tuple (by decide +kernel) (pa_cons (pv 3) pa_nil)) pa_nil)))))))), ?_⟩
    have hm := R.b.most
    have hln : (rnm (bOf BR)).length = (bOf BR).length := List.length_map _
    have hAr : (rowsOf AP).length = AP.length := List.length_map _
    have z40 : 40000 ≤ sizeLine := by rw [sizeLine_eq]; omega
    refine ⟨_, rfl, l, rfl, ⟨_, .inl (.inl hA.lst)⟩, fun D hD => ?_⟩
    refine dcT_list (K := K) (a := l) (xs := AP.map fun q => V.ref q.1) (fun i H2 => Same H H2 ∧ H2 D = some (.dT (toldD ((rowsOf AP).take i)))) ⟨same_upd hD, upd_same⟩ (fun i H2 _ h => .inl (.inl (h.1 _ _ hA.lst))) ?_ ?_
    · rintro i x H2 hx ⟨s2, hD2⟩
      have hi : i < AP.length := by
        have := (List.getElem?_eq_some_iff.mp hx).1
        rw [List.length_map] at this
        exact this
      rw [List.getElem?_map, List.getElem?_eq_getElem hi] at hx
      obtain rfl : V.ref AP[i].1 = x := Option.some.inj hx
      have hri : (rowsOf AP)[i]? = some AP[i].2 := by rw [List.getElem?_map, List.getElem?_eq_getElem hi]; rfl
      have ht := s2 _ _ (hA.tup _ (List.getElem_mem hi))
      refine ⟨rfl, _, rfl, _, pkR AP[i].2, AP[i].1, rfl, ht, hD2, ?_, fun b o e => ?_, ?_⟩
      · have := toldD_len ((rowsOf AP).take i)
        rw [List.length_take] at this
        omega
      · rw [upd_ne (ne_of_none e hD)]
        exact s2 _ _ e
      · rw [upd_same, toldD_take hri]
    rintro H2 ⟨s2, hD2⟩
    rw [List.length_map, ← hAr, List.take_length] at hD2
    -- the line
    refine ⟨_, rfl, _, rfl, p, q, D, rowsOf AP, AR, BR, rfl, R.same s2, hD2, fun H3 z s3 nz hz => ?_⟩
    have s13 := s2.trans s3
    have R3 := R.same s13
    obtain ⟨dx, tn, tr, dw, dl, dp, h1, _⟩ := id R3.at_.ex
    refine ⟨_, rfl, z, _, rfl, .inl (.inl (.inl hz)), _, rfl, p, dx, _, _, rfl, h1, ⟨q, AR, BR, R3, rfl⟩, by omega, _, _, rfl, rfl, _, rfl, ?_⟩
    rw [List.length_map]
    refine ite2 (fun h => ?_) (fun h => ?_)
    · have h : (lineOf (rowsOf AP) (rnm (bOf BR))).length < (rnm (bOf BR)).length := by
        have := of_decide_eq_true h
        omega
      refine ⟨_, rfl, _, rfl, p, q, D, rowsOf AP, AR, BR, rfl, R3, s3 _ _ hD2, fun H4 v s4 ho => k H4 v (s13.trans s4) ?_⟩
      unfold LineUp
      rw [if_pos h]
      exact ho
    · have h : ¬ (lineOf (rowsOf AP) (rnm (bOf BR))).length < (rnm (bOf BR)).length := fun z => h (decide_eq_true (by omega))
      refine ⟨_, rfl, z, _, rfl, .inl (.inl hz), fun u o nu po => ?_⟩
      have s4 : Same H3 (upd H3 u (.frz o (.tup ((lineOf (rowsOf AP) (rnm (bOf BR))).map V.str)))) := same_upd nu
      have hu4 : FT (upd H3 u (.frz o (.tup ((lineOf (rowsOf AP) (rnm (bOf BR))).map V.str)))) u (lineOf (rowsOf AP) (rnm (bOf BR))) := ⟨o, po, upd_same⟩
      generalize upd H3 u (.frz o (.tup ((lineOf (rowsOf AP) (rnm (bOf BR))).map V.str))) = H4 at s4 hu4
      refine ⟨by show 2 ≤ sizeLine; decide, fun t nt => ?_⟩
      have s5 : Same H4 (upd H4 t (.tup [.str "line", .ref u])) := same_upd nt
      refine k _ _ ((s13.trans s4).trans s5) ?_
      unfold LineUp
      rw [if_neg h]
      exact ⟨t, u, rfl, upd_same, hu4.same s5⟩
end
end K0
end
section
set_option Elab.async false
set_option linter.all false
set_option maxRecDepth 100000
namespace K0
open PySem PySem.Spec PyProof.Rows L2
/-! ### a line, or three that go round -/
/-- the line told: no two ways about it -/
theorem lineOf_sub {A : List Row} : ∀ (k : Nat) (L : List Str), ∀ y ∈ goLine A k L, y ∈ L
  | 0, L => fun y h => by cases h
  | k + 1, L => fun y h => by
    simp only [goLine] at h
    cases e : firstFree A L with
    | none => rw [e] at h; cases h
    | some n =>
      rw [e] at h
      rcases List.mem_cons.mp h with z | z
      · rw [z]; exact ff_mem e
      · exact List.mem_of_mem_erase (lineOf_sub k _ y z)
theorem lineOf_nd {A : List Row} : ∀ (k : Nat) (L : List Str), L.Nodup → (goLine A k L).Nodup
  | 0, L, _ => List.nodup_nil
  | k + 1, L, hd => by
    simp only [goLine]
    cases e : firstFree A L with
    | none => exact List.nodup_nil
    | some n =>
      refine List.nodup_cons.mpr ⟨fun h => ?_, lineOf_nd k _ (hd.erase n)⟩
      have := lineOf_sub k _ n h
      exact (hd.mem_erase_iff.mp this).1 rfl
/-- none stands ahead of a free one -/
theorem ff_free {A : List Row} {L : List Str} {n : Str} (h : firstFree A L = some n) : ∀ x ∈ L, (x, n) ∉ A := fun x hx z => by
  have := List.find?_some h
  have hb : behind A L n = true := List.any_eq_true.mpr ⟨x, hx, decide_eq_true z⟩
  rw [hb] at this
  cases this
theorem lineOf_ord {A : List Row} : ∀ (k : Nat) (L : List Str), L.Nodup → ∀ (i : Nat) (y x : Str), (goLine A k L)[i]? = some y → x ∈ L → (x, y) ∈ A → x ∈ (goLine A k L).take i
  | 0, L, _ => fun i y x h => by simp [goLine] at h
  | k + 1, L, hd => fun i y x h hx ha => by
    simp only [goLine] at h ⊢
    cases e : firstFree A L with
    | none => rw [e] at h; simp at h
    | some n =>
      rw [e] at h
      cases i with
      | zero =>
        have : n = y := by simpa using h
        rw [← this] at ha
        exact absurd ha (ff_free e x hx)
      | succ i =>
        have h : (goLine A k (L.erase n))[i]? = some y := by simpa using h
        show x ∈ n :: (goLine A k (L.erase n)).take i
        by_cases q : x = n
        · rw [q]; exact List.mem_cons_self
        · exact List.mem_cons_of_mem _ (lineOf_ord k _ (hd.erase n) i y x h (hd.mem_erase_iff.mpr ⟨q, hx⟩) ha)
/-- where the line ends early, each one left over has one left over ahead of it -/
theorem lineOf_left {A : List Row} : ∀ (k : Nat) (L : List Str), L.Nodup → L.length ≤ k → (goLine A k L).length < L.length → ∃ S : List Str, S ≠ [] ∧ (∀ n ∈ S, n ∈ L) ∧ ∀ n ∈ S, ∃ o ∈ S, (o, n) ∈ A
  | 0, L, _, hk, h => by omega
  | k + 1, L, hd, hk, h => by
    simp only [goLine] at h
    cases e : firstFree A L with
    | none =>
      rw [e] at h
      refine ⟨L, fun z => ?_, fun n hn => hn, fun n hn => ?_⟩
      · rw [z] at h; exact absurd h (Nat.lt_irrefl _)
      · have := List.find?_eq_none.mp e n hn
        have hb : behind A L n = true := by
          cases q : behind A L n with
          | true => rfl
          | false => rw [q] at this; exact absurd rfl this
        obtain ⟨o, ho, z⟩ := List.any_eq_true.mp hb
        exact ⟨o, ho, of_decide_eq_true z⟩
    | some n =>
      rw [e] at h
      have hm := ff_mem e
      have hl : (L.erase n).length = L.length - 1 := List.length_erase_of_mem hm
      have hp := List.length_pos_of_mem hm
      have h : (goLine A k (L.erase n)).length + 1 < L.length := h
      obtain ⟨S, h1, h2, h3⟩ := lineOf_left k (L.erase n) (hd.erase n) (by rw [hl]; omega) (by rw [hl]; exact Nat.lt_sub_of_add_lt h)
      exact ⟨S, h1, fun m hm => List.mem_of_mem_erase (h2 m hm), h3⟩
/-! ### no three go round: no more than three either -/
section
variable {R : List Row} {B : List RRow} {A : List Row}
/-- a list that tells of each two that meet who goes ahead -/
structure Ahead (R : List Row) (B : List RRow) (A : List Row) : Prop where
  sub : ∀ a b, (a, b) ∈ A → a ∈ rnm B ∧ b ∈ rnm B ∧ a ≠ b ∧ meetB R B a b = true
  all : ∀ a b, a ∈ rnm B → b ∈ rnm B → a ≠ b → meetB R B a b = true → (a, b) ∈ A ∨ (b, a) ∈ A
  one : ∀ a b, (a, b) ∈ A → (b, a) ∉ A
def Rnd (R : List Row) (B : List RRow) (A : List Row) (w a b c : Str) : Prop := (a, b) ∈ A ∧ (b, c) ∈ A ∧ (c, a) ∈ A ∧ w ∈ wayN R B a ∧ w ∈ wayN R B b ∧ w ∈ wayN R B c
theorem later_has (g : GoodRows R) (b : RtOk R B) {d r : List Str} {n o : Str} (e : remR R B = d ++ n :: r) (ho : o ∈ r) (hm : meetB R B n o = true) : lastW (wayN R B n) ∈ wayN R B o := by
  have hp := rem_pw (R := R) (B := B)
  rw [e] at hp
  have h2 := (List.pairwise_cons.mp (List.pairwise_append.mp hp).2.1).1 o ho
  have hn : n ∈ rnm B := (rem_mem g b).mp (by rw [e]; exact List.mem_append_right _ List.mem_cons_self)
  have ho2 : o ∈ rnm B := (rem_mem g b).mp (by rw [e]; exact List.mem_append_right _ (List.mem_cons_of_mem _ ho))
  exact meet_rem g b hn ho2 h2 hm
theorem round_three (g : GoodRows R) (b : RtOk R B) (T : Ahead R B A) {S : List Str} (hS : S ≠ []) (hm : ∀ n ∈ S, n ∈ rnm B) (hc : ∀ n ∈ S, ∃ o ∈ S, (o, n) ∈ A) : ∃ w x y z, w ∈ nmsOf R ∧ Rnd R B A w x y z := by
  have key : ∀ (r d S : List Str), remR R B = d ++ r → S ≠ [] → (∀ n ∈ S, n ∈ r) → (∀ n ∈ S, ∃ o ∈ S, (o, n) ∈ A) → ∃ w x y z, w ∈ nmsOf R ∧ Rnd R B A w x y z := by
    intro r
    induction r with
    | nil =>
      intro d S _ h1 h2
      cases S with
      | nil => exact absurd rfl h1
      | cons n s => cases h2 n List.mem_cons_self
    | cons v r ih =>
      intro d S e h1 h2 h3
      have e2 : remR R B = (d ++ [v]) ++ r := by rw [e, List.append_assoc]; rfl
      have lt : ∀ n ∈ S, n ≠ v → n ∈ r := fun n hn q => (List.mem_cons.mp (h2 n hn)).resolve_left q
      by_cases hv : v ∈ S
      · obtain ⟨u, hu, huv⟩ := h3 v hv
        obtain ⟨_, hvn, huv2, hmu⟩ := T.sub u v huv
        by_cases hall : ∀ n ∈ S, n ≠ v → ∃ o ∈ S, o ≠ v ∧ (o, n) ∈ A
        · refine ih (d ++ [v]) (S.filter fun n => decide (n ≠ v)) e2 (fun z => ?_) (fun n hn => ?_) fun n hn => ?_
          · have : u ∈ S.filter fun n => decide (n ≠ v) := List.mem_filter.mpr ⟨hu, decide_eq_true huv2⟩
            rw [z] at this
            cases this
          · obtain ⟨a1, a2⟩ := List.mem_filter.mp hn
            exact lt n a1 (of_decide_eq_true a2)
          · obtain ⟨a1, a2⟩ := List.mem_filter.mp hn
            obtain ⟨o, o1, o2, o3⟩ := hall n a1 (of_decide_eq_true a2)
            exact ⟨o, List.mem_filter.mpr ⟨o1, decide_eq_true o2⟩, o3⟩
        · obtain ⟨n, hn⟩ := Classical.not_forall.mp hall
          obtain ⟨hnS, hn⟩ := Classical.not_imp.mp hn
          obtain ⟨hnv, hno⟩ := Classical.not_imp.mp hn
          have only : ∀ o ∈ S, (o, n) ∈ A → o = v := fun o ho ha => Classical.byContradiction fun q => hno ⟨o, ho, q, ha⟩
          obtain ⟨o, ho, hon⟩ := h3 n hnS
          have hov := only o ho hon
          subst hov
          obtain ⟨_, hnn, _, hmn⟩ := T.sub o n hon
          have hmu2 : meetB R B o u = true := by rw [meet_symm]; exact hmu
          have w1 := later_has g b e (lt u hu huv2) hmu2
          have w2 := later_has g b e (lt n hnS hnv) hmn
          have hun : u ≠ n := fun z => by
            rw [z] at huv
            exact T.one n o huv hon
          have hmm : meetB R B u n = true := List.any_eq_true.mpr ⟨_, w1, decide_eq_true w2⟩
          have hnu : (n, u) ∈ A := (T.all u n (T.sub u o huv).1 hnn hun hmm).resolve_left fun z => huv2 (only u hu z)
          obtain ⟨l1, l2⟩ := last_in g b hvn
          exact ⟨_, u, o, n, l2, huv, hon, hnu, w1, l1, w2⟩
      · exact ih (d ++ [v]) S e2 h1 (fun n hn => lt n hn fun z => hv (z ▸ hn)) h3
  exact key (remR R B) [] S rfl hS (fun n hn => (rem_mem g b).mpr (hm n hn)) hc
end
/-! ### what ring1 finds -/
theorem turnT_some {A : List Row} {a b c : Str} {t : Tri} (h : turnT A a b c = some t) : (t.1, t.2.1) ∈ A ∧ (t.2.1, t.2.2) ∈ A ∧ (t.2.2, t.1) ∈ A ∧ (∀ x, x = t.1 ∨ x = t.2.1 ∨ x = t.2.2 → x = a ∨ x = b ∨ x = c) := by
  unfold turnT at h
  split at h
  · cases h
    rename_i q
    exact ⟨q.1, q.2.1, q.2.2, fun x z => z⟩
  · split at h
    · cases h
      rename_i q
      exact ⟨q.1, q.2.1, q.2.2, fun x z => z.elim .inl fun z => z.elim (fun z => .inr (.inr z)) fun z => .inr (.inl z)⟩
    · cases h
theorem ring2_some {A : List Row} {a : Str} {t : Tri} : ∀ {l : List Str}, ring2 A a l = some t → ∃ b c, b ∈ l ∧ c ∈ l ∧ turnT A a b c = some t
  | [], h => by cases h
  | b :: cs, h => by
    have h : (cs.findSome? (turnT A a b)).or (ring2 A a cs) = some t := h
    cases e : cs.findSome? (turnT A a b) with
    | some t' =>
      rw [e] at h
      cases h
      obtain ⟨c, hc, q⟩ := List.exists_of_findSome?_eq_some e
      exact ⟨b, c, List.mem_cons_self, List.mem_cons_of_mem _ hc, q⟩
    | none =>
      rw [e] at h
      obtain ⟨x, y, hx, hy, q⟩ := ring2_some (l := cs) h
      exact ⟨x, y, List.mem_cons_of_mem _ hx, List.mem_cons_of_mem _ hy, q⟩
theorem ring1_some {A : List Row} {t : Tri} : ∀ {l : List Str}, ring1 A l = some t → ∃ a b c, a ∈ l ∧ b ∈ l ∧ c ∈ l ∧ turnT A a b c = some t
  | [], h => by cases h
  | a :: bs, h => by
    have h : (ring2 A a bs).or (ring1 A bs) = some t := h
    cases e : ring2 A a bs with
    | some t' =>
      rw [e] at h
      cases h
      obtain ⟨b, c, hb, hc, q⟩ := ring2_some e
      exact ⟨a, b, c, List.mem_cons_self, List.mem_cons_of_mem _ hb, List.mem_cons_of_mem _ hc, q⟩
    | none =>
      rw [e] at h
      obtain ⟨x, y, z, hx, hy, hz, q⟩ := ring1_some (l := bs) h
      exact ⟨x, y, z, List.mem_cons_of_mem _ hx, List.mem_cons_of_mem _ hy, List.mem_cons_of_mem _ hz, q⟩
end K0
end
section
set_option Elab.async false
set_option linter.all false
set_option maxRecDepth 100000
namespace K0
open PySem PySem.Spec PyProof.Rows L2
theorem or_ne {α : Type} {a b : Option α} (h : a ≠ none ∨ b ≠ none) : a.or b ≠ none := by
  cases a with
  | some x => exact fun z => by cases z
  | none =>
    rcases h with h | h
    · exact absurd rfl h
    · exact h
theorem find_ne {α β : Type} {f : α → Option β} : ∀ {l : List α} {x : α}, x ∈ l → f x ≠ none → l.findSome? f ≠ none
  | a :: l, x, h, hf => by
    rw [List.findSome?_cons]
    cases e : f a with
    | some y => exact fun z => by cases z
    | none =>
      rcases List.mem_cons.mp h with z | z
      · rw [z] at hf; exact absurd e hf
      · exact find_ne z hf
theorem turn_ne {A : List Row} {a y z : Str} (h1 : (a, y) ∈ A) (h2 : (y, z) ∈ A) (h3 : (z, a) ∈ A) : turnT A a y z ≠ none ∧ turnT A a z y ≠ none := by
  refine ⟨?_, ?_⟩
  · unfold turnT
    rw [if_pos ⟨h1, h2, h3⟩]
    exact fun z => by cases z
  · unfold turnT
    split
    · exact fun z => by cases z
    · rw [if_pos ⟨h1, h2, h3⟩]
      exact fun z => by cases z
theorem ring2_ne {A : List Row} {a y z : Str} (h1 : (a, y) ∈ A) (h2 : (y, z) ∈ A) (h3 : (z, a) ∈ A) (hyz : y ≠ z) : ∀ {l : List Str}, y ∈ l → z ∈ l → ring2 A a l ≠ none
  | b :: cs, hy, hz => by
    obtain ⟨t1, t2⟩ := turn_ne h1 h2 h3
    show (cs.findSome? (turnT A a b)).or (ring2 A a cs) ≠ none
    rcases List.mem_cons.mp hy with e | hy
    · subst e
      exact or_ne (.inl (find_ne ((List.mem_cons.mp hz).resolve_left fun q => hyz q.symm) t1))
    ·
      rcases List.mem_cons.mp hz with e | hz2
      · rw [← e]
        exact or_ne (.inl (find_ne hy t2))
      · exact or_ne (.inr (ring2_ne h1 h2 h3 hyz hy hz2))
theorem ring1_ne {A : List Row} {x y z : Str} (h1 : (x, y) ∈ A) (h2 : (y, z) ∈ A) (h3 : (z, x) ∈ A) (hxy : x ≠ y) (hyz : y ≠ z) (hzx : z ≠ x) : ∀ {l : List Str}, x ∈ l → y ∈ l → z ∈ l → ring1 A l ≠ none
  | a :: bs, hx, hy, hz => by
    show (ring2 A a bs).or (ring1 A bs) ≠ none
    by_cases ex : x = a
    · subst ex
      exact or_ne (.inl (ring2_ne h1 h2 h3 hyz ((List.mem_cons.mp hy).resolve_left fun q => hxy q.symm) ((List.mem_cons.mp hz).resolve_left hzx)))
    · by_cases ey : y = a
      · subst ey
        exact or_ne (.inl (ring2_ne h2 h3 h1 hzx ((List.mem_cons.mp hz).resolve_left fun q => hyz q.symm) ((List.mem_cons.mp hx).resolve_left hxy)))
      · by_cases ez : z = a
        · subst ez
          exact or_ne (.inl (ring2_ne h3 h1 h2 hxy ((List.mem_cons.mp hx).resolve_left fun q => hzx q.symm) ((List.mem_cons.mp hy).resolve_left hyz)))
        · exact or_ne (.inr (ring1_ne h1 h2 h3 hxy hyz hzx ((List.mem_cons.mp hx).resolve_left ex) ((List.mem_cons.mp hy).resolve_left ey) ((List.mem_cons.mp hz).resolve_left ez)))
theorem nodup_le {α : Type} [DecidableEq α] : ∀ {l L : List α}, l.Nodup → (∀ x ∈ l, x ∈ L) → l.length ≤ L.length
  | [], _, _, _ => Nat.zero_le _
  | a :: t, L, hd, hs => by
    obtain ⟨h1, h2⟩ := List.nodup_cons.mp hd
    have ha := hs a List.mem_cons_self
    have hl : (L.erase a).length = L.length - 1 := List.length_erase_of_mem ha
    have hp := List.length_pos_of_mem ha
    have ih := nodup_le (l := t) (L := L.erase a) h2 fun x hx => (List.mem_erase_of_ne fun z => by rw [z] at hx; exact h1 hx).mpr (hs x (List.mem_cons_of_mem _ hx))
    rw [hl] at ih
    show t.length + 1 ≤ L.length
    omega
theorem all_in {α : Type} [DecidableEq α] {l L : List α} (hd : l.Nodup) (hs : ∀ x ∈ l, x ∈ L) (hl : L.length ≤ l.length) : ∀ x ∈ L, x ∈ l := fun x hx => Classical.byContradiction fun h => by
  have := nodup_le (l := x :: l) (L := L) (List.nodup_cons.mpr ⟨h, hd⟩) fun y hy => (List.mem_cons.mp hy).elim (fun z => z ▸ hx) (hs y)
  rw [List.length_cons] at this
  omega
section
variable {R : List Row} {B : List RRow} {A : List Row}
theorem mem_pass {w n : Str} (hn : n ∈ rnm B) (hw : w ∈ wayN R B n) : n ∈ passR R B w := List.mem_filter.mpr ⟨hn, decide_eq_true hw⟩
theorem line_short (g : GoodRows R) (b : RtOk R B) (T : Ahead R B A) : (lineOf A (rnm B)).length < (rnm B).length ↔ firstRing A R B (nmsOf R) ≠ none := by
  constructor
  · intro h
    obtain ⟨S, s1, s2, s3⟩ := lineOf_left _ (rnm B) b.nd (Nat.le_refl _) h
    obtain ⟨w, x, y, z, hw, r1, r2, r3, w1, w2, w3⟩ := round_three g b T s1 s2 s3
    obtain ⟨x1, y1, xy, _⟩ := T.sub _ _ r1
    obtain ⟨_, z1, yz, _⟩ := T.sub _ _ r2
    obtain ⟨_, _, zx, _⟩ := T.sub _ _ r3
    refine find_ne hw ?_
    cases e : ring1 A (passR R B w) with
    | none => exact absurd e (ring1_ne r1 r2 r3 xy yz zx (mem_pass x1 w1) (mem_pass y1 w2) (mem_pass z1 w3))
    | some t => exact fun q => by cases q
  · intro h
    cases e : firstRing A R B (nmsOf R) with
    | none => exact absurd e h
    | some wt =>
      obtain ⟨w, hw, e2⟩ := List.exists_of_findSome?_eq_some e
      cases e3 : ring1 A (passR R B w) with
      | none => rw [e3] at e2; cases e2
      | some t =>
        obtain ⟨_, _, _, _, _, _, e4⟩ := ring1_some e3
        obtain ⟨a1, a2, a3, _⟩ := turnT_some e4
        refine Nat.lt_of_not_le fun hc => ?_
        have hnd := lineOf_nd (A := A) (rnm B).length (rnm B) b.nd
        have hsub := lineOf_sub (A := A) (rnm B).length (rnm B)
        have all : ∀ x ∈ rnm B, x ∈ goLine A (rnm B).length (rnm B) := all_in hnd hsub hc
        have ord : ∀ {x y : Str}, (x, y) ∈ A → (goLine A (rnm B).length (rnm B)).idxOf x < (goLine A (rnm B).length (rnm B)).idxOf y := fun {x y} ha => by
          obtain ⟨hx, hy, _⟩ := T.sub _ _ ha
          have hyl := all y hy
          have hi : (goLine A (rnm B).length (rnm B))[(goLine A (rnm B).length (rnm B)).idxOf y]? = some y := by
            rw [List.getElem?_eq_getElem (List.idxOf_lt_length_of_mem hyl), List.getElem_idxOf]
          have := lineOf_ord _ _ b.nd _ y x hi hx ha
          obtain ⟨j, hj, e⟩ := List.mem_iff_getElem.mp this
          rw [List.getElem_take] at e
          have hj1 : j < (goLine A (rnm B).length (rnm B)).idxOf y := Nat.lt_of_lt_of_le hj (List.length_take_le _ _)
          have hjl : j < (goLine A (rnm B).length (rnm B)).length := Nat.lt_of_lt_of_le hj (List.length_take_le' _ _)
          rw [← e, hnd.idxOf_getElem j hjl]
          exact hj1
        have o1 := ord a1
        have o2 := ord a2
        have o3 := ord a3
        omega
end
end K0
end
section
set_option Elab.async false
set_option linter.all false
set_option maxRecDepth 100000
set_option maxHeartbeats 8000000
namespace K0
open PySem PySem.Spec PyProof.Rows L2
/-! ### the law's own: the pairs that meet -/
structure WaysL (H : Hp) (d : Addr) (ns : List Str) (g : Str → List Str) : Prop where
  ex : ∃ ta : Str → Addr, H d = some (.dK (kmap (fun y => .ref (ta y)) ns)) ∧ ∀ y ∈ ns, H (ta y) = some (.lst ((g y).map V.str))
theorem WaysL.same {H H' : Hp} {d : Addr} {ns : List Str} {g : Str → List Str} (t : WaysL H d ns g) (s : Same H H') : WaysL H' d ns g := by
  obtain ⟨ta, q1, q2⟩ := t.ex
  exact ⟨ta, s _ _ q1, fun x hx => s _ _ (q2 x hx)⟩
def pr2 (r : RRow) : Row := (r.1, r.2.1)
theorem prOneR_met {R : List Row} {B : List RRow} {one : Str} (os : List Str) : (prOneR R B one os).map pr2 = (os.filter fun o => meetB R B one o).map fun o => (one, o) := by
  induction os with
  | nil => rfl
  | cons o os ih =>
    have e : prOneR R B one (o :: os) = (match meetL R B one o with
      | [] => []
      | w :: _ => [(one, o, w)]) ++ prOneR R B one os := by
      unfold prOneR
      rw [List.filterMap_cons]
      cases meetL R B one o <;> rfl
    rw [e, List.map_append, ih, List.filter_cons]
    cases hm : meetL R B one o with
    | nil =>
      have : meetB R B one o = false := by
        cases q : meetB R B one o with
        | false => rfl
        | true => exact absurd hm (meetL_any.mpr q)
      rw [this]
      rfl
    | cons w ws =>
      have : meetB R B one o = true := meetL_any.mp (by rw [hm]; exact fun z => by cases z)
      rw [this]
      rfl
abbrev scLPairs_N : List Str := ["_law_ways", "_law_names_here", "_law_found", "_law_place", "_law_one", "_law_met", "_law_other", "_law_weir"]
abbrev scLPairs_S : Stmt := sLPairs
theorem scLPairs : FnScope scLPairs_N ["_law_ways"] (defScope sLPairs) := ⟨rfl, rfl, rfl, by decide +kernel, rfl, by decide +kernel, by decide +kernel⟩
abbrev iscP : Scope := ⟨.function, [(".0", .local), ("_law_other", .cell), ("any", .globalImplicit), ("_law_one", .cell), ("_law_ways", .cell)], false, false, []⟩
def spLPairs : Sp := fun vs H Q _ => ∃ (d : Addr) (R : List Row) (B : List RRow), vs = [.ref d] ∧ WaysL H d (rnm B) (wayN R B) ∧ GoodRows R ∧ RtOk R B ∧ ∀ H' z AP, Same H H' → H z = none → RowsAt H' z AP → rowsOf AP = (prAllR R B).map pr2 → Q (.ref z) H'
section
variable {P : Program} {w : World} {K : PySem.W.Frag} {mg : Str → Option Value} {base : Heap} {tS tM tL : Tok}
theorem ok_lpairs {f : Addr} {fd : FuncData} (F : FnP K "_law_pairs" sLPairs f fd) (B : Bl mg) : FnOk P w K mg base CX0 1 f fd ["_law_ways"] spLPairs := by
  refine F.ok scLPairs (fun vs H Q E h => ?_) (fun cdv A outer s H vs Q E hr h => ?_)
  · obtain ⟨d, R, BB, rfl, _⟩ := h
    rfl
  · obtain ⟨d, R, BB, rfl, W, hg, hb, k⟩ := h
    have hu := hu_of hr
    refine ⟨_, PSs.nox (pss_cons
      (ps_par (i := 1) (j := 2) (by rfl) scLPairs.nd rfl rfl (by decide) rfl rfl (pa_cons (pe_callTy (call_listD rfl) (by rfl) B.list (by decide +kernel) (pa_cons (pv 0) pa_nil)) (pa_cons (pe_lst pa_nil) pa_nil)) (by rfl))
      (pss_cons
      (ps_for PassesOwn.never rfl (pi_enum (by rfl) B.enumerate (pa_cons (pv 1) pa_nil)) (tgK (K := K) (n := 2) (by rfl) (pgs_cons (pg_name (i := 3) scLPairs.nd rfl (Or.inl rfl)) (pgs_cons (pg_name (i := 4) scLPairs.nd rfl (Or.inr rfl)) pgs_nil))) (pss_cons
      (ps_setLc (i := 5) (own := [("_law_other", 6)]) (g := gName 6)  (by rfl) scLPairs.nd rfl rfl (sw_true rfl rfl rfl (by decide +kernel)) (pi_list (pe_slice sl_list (pv 1) (po_some (pe_op op_add (pv 3) pe_int)) po_none)) (blkOk_by (own := [("_law_other", 6)]) (N := scLPairs_N) (sc := defScope scLPairs_S) (by decide +kernel)) (fun _ _ _ _ _ => (pg_name (i := 6) scLPairs.nd rfl (Or.inr rfl))) (fun _ _ _ _ _ => (pts_one (pt_val (pe_callB (anyK (K := K) rfl) (by rfl) B.any (by decide +kernel) (pa_cons (pe_lc (own := [("_law_weir", 7)]) (g := gName 7) (tt := tYes) (by rfl) scLPairs.nd (pi_listK (K := K) (pe_dget hu (pv 0) (pv 4) (fun _ _ => rfl))) (blkOk_by (own := [("_law_weir", 7)]) (N := scLPairs_N) (sc := iscP) (by decide +kernel)) (fun _ _ _ _ _ => (pg_name (i := 7) scLPairs.nd rfl (Or.inl rfl))) (fun _ _ _ _ _ => pts_nil) (fun _ _ _ _ _ => (pe_cmpR (inK (K := K)) (pv 7) (pe_dget hu (pv 0) (pv 6) (fun _ _ => rfl)) (by rfl)))) pa_nil))))) (fun _ _ _ _ _ => (pv 6)))
      (pss_one
      (ps_set (i := 2) scLPairs.nd rfl (Or.inl rfl) (pe_op op_cat (pv 2) (pe_lc (own := [("_law_other", 6)]) (g := gName 6) (tt := tYes) (by rfl) scLPairs.nd (pi_list (pv 5)) (blkOk_by (own := [("_law_other", 6)]) (N := scLPairs_N) (sc := defScope scLPairs_S) (by decide +kernel)) (fun _ _ _ _ _ => (pg_name (i := 6) scLPairs.nd rfl (Or.inl rfl))) (fun _ _ _ _ _ => pts_nil) (fun _ _ _ _ _ => (pe_tup (pa_cons (pv 4) (pa_cons (pv 6) pa_nil))))))))))
      (pss_one
      (ps_ret (pv 2))))), ?_⟩
    have hm := hb.most
    have hln : (rnm BB).length = BB.length := List.length_map _
    obtain ⟨ta, w1, w2⟩ := id W.ex
    have hkk : ((kmap (fun y => V.ref (ta y)) (rnm BB)).map fun kv => kV kv.1) = (rnm BB).map V.str := by
      unfold kmap
      rw [List.map_map]
      rfl
    refine ⟨_, rfl, d, _, rfl, .inl w1, fun nm nnm => ?_⟩
    rw [hkk]
    have s1 : Same H (upd H nm (.lst ((rnm BB).map V.str))) := same_upd nnm
    have hnm1 : (upd H nm (.lst ((rnm BB).map V.str))) nm = some (.lst ((rnm BB).map V.str)) := upd_same
    generalize upd H nm (.lst ((rnm BB).map V.str)) = H1 at s1 hnm1
    refine ⟨Nat.zero_le _, fun z0 nz0 => ?_⟩
    have s2 : Same H1 (upd H1 z0 (.lst [])) := same_upd nz0
    have hz0 : (upd H1 z0 (.lst [])) z0 = some (.lst []) := upd_same
    generalize upd H1 z0 (.lst []) = H2 at s2 hz0
    have nH : ∀ {a : Addr}, H1 a = none → H a = none := fun {a} n => by
      cases e : H a with
      | none => rfl
      | some o => rw [s1 _ _ e] at n; cases n
    refine ⟨_, _, rfl, ?_⟩
    have hn2 := s2 _ _ hnm1
    refine ⟨_, rfl, nm, _, rfl, .inl (.inl hn2), ?_⟩
    refine for_it (walk_enum (K := K) (a := nm) (xs := (rnm BB).map V.str)) (fun i σ H3 => ∃ v3 v4 v5 z AP, σ = [some (.ref d), some (.ref nm), some (.ref z), v3, v4, v5, none, none] ∧ Same H2 H3 ∧ RowsAt H3 z AP ∧ rowsOf AP = (prToR R BB (rnm BB) i).map pr2 ∧ H z = none)
      ⟨_, _, _, z0, [], rfl, .refl _, ⟨hz0, fun q hq => by cases hq⟩, rfl, nH nz0⟩ (fun _ _ _ _ h => by obtain ⟨_, _, _, _, _, _, s, _⟩ := h; exact .inl (.inl (s _ _ hn2))) ?_ ?_
    · rintro i x σ H3 H4 hi ⟨v3, v4, v5, z, AP, rfl, s3, hA, eA, nz⟩ ⟨T, x1, x2, rfl, hT, rfl, e1, e2⟩
      rw [List.length_map] at hi
      cases e1
      have e2 : ((rnm BB).map V.str)[i]? = some x2 := e2
      rw [List.getElem?_map, List.getElem?_eq_getElem hi] at e2
      obtain rfl : V.str (rnm BB)[i] = x2 := Option.some.inj e2
      have hone : (rnm BB)[i]? = some (rnm BB)[i] := List.getElem?_eq_getElem hi
      have honem : (rnm BB)[i] ∈ rnm BB := List.getElem_mem hi
      have hsucc := prToR_succ (R := R) (B := BB) hone
      generalize (rnm BB)[i] = one at hone honem hsucc
      have s4 : Same H3 (upd H3 T (.tup [.int (i : Nat), .str one])) := same_upd hT
      refine ⟨T, _, rfl, .inl (.inl upd_same), rfl, _, _, rfl, _, _, rfl, rfl, ?_⟩
      generalize upd H3 T (.tup [.int (i : Nat), .str one]) = H4 at s4
      have s24 := s3.trans s4
      -- who it meets
      have hcut : cutV ((rnm BB).map V.str) (some ((i : Int) + 1)) none = ((rnm BB).drop (i + 1)).map V.str := by
        have e := cut_drop ((rnm BB).map V.str) (i + 1)
        rw [List.map_drop]
        exact e
      refine ⟨_, rfl, _, rfl, _, _, rfl, rfl, _, rfl, nm, _, rfl, .inl (.inl (s24 _ _ hn2)), fun sl nsl => ?_⟩
      rw [hcut]
      have s5 : Same H4 (upd H4 sl (.lst (((rnm BB).drop (i + 1)).map V.str))) := same_upd nsl
      have hsl : (upd H4 sl (.lst (((rnm BB).drop (i + 1)).map V.str))) sl = some (.lst (((rnm BB).drop (i + 1)).map V.str)) := upd_same
      generalize upd H4 sl (.lst (((rnm BB).drop (i + 1)).map V.str)) = H5 at s5 hsl
      have s25 := s24.trans s5
      have hdl : ((rnm BB).drop (i + 1)).length ≤ 40 := by rw [List.length_drop]; omega
      have hdm : ∀ o ∈ (rnm BB).drop (i + 1), o ∈ rnm BB := fun o ho => List.mem_of_mem_drop ho
      refine ⟨sl, rfl, ⟨_, .inl (.inl hsl)⟩, fun me nme => ?_⟩
      generalize hos : (rnm BB).drop (i + 1) = os at hsl hdl hdm hsucc
      have W5 := (W.same (s1.trans s2)).same s25
      refine lc_listO (K := K) (a := sl) (xs := os.map V.str) nme (fun j => ((os.take j).filter fun o => meetB R BB one o).map V.str) (by rw [List.take_zero]; rfl) (fun j _ => filt_size (by omega) j) (.inl (.inl hsl)) ?_ ?_
      · intro j x H6 Nx hx s6 put skip
        rw [List.getElem?_map] at hx
        obtain ⟨o, ho, rfl⟩ := Option.map_eq_some_iff.mp hx
        have hom := hdm o (List.mem_of_getElem? ho)
        obtain ⟨ta, w1, w2⟩ := id (W5.same s6).ex
        have hzl : (wayN R BB one).length ≤ 40 := (way_ne hg hb honem).2
        refine ⟨rfl, ?_⟩
        refine ⟨_, rfl, _, rfl, d, _, rfl, dget_rn (.inl w1) honem, ta one, rfl, ⟨_, .inl (.inl (w2 one honem))⟩, fun Z nZ => ?_⟩
        refine lc_listO (K := K) (a := ta one) (xs := (wayN R BB one).map V.str) nZ (fun j => (((wayN R BB one).take j).map fun y => decide (y ∈ wayN R BB o)).map V.bl) (by rw [List.take_zero]; rfl) (fun j _ => by rw [List.length_map, List.length_map, List.length_take]; exact small1000 (by omega)) (.inl (.inl (w2 one honem))) ?_ ?_
        · intro l x H7 Nx hx s7 put skip
          rw [List.getElem?_map] at hx
          obtain ⟨y, hy, rfl⟩ := Option.map_eq_some_iff.mp hx
          refine ⟨rfl, ?_⟩
          unfold tYes
          refine iteT ?_
          refine ⟨_, rfl, _, rfl, _, rfl, d, _, rfl, dget_rn (.inl (s7 _ _ w1)) hom, ta o, _, rfl, .inl (.inl (.inl (s7 _ _ (w2 o hom)))), rfl, flat_strs _, ?_⟩
          rw [inV_str]
          refine put _ _ (.refl _) ?_
          rw [take_map1 hy, List.map_append]
          rfl
        intro H7 s7 hl7
        rw [List.length_map, List.take_length] at hl7
        refine ⟨Z, _, rfl, .inl (.inl hl7), _, rfl, ?_⟩
        have eb : (((wayN R BB one).map fun y => decide (y ∈ wayN R BB o)).any id) = meetB R BB one o := by
          rw [List.any_map]
          rfl
        rw [eb]
        have e := filt_take (p := fun o => meetB R BB one o) ho
        refine ite2 (fun h => ?_) (fun h => ?_)
        · have h : (fun o => meetB R BB one o) o = true := h
          rw [if_pos h] at e
          refine ⟨_, rfl, put _ _ s7 ?_⟩
          rw [e, List.map_append]
          rfl
        · have h : ¬ (fun o => meetB R BB one o) o = true := h
          rw [if_neg h, List.append_nil] at e
          exact skip _ s7 (congrArg _ e)
      intro H6 s6 hme
      rw [List.length_map, List.take_length] at hme
      have s36 : Same H3 H6 := (s4.trans s5).trans s6
      have hml : (os.filter fun o => meetB R BB one o).length ≤ 40 := Nat.le_trans (List.length_filter_le _ _) hdl
      have hpm := prOneR_met (R := R) (B := BB) (one := one) os
      generalize hmt : (os.filter fun o => meetB R BB one o) = mt at hme hml hpm
      -- one more row of pairs
      have hA6 := hA.same s36
      refine ⟨_, rfl, _, rfl, me, rfl, ⟨_, .inl (.inl hme)⟩, fun P2 nP2 => ?_⟩
      refine lc_list (K := K) (a := me) (xs := mt.map V.str) (fun j H7 => Same H6 H7 ∧ ∃ AP2, RowsAt H7 P2 AP2 ∧ rowsOf AP2 = (mt.take j).map fun o => (one, o)) ⟨same_upd nP2, [], ⟨upd_same, fun q hq => by cases hq⟩, rfl⟩ (fun j H7 _ h => .inl (.inl (h.1 _ _ hme))) ?_ ?_
      · rintro j x H7 hx ⟨s7, AP2, hA2, eA2⟩
        rw [List.getElem?_map] at hx
        obtain ⟨o, ho, rfl⟩ := Option.map_eq_some_iff.mp hx
        refine ⟨rfl, ?_⟩
        unfold tYes
        refine iteT ?_
        refine ⟨_, rfl, _, rfl, by show 2 ≤ sizeLine; decide, fun t nt => ?_⟩
        obtain ⟨f1, f2⟩ := hA2.more (r := (one, o)) (.refl _) nt
        have hA2l : AP2.length ≤ 40 := by
          have e : AP2.length = (rowsOf AP2).length := (List.length_map _).symm
          rw [e, eA2, List.length_map, List.length_take]
          omega
        refine ⟨_, f1, by rw [List.length_map]; exact small1000 (by omega), fun b u e => ?_, AP2 ++ [(t, (one, o))], f2, ?_⟩
        · rw [upd_ne (ne_of_none e nP2), upd_ne (ne_of_none (s7 _ _ e) nt)]
          exact s7 _ _ e
        · show (AP2 ++ [(t, (one, o))]).map (·.2) = _
          rw [List.map_append, take_map1 ho, ← eA2]
          rfl
      rintro H7 ⟨s7, AP2, hA2, eA2⟩
      rw [List.length_map, List.take_length] at eA2
      have hA7 := hA6.same s7
      have hAPl : AP.length ≤ 1600 := by
        have e : AP.length = (rowsOf AP).length := (List.length_map _).symm
        have e2 : (prToR R BB (rnm BB) i).length = (prTo R BB (rnm BB) i).length := by rw [prTo_map]; exact (List.length_map _).symm
        have e3 := prTo_len (R := R) (B := BB) (ns := rnm BB) i
        have e4 : i * (rnm BB).length ≤ 40 * 40 := Nat.mul_le_mul (by omega) (by omega)
        rw [e, eA, List.length_map]
        omega
      have hA2l : AP2.length ≤ 40 := by
        have e : AP2.length = (rowsOf AP2).length := (List.length_map _).symm
        rw [e, eA2, List.length_map]
        omega
      have z40 : 40000 ≤ sizeLine := by rw [sizeLine_eq]; omega
      refine ⟨z, P2, _, _, rfl, rfl, hA7.lst, hA2.lst, by rw [List.length_map, List.length_map]; omega, fun z' nz' => ?_⟩
      rw [← List.map_append]
      have s8 : Same H7 (upd H7 z' (.lst ((AP ++ AP2).map fun q => V.ref q.1))) := same_upd nz'
      have s28 : Same H2 (upd H7 z' (.lst ((AP ++ AP2).map fun q => V.ref q.1))) := ((s3.trans s36).trans s7).trans s8
      refine ⟨_, _, _, z', AP ++ AP2, rfl, s28, ⟨upd_same, fun q hq => s8 _ _ ((List.mem_append.mp hq).elim (hA7.tup q) (hA2.tup q))⟩, ?_, ?_⟩
      · show (AP ++ AP2).map (·.2) = _
        rw [List.map_append, hsucc, List.map_append, hpm, ← eA2, ← eA]
      · cases e : H z' with
        | none => rfl
        | some o => rw [(((s3.trans s36).trans s7) _ _ (s2 _ _ (s1 _ _ e)))] at nz'; cases nz'
    · rintro σ H3 ⟨v3, v4, v5, z, AP, rfl, s3, hA, eA, nz⟩
      rw [List.length_map] at eA
      exact ⟨_, rfl, k H3 z AP ((s1.trans s2).trans s3) nz hA eA⟩
end
end K0
end
section
set_option Elab.async false
set_option linter.all false
set_option maxRecDepth 100000
set_option maxHeartbeats 4000000
namespace K0
open PySem PySem.Spec PyProof.Rows L2
/-! ### refused -/
abbrev scLRefused_N : List Str := ["_law_told", "_law_names_here", "_law_odd", "e"]
theorem scLRefused : FnScope scLRefused_N ["_law_told", "_law_names_here", "_law_odd"] (defScope sLRefused) := ⟨rfl, rfl, rfl, by decide +kernel, rfl, by decide +kernel, by decide +kernel⟩
/-- what the classes of errors say -/
structure Er (K : PySem.W.Frag) (mg : Str → Option Value) (Cn Cw : Addr) : Prop where
  xn : XfC K Cn
  hname : PySem.W.findIn K (.ref Cn) "name" = some none
  mW : mg "WeirError" = some (.ref Cw)
  mN : mg "NoRight" = some (.ref Cn)
  nn : PySem.W.exmOne K (.ref Cn) (.ref Cn) = some true
theorem eqDX {X : Cx} {K : PySem.W.Frag} (hu : X.A.units + 64 < cLine) (e : X.K = K := by rfl) : OpR X (compareOp .Eq) (rEqD K) := e ▸ op_eqD hu
theorem shown_eq {K : PySem.W.Frag} {H : Hp} {x : V} (h : Shown K H x) : ∃ d, Dp K H x d ∧ SeqAt.shaped d = true ∧ PyData.eqv d d = true := by
  cases h with
  | str y hp _ => exact ⟨_, .str y, shaped_str hp, by simp only [PyData.eqv, beq_self_eq_true]⟩
  | non => exact ⟨_, .non, by decide +kernel, by simp only [PyData.eqv]⟩
  | bl b => exact ⟨.bool b, .bl b, by cases b <;> decide +kernel, by cases b <;> decide +kernel⟩
  | int i _ _ => exact ⟨.int i, .int i, by unfold SeqAt.shaped; simp only [PyData.canLay0, PyData.depth]; rfl, by simp only [PyData.eqv, beq_self_eq_true]⟩
  | @lst a l e hp _ => exact ⟨_, .lst (.inl (.inl e)) (dp_strs l), shaped_lst hp, eqv_lsts l⟩
  | @tup a l e hp _ => exact ⟨_, .tup (.inl (.inl e)) (dp_strs l), shaped_tup hp, eqv_tups l⟩
theorem takes0X {X : Cx} : Takes X (fun _ _ _ _ => False) := fun _ _ x => by
  obtain ⟨_, _, _, _, _, _, _, _, _, _, _, _, _, _, _, _, z⟩ := x
  exact z.elim
def spLRefused (K : PySem.W.Frag) (Cg Cr : Addr) : Sp := fun vs H Q _ => ∃ (p l : Addr) (x : V), vs = [.ref p, .ref l, x] ∧ Shown K H x ∧ (∀ (Cn : Addr) (E : XK) (Q' : VK), (∀ H' d, Same H H' → H' d = none → E (.ref Cn) (some d) (upd H' d (.xd [(("name" : Str), x)]))) → spLinePX K Cg Cr Cn [.ref p, .ref l] H Q' E) ∧
  ∀ H', Same H H' → Q (.bl true) H'
section
variable {P : Program} {w : World} {K : PySem.W.Frag} {mg : Str → Option Value} {base : Heap} {tS tM tL : Tok}
theorem ok_lrefused {f fF Cg Cr Cn Cw : Addr} {fd fdF : FuncData} (F : FnP K "_law_refused" sLRefused f fd) (FF : FnP K "line_pairs" sLinePairs fF fdF) (gF : mg "line_pairs" = some (.ref fF)) (GF : FnOk P w K mg base (L2.CX P w) 9 fF fdF ["rights", "names"] (spLinePX K Cg Cr Cn)) (R : Er K mg Cn Cw) (B : Bl mg) : FnOk P w K mg base CX0 10 f fd ["_law_told", "_law_names_here", "_law_odd"] (spLRefused K Cg Cr) := by
  have bF : Binds K fdF ["rights", "names"] [] := FF.bindsN fun _ _ _ _ _ _ us hl => match us, hl with | [_, _], _ => rfl
  refine F.ok scLRefused (fun vs H Q E h => ?_) (fun cdv A outer s H vs Q E hr h => ?_)
  · obtain ⟨p, l, x, rfl, _⟩ := h
    rfl
  · obtain ⟨p, l, x, rfl, hsh, hask, k⟩ := h
    have hu64 := hr.units
    have hrF : Room 9 _ := hr
    refine ⟨_, PSs.nox (pss_cons (k0_try_named
      (l := [⟨.ref Cn, some 3, fun a cls d => tRet (tOp (rEqD K) (tXf a cls d Cn "name" (tVar 3)) (tVar 2))⟩, ⟨.ref Cw, none, fun _ _ _ => tRet (tC (V.bl false))⟩])
      rfl rfl takes0X (fun W pn xe tk _ => pss_one (ps_expr (pe_callS GF hrF (by rfl) gF FF.kp bF (fun σ => passAt tk σ) (pa_cons (pv 0) (pa_cons (pv 1) pa_nil)))))
      (.more ⟨rfl, by decide, .inl R.mN⟩ ⟨scLRefused.nd, rfl, rfl⟩ (fun a oe cls d pn hz hf => by
          dsimp only
          exact pss_one (ps_ret (pe_cmpR (eqDX (K := K) hu64) (pe_xf R.xn R.hname hz hf (pv 3)) (pv 2) (nomark _))))
      (.more ⟨rfl, by decide, .inl R.mW⟩ trivial (fun a oe cls d pn hz hf => pss_one (ps_ret pe_bl)) .done)))
      (pss_one (ps_ret pe_bl))), ?_⟩
    refine ⟨_, rfl, _, rfl, hask Cn _ _ fun H1 d s1 hd => ?_⟩
    have s2 : Same H1 (upd H1 d (.xd [(("name" : Str), x)])) := same_upd hd
    have hd2 : (upd H1 d (.xd [(("name" : Str), x)])) d = some (.xd [(("name" : Str), x)]) := upd_same
    generalize upd H1 d (.xd [(("name" : Str), x)]) = H2 at s2 hd2
    obtain ⟨dt, g1, g2, g3⟩ := shown_eq (hsh.same fun b o e _ => (s1.trans s2) _ _ e)
    refine ⟨true, R.nn, fun _ a na => ?_, fun z => by cases z⟩
    refine ⟨_, rfl, rfl, rfl, d, _, x, rfl, hd2, rfl, _, rfl, dt, dt, g1, g1, g2, g2, ?_⟩
    rw [g3]
    exact k H2 (s1.trans s2)
end
end K0
end
section
set_option Elab.async false
set_option linter.all false
set_option maxRecDepth 100000
set_option maxHeartbeats 8000000
namespace K0
open PySem PySem.Spec PyProof.Rows L2
/-! ### the law's ring: as the program's -/
abbrev scLRing_N : List Str := ["_law_rows", "_law_ways", "_law_ahead_here", "_law_beats", "_law_weir", "_law_below", "_law_names_here", "_law_place", "_law_a", "_law_mid", "_law_c", "_law_b", "_law_pair", "_law_name"]
abbrev scLRing_S : Stmt := sLRing
theorem scLRing : FnScope scLRing_N ["_law_rows", "_law_ways", "_law_ahead_here"] (defScope sLRing) := ⟨rfl, rfl, rfl, by decide +kernel, rfl, by decide +kernel, by decide +kernel⟩
/-- (weir, three) or None -/
def OptW (H : Hp) (v : V) : Option (Str × Tri) → Prop
  | none => v = .non
  | some r => ∃ t u, v = .ref t ∧ H t = some (.tup [.str r.1, .ref u]) ∧ H u = some (.tup [.str r.2.1, .str r.2.2.1, .str r.2.2.2])
/-- three asks in a row -/
theorem ask_three {σ : L2.St} {H : Hp} {i1 j1 i2 j2 i3 j3 m : Nat} {x1 y1 x2 y2 x3 y3 : Str} {D : Addr} {A : List Row} {Q : Bool → Hp → Prop} (a1 : σ[i1]? = some (some (.str x1))) (b1 : σ[j1]? = some (some (.str y1))) (a2 : σ[i2]? = some (some (.str x2))) (b2 : σ[j2]? = some (some (.str y2))) (a3 : σ[i3]? = some (some (.str x3))) (b3 : σ[j3]? = some (some (.str y3))) (hm : σ[m]? = some (some (.ref D))) (hD : H D = some (.dT (toldD A))) (k : ∀ H2, Same H H2 → Q (decide ((x1, y1) ∈ A ∧ (x2, y2) ∈ A ∧ (x3, y3) ∈ A)) H2) : tAnd (tTold i1 j1 m) (tAnd (tTold i2 j2 m) (tTold i3 j3 m)) σ H Q := by
  have no : ∀ {H2}, Same H H2 → ¬ ((x1, y1) ∈ A ∧ (x2, y2) ∈ A ∧ (x3, y3) ∈ A) → Q false H2 := fun {H2} s n => by
    have := k H2 s
    rw [decide_eq_false n] at this
    exact this
  refine ask_told a1 b1 hm hD fun H2 s2 => ?_
  refine ite2 (fun h1 => ?_) (fun h1 => ?_)
  · refine ask_told a2 b2 hm (s2 _ _ hD) fun H3 s3 => ?_
    refine ite2 (fun h2 => ?_) (fun h2 => ?_)
    · refine ask_told a3 b3 hm ((s2.trans s3) _ _ hD) fun H4 s4 => ?_
      have := k H4 ((s2.trans s3).trans s4)
      have e : decide ((x1, y1) ∈ A ∧ (x2, y2) ∈ A ∧ (x3, y3) ∈ A) = decide ((x3, y3) ∈ A) := decide_eq_decide.mpr ⟨fun z => z.2.2, fun z => ⟨of_decide_eq_true h1, of_decide_eq_true h2, z⟩⟩
      rw [e] at this
      exact this
    · exact no (s2.trans s3) fun z => h2 (decide_eq_true z.2.1)
  · exact no s2 fun z => h1 (decide_eq_true z.1)
def spLRing : Sp := fun vs H Q _ => ∃ (l d h : Addr) (AR AP : List (Addr × Row)) (B : List RRow), vs = [.ref l, .ref d, .ref h] ∧ RowsAt H l AR ∧ WaysL H d (rnm B) (wayN (rowsOf AR) B) ∧ RowsAt H h AP ∧ GoodRows (rowsOf AR) ∧ RtOk (rowsOf AR) B ∧ AP.length ≤ 1640 ∧ ∀ H' v, Same H H' → OptW H' v (firstRing (rowsOf AP) (rowsOf AR) B (namesOf AR)) → Q v H'
section
variable {P : Program} {w : World} {K : PySem.W.Frag} {mg : Str → Option Value} {base : Heap} {tS tM tL : Tok}
theorem ok_lring {f : Addr} {fd : FuncData} (F : FnP K "_law_ring" sLRing f fd) (B : Bl mg) : FnOk P w K mg base CX0 1 f fd ["_law_rows", "_law_ways", "_law_ahead_here"] spLRing := by
  refine F.ok scLRing (fun vs H Q E h => ?_) (fun cdv A outer s H vs Q E hr h => ?_)
  · obtain ⟨l, d, h, AR, AP, BB, rfl, _⟩ := h
    rfl
  · obtain ⟨l, d, h, AR, AP, BB, rfl, hR, W, hA, hg, hb, hAl, k⟩ := h
    have hu := hu_of hr
    have hu64 := hr.units
    have hu2 : (A.deeper (envOfC "_law_ring" (defScope sLRing) s.heap.objs.size f cdv)).units + 2 < cLine := by omega
    refine ⟨_, PSs.nox (pss_cons
      (ps_set (i := 3) scLRing.nd rfl (Or.inl rfl) (pe_callTy (call_dictT hu2 rfl) (by rfl) B.dict (by decide +kernel) (pa_cons (pe_lc (own := [("_law_pair", 12)]) (g := gName 12) (tt := tYes) (by rfl) scLRing.nd (pi_list (pv 2)) (blkOk_by (own := [("_law_pair", 12)]) (N := scLRing_N) (sc := defScope scLRing_S) (by decide +kernel)) (fun _ _ _ _ _ => (pg_name (i := 12) scLRing.nd rfl (Or.inl rfl))) (fun _ _ _ _ _ => pts_nil) (fun _ _ _ _ _ => (pe_tup (pa_cons (pv 12) (pa_cons pe_bl pa_nil))))) pa_nil)))
      (pss_cons
      (ps_for PassesOwn.never rfl (pi_list (pv 0)) (tgK (K := K) (n := 2) (by rfl) (pgs_cons (pg_name (i := 4) scLRing.nd rfl (Or.inr rfl)) (pgs_cons (pg_name (i := 5) scLRing.nd rfl (Or.inl rfl)) pgs_nil))) (pss_cons
      (ps_lock (ps_setLc (i := 6) (own := [("_law_name", 13)]) (g := gName 13)  (by rfl) scLRing.nd rfl rfl (sw_true rfl rfl rfl (by decide +kernel)) (pi_keys (pv 1)) (blkOk_by (own := [("_law_name", 13)]) (N := scLRing_N) (sc := defScope scLRing_S) (by decide +kernel)) (fun _ _ _ _ _ => (pg_name (i := 13) scLRing.nd rfl (Or.inl rfl))) (fun _ _ _ _ _ => (pts_one (pt_cmpR (inK (K := K)) (pv 4) (pe_dget hu (pv 1) (pv 13) (fun _ _ => rfl)) (by rfl)))) (fun _ _ _ _ _ => (pv 13))))
      (pss_one
      (ps_for PassesOwn.never rfl (pi_enum (by rfl) B.enumerate (pa_cons (pv 6) pa_nil)) (tgK (K := K) (n := 2) (by rfl) (pgs_cons (pg_name (i := 7) scLRing.nd rfl (Or.inl rfl)) (pgs_cons (pg_name (i := 8) scLRing.nd rfl (Or.inl rfl)) pgs_nil))) (pss_one
      (ps_for PassesOwn.never rfl (pi_range2 (by rfl) B.range (pa_cons (pe_op op_add (pv 7) pe_int) (pa_cons (pe_callB (lenK (K := K)) (by rfl) B.len PySem.boot_len (pa_cons (pv 6) pa_nil)) pa_nil))) (pg_name (i := 9) scLRing.nd rfl (Or.inl rfl)) (pss_one
      (ps_for PassesOwn.never rfl (pi_list (pe_slice sl_list (pv 6) (po_some (pe_op op_add (pv 9) pe_int)) po_none)) (pg_name (i := 10) scLRing.nd rfl (Or.inl rfl)) (pss_cons
      (ps_set (i := 11) scLRing.nd rfl (Or.inl rfl) (pe_ix (ixLK (K := K)) (pv 6) (pv 9) (fun _ _ => rfl)))
      (pss_cons
      (ps_if (PW.pt (pw_and (pt_cmp (pc_din hu (pe_tup (pa_cons (pv 8) (pa_cons (pv 11) pa_nil))) (pv 3))) (pw_and (pt_cmp (pc_din hu (pe_tup (pa_cons (pv 11) (pa_cons (pv 10) pa_nil))) (pv 3))) (pw_and1 (pt_cmp (pc_din hu (pe_tup (pa_cons (pv 10) (pa_cons (pv 8) pa_nil))) (pv 3))))))) (pss_one
      (ps_ret (pe_tup (pa_cons (pv 4) (pa_cons (pe_tup (pa_cons (pv 8) (pa_cons (pv 11) (pa_cons (pv 10) pa_nil)))) pa_nil))))) pss_nil)
      (pss_one
      (ps_if (PW.pt (pw_and (pt_cmp (pc_din hu (pe_tup (pa_cons (pv 8) (pa_cons (pv 10) pa_nil))) (pv 3))) (pw_and (pt_cmp (pc_din hu (pe_tup (pa_cons (pv 10) (pa_cons (pv 11) pa_nil))) (pv 3))) (pw_and1 (pt_cmp (pc_din hu (pe_tup (pa_cons (pv 11) (pa_cons (pv 8) pa_nil))) (pv 3))))))) (pss_one
      (ps_ret (pe_tup (pa_cons (pv 4) (pa_cons (pe_tup (pa_cons (pv 8) (pa_cons (pv 10) (pa_cons (pv 11) pa_nil)))) pa_nil))))) pss_nil))))))))))))
      (pss_one
      (ps_ret pe_non)))), ?_⟩
    have hm := hb.most
    have hln : (rnm BB).length = BB.length := List.length_map _
    have hAr : (rowsOf AP).length = AP.length := List.length_map _
    have hal : (namesOf AR).length = AR.length := nmlen AR
    have z40 : 40000 ≤ sizeLine := by rw [sizeLine_eq]; omega
    -- beats
    refine ⟨_, rfl, h, rfl, ⟨_, .inl (.inl hA.lst)⟩, fun bl nbl => ?_⟩
    refine lc_list (K := K) (a := h) (xs := AP.map fun q => V.ref q.1) (fun i H2 => Same H H2 ∧ ∃ qs : List (Addr × Addr × List Key), H2 bl = some (.lst (qs.map fun q => V.ref q.1)) ∧ (qs.map fun q => q.2.2) = ((rowsOf AP).take i).map pkR ∧ ∀ q ∈ qs, H2 q.1 = some (.tup [.ref q.2.1, .bl true]) ∧ H2 q.2.1 = some (.tup (q.2.2.map kV))) ⟨same_upd nbl, [], upd_same, rfl, fun q hq => by cases hq⟩ (fun i H2 _ hh => .inl (.inl (hh.1 _ _ hA.lst))) ?_ ?_
    · rintro i x H2 hx ⟨s2, qs, hq1, hq2, hq3⟩
      have hi : i < AP.length := by
        have := (List.getElem?_eq_some_iff.mp hx).1
        rw [List.length_map] at this
        exact this
      rw [List.getElem?_map, List.getElem?_eq_getElem hi] at hx
      obtain rfl : V.ref AP[i].1 = x := Option.some.inj hx
      have hri : (rowsOf AP)[i]? = some AP[i].2 := by rw [List.getElem?_map, List.getElem?_eq_getElem hi]; rfl
      have ht := s2 _ _ (hA.tup _ (List.getElem_mem hi))
      refine ⟨rfl, ?_⟩
      unfold tYes
      refine iteT ?_
      refine ⟨_, rfl, by show 2 ≤ sizeLine; decide, fun t nt => ?_⟩
      have bt : bl ≠ t := ne_of_none hq1 nt
      have hql : qs.length ≤ 1640 := by
        have e := congrArg List.length hq2
        rw [List.length_map, List.length_map, List.length_take] at e
        omega
      refine ⟨_, by rw [upd_ne bt]; exact hq1, by rw [List.length_map]; omega, fun b o e => ?_, qs ++ [(t, AP[i].1, pkR AP[i].2)], by rw [upd_same, List.map_append]; rfl, ?_, fun q hq => ?_⟩
      · rw [upd_ne (ne_of_none e nbl), upd_ne (ne_of_none (s2 _ _ e) nt)]
        exact s2 _ _ e
      · rw [List.map_append, hq2, take_map1 hri]
        rfl
      · have up : ∀ {b : Addr} {ys : List V}, H2 b = some (.tup ys) → (upd (upd H2 t (.tup [.ref AP[i].1, .bl true])) bl (.lst ((qs.map fun q => V.ref q.1) ++ [.ref t]))) b = some (.tup ys) := fun {b ys} e => by
          rw [upd_ne (ne_of e hq1 (fun z => by cases z)), upd_ne (ne_of_none e nt)]
          exact e
        rcases List.mem_append.mp hq with hq | hq
        · exact ⟨up (hq3 q hq).1, up (hq3 q hq).2⟩
        · rw [List.mem_singleton.mp hq]
          refine ⟨by rw [upd_ne bt.symm]; exact upd_same, ?_⟩
          exact up ht
    rintro H2 ⟨s2, qs, hq1, hq2, hq3⟩
    refine ⟨bl, qs, rfl, .inl (.inl hq1), hq3, fun D nD => ?_⟩
    have eD : trueT (qs.map fun q => q.2.2) [] = toldD (rowsOf AP) := by
      rw [hq2, List.length_map, ← hAr, List.take_length]
      rfl
    rw [eD]
    have s3 : Same H2 (upd H2 D (.dT (toldD (rowsOf AP)))) := same_upd nD
    have hD3 : (upd H2 D (.dT (toldD (rowsOf AP)))) D = some (.dT (toldD (rowsOf AP))) := upd_same
    generalize upd H2 D (.dT (toldD (rowsOf AP))) = H3 at s3 hD3
    have s13 := s2.trans s3
    have rowat : ∀ {i : Nat} (hi : i < AR.length), (namesOf AR)[i]? = some AR[i].2.1 := fun {i} hi => by
      show (((AR.map (·.2)).map (·.1)))[i]? = _
      rw [List.getElem?_map, List.getElem?_map, List.getElem?_eq_getElem hi]
      rfl
    refine ⟨_, rfl, l, rfl, ⟨_, .inl (.inl (s13 _ _ hR.lst))⟩, ?_⟩
    refine for_list (K := K) (a := l) (xs := AR.map fun q => V.ref q.1) (fun i σ H4 => ∃ v4 v5 v6 v7 v8 v9 v10 v11, σ = [some (.ref l), some (.ref d), some (.ref h), some (.ref D), v4, v5, v6, v7, v8, v9, v10, v11, none, none] ∧ Same H3 H4 ∧ firstRing (rowsOf AP) (rowsOf AR) BB (namesOf AR) = firstRing (rowsOf AP) (rowsOf AR) BB ((namesOf AR).drop i))
      ⟨_, _, _, _, _, _, _, _, rfl, .refl _, rfl⟩ (fun i σ H4 hi hh => by
        obtain ⟨_, _, _, _, _, _, _, _, _, s, _⟩ := hh
        exact .inl (.inl (s _ _ (s13 _ _ hR.lst)))) ?_ ?_
    · rintro i x σ H4 hx ⟨v4, v5, v6, v7, v8, v9, v10, v11, rfl, s4, hf⟩
      have hi : i < AR.length := by
        have := (List.getElem?_eq_some_iff.mp hx).1
        rw [List.length_map] at this
        exact this
      have ex := row_at hx hi
      subst ex
      have hdr : (namesOf AR).drop i = AR[i].2.1 :: (namesOf AR).drop (i + 1) := by
        obtain ⟨hlt, e⟩ := List.getElem?_eq_some_iff.mp (rowat hi)
        rw [List.drop_eq_getElem_cons hlt, e]
      rw [hdr] at hf
      unfold firstRing at hf
      rw [List.findSome?_cons] at hf
      have s14 := s13.trans s4
      refine ⟨AR[i].1, _, rfl, .inl (.inl (s14 _ _ (hR.tup _ (List.getElem_mem hi)))), rfl, _, _, rfl, _, _, rfl, rfl, ?_⟩
      generalize AR[i].2.1 = wr at hf
      generalize AR[i].2.2 = lo
      obtain ⟨ta, w1, w2⟩ := id (W.same s14).ex
      refine ⟨d, _, w1, trivial, fun od => ?_⟩
      refine ⟨_, rfl, d, od, rfl, .inl ⟨_, upd_same, fun nl hnl => ?_⟩⟩
      have hfz : ∀ H5, Same (upd H4 d (.frz od (.dK (kmap (fun y => .ref (ta y)) (rnm BB))))) H5 → H5 d = some (.frz od (.dK (kmap (fun y => .ref (ta y)) (rnm BB)))) := fun H5 s => s _ _ upd_same
      have hwf : ∀ y ∈ rnm BB, (upd H4 d (.frz od (.dK (kmap (fun y => .ref (ta y)) (rnm BB))))) (ta y) = some (.lst ((wayN (rowsOf AR) BB y).map V.str)) := fun y hy => by
        rw [upd_ne (ne_of (w2 y hy) w1 (fun z => by cases z))]
        exact w2 y hy
      refine lc_itO (walk_keys (kvs := kmap (fun y => .ref (ta y)) (rnm BB))) hnl (fun j => (((rnm BB).take j).filter fun n => decide (wr ∈ wayN (rowsOf AR) BB n)).map V.str) (by rw [List.take_zero]; rfl) (fun j _ => filt_size (by omega) j) (fun H5 s => hfz _ s) ?_ ?_
      · rintro j x H5 H5' Nx hj s hcur put skip ⟨rfl, k0, v0, hkv, rfl⟩
        obtain ⟨n, hn, rfl, rfl⟩ := kmap_get hkv
        have hnm : n ∈ rnm BB := List.mem_of_getElem? hn
        have e := filt_take (p := fun n => decide (wr ∈ wayN (rowsOf AR) BB n)) hn
        refine ⟨rfl, ?_⟩
        refine ⟨_, rfl, _, rfl, _, rfl, d, _, rfl, dget_rn (.inr ⟨od, hfz _ s⟩) hnm, ta n, _, rfl, .inl (.inl (.inl (s _ _ (hwf n hnm)))), rfl, flat_strs _, _, rfl, ?_⟩
        rw [inV_str]
        refine ite2 (fun hh => ?_) (fun hh => ?_)
        · have hh : decide (wr ∈ wayN (rowsOf AR) BB n) = true := hh
          rw [if_pos hh] at e
          refine ⟨_, rfl, put _ _ (.refl _) ?_⟩
          rw [e, List.map_append]
          rfl
        · have hh : ¬ decide (wr ∈ wayN (rowsOf AR) BB n) = true := hh
          rw [if_neg hh, List.append_nil] at e
          exact skip _ (.refl _) (congrArg _ e)
      intro H5 s5 hnl5
      rw [kmap_len, List.take_length] at hnl5
      have dnl : nl ≠ d := fun z => by rw [z, upd_same] at hnl; cases hnl
      refine ⟨hfz _ s5, ?_⟩
      have s6 : Same H4 (upd H5 d (.dK (kmap (fun y => V.ref (ta y)) (rnm BB)))) := same_unlock w1 s5
      have hN6 : (upd H5 d (.dK (kmap (fun y => V.ref (ta y)) (rnm BB)))) nl = some (.lst ((passR (rowsOf AR) BB wr).map V.str)) := by rw [upd_ne dnl]; exact hnl5
      generalize upd H5 d (.dK (kmap (fun y => V.ref (ta y)) (rnm BB))) = H6 at s6 hN6
      have hPl : (passR (rowsOf AR) BB wr).length ≤ 40 := Nat.le_trans (List.length_filter_le _ _) (by omega)
      have s16 := s14.trans s6
      have hD6 : H6 D = some (.dT (toldD (rowsOf AP))) := s6 _ _ (s4 _ _ hD3)
      -- what is found
      have found : ∀ {H' : Hp} {v : V} {tr : Tri}, Same H6 H' → ring1 (rowsOf AP) (passR (rowsOf AR) BB wr) = some tr → OptW H' v (some (wr, tr)) → Q v H' := fun {H' v tr} sx e o => by
        refine k H' v (s16.trans sx) ?_
        rw [e] at hf
        have e2 : firstRing (rowsOf AP) (rowsOf AR) BB (namesOf AR) = some (wr, tr) := hf
        rw [e2]
        exact o
      have going : ring1 (rowsOf AP) (passR (rowsOf AR) BB wr) = none → firstRing (rowsOf AP) (rowsOf AR) BB (namesOf AR) = firstRing (rowsOf AP) (rowsOf AR) BB ((namesOf AR).drop (i + 1)) := fun e => by
        rw [e] at hf
        exact hf
      clear hf hnl5 hwf hfz s5
      generalize passR (rowsOf AR) BB wr = ns at hN6 hPl found going
      generalize rowsOf AP = AA at hD6 found going
      have hnl' : (ns.map V.str).length = ns.length := List.length_map _
      refine ⟨_, rfl, nl, _, rfl, .inl (.inl hN6), ?_⟩
      refine for_it (walk_enum (K := K) (a := nl) (xs := ns.map V.str)) (fun j σ H7 => ∃ v7 v8 v9 v10 v11, σ = [some (.ref l), some (.ref d), some (.ref h), some (.ref D), some (.str wr), some (.str lo), some (.ref nl), v7, v8, v9, v10, v11, none, none] ∧ Same H6 H7 ∧ ring1 AA ns = ring1 AA (ns.drop j))
        ⟨_, _, _, _, _, rfl, .refl _, rfl⟩ (fun _ _ _ _ hh => by obtain ⟨_, _, _, _, _, _, s, _⟩ := hh; exact .inl (.inl (s _ _ hN6))) ?_ ?_
      · rintro j x σ H7 H8 hj ⟨u7, u8, u9, u10, u11, rfl, s7, hr1⟩ ⟨T, x1, x2, rfl, hT, rfl, e1, e2⟩
        rw [hnl'] at hj
        cases e1
        have e2 : (ns.map V.str)[j]? = some x2 := e2
        rw [List.getElem?_map, List.getElem?_eq_getElem hj] at e2
        obtain rfl : V.str ns[j] = x2 := Option.some.inj e2
        have hdr : ns.drop j = ns[j] :: ns.drop (j + 1) := List.drop_eq_getElem_cons hj
        have s8 : Same H6 (upd H7 T (.tup [.int (j : Nat), .str ns[j]])) := s7.trans (same_upd hT)
        refine ⟨T, _, rfl, .inl (.inl upd_same), rfl, _, _, rfl, _, _, rfl, rfl, ?_⟩
        generalize upd H7 T (.tup [.int (j : Nat), .str ns[j]]) = H8 at s8
        rw [hdr] at hr1
        have hq1 : ring1 AA ns = (ring2 AA ns[j] (ns.drop (j + 1))).or (ring1 AA (ns.drop (j + 1))) := hr1
        clear hr1
        generalize ns[j] = a at hq1
        refine ⟨_, rfl, _, _, rfl, rfl, _, rfl, nl, _, rfl, .inl (.inl (.inl (s8 _ _ hN6))), ?_⟩
        rw [hnl']
        refine ⟨_, _, rfl, ⟨by omega, by omega, by omega, by omega⟩, ?_⟩
        refine for_range (n := ((ns.length : Int) - ((j : Int) + 1)).toNat) (lo := (j : Int) + 1) (fun i2 σ H9 => ∃ v9 v10 v11, σ = [some (.ref l), some (.ref d), some (.ref h), some (.ref D), some (.str wr), some (.str lo), some (.ref nl), some (.int (j : Nat)), some (.str a), v9, v10, v11, none, none] ∧ Same H6 H9 ∧ ring2 AA a (ns.drop (j + 1)) = ring2 AA a (ns.drop (j + 1 + i2)))
          ⟨_, _, _, rfl, s8, rfl⟩ ?_ ?_
        · rintro i2 σ H9 hi2 ⟨u9, u10, u11, rfl, s9, hr2⟩
          have hm9 : j + 1 + i2 < ns.length := by omega
          have eat : ((j : Int) + 1) + (i2 : Int) = ((j + 1 + i2 : Nat) : Int) := by omega
          rw [eat]
          have hdr2 : ns.drop (j + 1 + i2) = ns[j + 1 + i2] :: ns.drop (j + 1 + i2 + 1) := List.drop_eq_getElem_cons hm9
          rw [hdr2] at hr2
          have hq2 : ring2 AA a (ns.drop (j + 1)) = ((ns.drop (j + 1 + i2 + 1)).findSome? (turnT AA a ns[j + 1 + i2])).or (ring2 AA a (ns.drop (j + 1 + i2 + 1))) := hr2
          clear hr2
          have hbm : ns[j + 1 + i2]? = some ns[j + 1 + i2] := List.getElem?_eq_getElem hm9
          generalize ns[j + 1 + i2] = b at hq2 hbm
          generalize hme : j + 1 + i2 = m at hm9 hq2 hbm ⊢
          have hcut : cutV (ns.map V.str) (some ((m : Int) + 1)) none = (ns.drop (m + 1)).map V.str := by
            have e := cut_drop (ns.map V.str) (m + 1)
            rw [List.map_drop]
            exact e
          refine ⟨_, rfl, _, rfl, _, _, rfl, rfl, _, rfl, nl, _, rfl, .inl (.inl (s9 _ _ hN6)), fun u nu => ?_⟩
          rw [hcut]
          have s10 : Same H6 (upd H9 u (.lst ((ns.drop (m + 1)).map V.str))) := s9.trans (same_upd nu)
          have hu10 : (upd H9 u (.lst ((ns.drop (m + 1)).map V.str))) u = some (.lst ((ns.drop (m + 1)).map V.str)) := upd_same
          generalize upd H9 u (.lst ((ns.drop (m + 1)).map V.str)) = H10 at s10 hu10
          refine ⟨u, rfl, ⟨_, .inl (.inl hu10)⟩, ?_⟩
          refine for_list (K := K) (a := u) (xs := (ns.drop (m + 1)).map V.str) (fun i3 σ H11 => ∃ v10 v11, σ = [some (.ref l), some (.ref d), some (.ref h), some (.ref D), some (.str wr), some (.str lo), some (.ref nl), some (.int (j : Nat)), some (.str a), some (.int (m : Nat)), v10, v11, none, none] ∧ Same H6 H11 ∧ H11 u = some (.lst ((ns.drop (m + 1)).map V.str)) ∧ (ns.drop (m + 1)).findSome? (turnT AA a b) = ((ns.drop (m + 1)).drop i3).findSome? (turnT AA a b))
            ⟨_, _, rfl, s10, hu10, rfl⟩ (fun i3 σ H11 _ hh => by obtain ⟨_, _, _, _, hh, _⟩ := hh; exact .inl (.inl hh)) ?_ ?_
          · rintro i3 x σ H11 hx ⟨z10, z11, rfl, s11, hu11, hr3⟩
            rw [List.getElem?_map] at hx
            obtain ⟨c, hc, rfl⟩ := Option.map_eq_some_iff.mp hx
            have hdr3 : (ns.drop (m + 1)).drop i3 = c :: (ns.drop (m + 1)).drop (i3 + 1) := by
              obtain ⟨hlt, e⟩ := List.getElem?_eq_some_iff.mp hc
              rw [List.drop_eq_getElem_cons hlt, e]
            rw [hdr3, List.findSome?_cons] at hr3
            have gone : turnT AA a b c = none → (ns.drop (m + 1)).findSome? (turnT AA a b) = ((ns.drop (m + 1)).drop (i3 + 1)).findSome? (turnT AA a b) := fun e => by
              rw [e] at hr3
              exact hr3
            have got : ∀ {tr : Tri}, turnT AA a b c = some tr → ring1 AA ns = some tr := fun {tr} e => by
              rw [e] at hr3
              have e2 : ring2 AA a (ns.drop (j + 1)) = some tr := by rw [hq2, hr3]; rfl
              rw [hq1, e2]
              rfl
            have hD11 : H11 D = some (.dT (toldD AA)) := s11 _ _ hD6
            refine ⟨_, rfl, _, rfl, nl, _, _, .str b, rfl, rfl, .inl (.inl (s11 _ _ hN6)), at_of (j := m) (by omega) (by rw [List.getElem?_map, hbm]; rfl), ?_⟩
            have give : ∀ {H12 : Hp} (x y z : Str), Same H11 H12 → turnT AA a b c = some (x, y, z) → (2 ≤ sizeLine ∧ True) → ∀ t1, H12 t1 = none → ∀ t2, (upd H12 t1 (.tup [.str x, .str y, .str z])) t2 = none → Q (.ref t2) (upd (upd H12 t1 (.tup [.str x, .str y, .str z])) t2 (.tup [.str wr, .ref t1])) := fun {H12} x y z sx e _ t1 n1 t2 n2 => by
              refine found ((s11.trans sx).trans ((same_upd n1).trans (same_upd n2))) (got e) ⟨t2, t1, rfl, upd_same, ?_⟩
              rw [upd_ne (ne_of_none (H := upd H12 t1 (.tup [.str x, .str y, .str z])) (o := .tup [.str x, .str y, .str z]) upd_same n2)]
              exact upd_same
            refine ask_three rfl rfl rfl rfl rfl rfl rfl hD11 fun H12 s12 => ?_
            refine ite2 (fun h1 => ?_) (fun h1 => ?_)
            · have h1 := of_decide_eq_true h1
              have e : turnT AA a b c = some (a, b, c) := if_pos h1
              refine ⟨_, rfl, _, rfl, _, rfl, _, rfl, by show 3 ≤ sizeLine; decide, fun t1 n1 => ⟨by show 2 ≤ sizeLine; decide, fun t2 n2 => ?_⟩⟩
              exact give _ _ _ s12 e ⟨by decide, trivial⟩ t1 n1 t2 n2
            · have h1 : ¬ ((a, b) ∈ AA ∧ (b, c) ∈ AA ∧ (c, a) ∈ AA) := fun z => h1 (decide_eq_true z)
              refine ask_three rfl rfl rfl rfl rfl rfl rfl (s12 _ _ hD11) fun H13 s13 => ?_
              refine ite2 (fun h2 => ?_) (fun h2 => ?_)
              · have h2 := of_decide_eq_true h2
                have e : turnT AA a b c = some (a, c, b) := by unfold turnT; rw [if_neg h1, if_pos h2]
                refine ⟨_, rfl, _, rfl, _, rfl, _, rfl, by show 3 ≤ sizeLine; decide, fun t1 n1 => ⟨by show 2 ≤ sizeLine; decide, fun t2 n2 => ?_⟩⟩
                exact give _ _ _ (s12.trans s13) e ⟨by decide, trivial⟩ t1 n1 t2 n2
              · have h2 : ¬ ((a, c) ∈ AA ∧ (c, b) ∈ AA ∧ (b, a) ∈ AA) := fun z => h2 (decide_eq_true z)
                have e : turnT AA a b c = none := by unfold turnT; rw [if_neg h1, if_neg h2]
                have s14 := s12.trans s13
                exact ⟨_, _, rfl, s11.trans s14, s14 _ _ hu11, gone e⟩
          · rintro σ H11 ⟨z10, z11, rfl, s11, hu11, hr3⟩
            rw [List.length_map, List.drop_length] at hr3
            have hr3 : (ns.drop (m + 1)).findSome? (turnT AA a b) = none := hr3
            refine ⟨_, _, _, rfl, s11, ?_⟩
            rw [hq2, hr3, ← Nat.add_assoc, hme]
            rfl
        · rintro σ H9 ⟨u9, u10, u11, rfl, s9, hr2⟩
          have e : j + 1 + ((ns.length : Int) - ((j : Int) + 1)).toNat = ns.length := by omega
          rw [e, List.drop_length] at hr2
          refine ⟨_, _, _, _, _, rfl, s9, ?_⟩
          rw [hq1, hr2]
          rfl
      · rintro σ H7 ⟨u7, u8, u9, u10, u11, rfl, s7, hr1⟩
        rw [hnl', List.drop_length] at hr1
        exact ⟨_, _, _, _, _, _, _, _, rfl, (s4.trans s6).trans s7, going hr1⟩
    · rintro σ H4 ⟨v4, v5, v6, v7, v8, v9, v10, v11, rfl, s4, hf⟩
      rw [List.length_map, ← hal, List.drop_length] at hf
      refine k H4 .non (s13.trans s4) ?_
      rw [hf]
      rfl
end
end K0
end
section
set_option Elab.async false
set_option linter.all false
set_option maxRecDepth 100000
set_option maxHeartbeats 8000000
namespace K0
open PySem PySem.Spec PyProof.Rows L2
/-! ### the law's line: as the program's -/
theorem goLine_none {A : List Row} {L : List Str} (h : firstFree A L = none) : ∀ k : Nat, goLine A k L = []
  | 0 => rfl
  | k + 1 => by simp only [goLine, h]
theorem in_behind (A : List Row) (L : List Str) (n : Str) : decide (n ∈ (A.filter fun r => decide (r.1 ∈ L)).map (·.2)) = behind A L n := by
  rw [Bool.eq_iff_iff, decide_eq_true_iff]
  unfold behind
  rw [List.any_eq_true]
  constructor
  · intro h
    obtain ⟨r, hr, e⟩ := List.mem_map.mp h
    obtain ⟨h1, h2⟩ := List.mem_filter.mp hr
    subst e
    exact ⟨r.1, of_decide_eq_true h2, decide_eq_true h1⟩
  · rintro ⟨o, ho, h⟩
    exact List.mem_map.mpr ⟨(o, n), List.mem_filter.mpr ⟨of_decide_eq_true h, decide_eq_true ho⟩, rfl⟩
theorem line_step {A : List Row} {L dn dn' : List Str} {k : Nat} (hd : L.Nodup) (hn : ∀ y ∈ L, y ∉ dn) (e : dn' = dn ++ (L.filter fun n => !behind A L n).take 1) : dn ++ goLine A (k + 1) L = dn' ++ goLine A k (L.filter fun y => !decide (y ∈ dn')) := by
  have hh : (L.filter fun n => !behind A L n).head? = firstFree A L := List.head?_filter
  cases q : firstFree A L with
  | none =>
    rw [q, List.head?_eq_none_iff] at hh
    rw [hh, List.take_nil, List.append_nil] at e
    subst e
    have : (L.filter fun y => !decide (y ∈ dn')) = L := List.filter_eq_self.mpr fun y hy => by rw [decide_eq_false (hn y hy)]; rfl
    rw [this, goLine_none q, goLine_none q]
  | some n =>
    rw [q] at hh
    obtain ⟨r, hr⟩ := List.head?_eq_some_iff.mp hh
    rw [hr] at e
    have e : dn' = dn ++ [n] := e
    have : (L.filter fun y => !decide (y ∈ dn')) = L.erase n := by
      rw [hd.erase_eq_filter]
      refine List.filter_congr fun y hy => ?_
      have h1 := hn y hy
      rw [e]
      by_cases z : y = n
      · subst z
        simp
      · simp [h1, z]
    rw [this, e]
    simp only [goLine, q]
    rw [List.append_assoc]
    rfl
abbrev scLLine_N : List Str := ["_law_ways", "_law_ahead_here", "_law_left", "_law_found", "_law_turn", "_law_behind", "_law_free", "_law_pair", "_law_name"]
abbrev scLLine_S : Stmt := sLLine
theorem scLLine : FnScope scLLine_N ["_law_ways", "_law_ahead_here"] (defScope sLLine) := ⟨rfl, rfl, rfl, by decide +kernel, rfl, by decide +kernel, by decide +kernel⟩
def spLLine : Sp := fun vs H Q _ => ∃ (d h : Addr) (ns : List Str) (g : Str → List Str) (AP : List (Addr × Row)), vs = [.ref d, .ref h] ∧ WaysL H d ns g ∧ RowsAt H h AP ∧ ns.Nodup ∧ ns.length ≤ 40 ∧ AP.length ≤ 1640 ∧ ∀ H' z, Same H H' → H z = none → H' z = some (.lst ((lineOf (rowsOf AP) ns).map V.str)) → Q (.ref z) H'
section
variable {P : Program} {w : World} {K : PySem.W.Frag} {mg : Str → Option Value} {base : Heap} {tS tM tL : Tok}
theorem ok_lline {f : Addr} {fd : FuncData} (F : FnP K "_law_line" sLLine f fd) (B : Bl mg) : FnOk P w K mg base CX0 1 f fd ["_law_ways", "_law_ahead_here"] spLLine := by
  refine F.ok scLLine (fun vs H Q E h => ?_) (fun cdv A outer s H vs Q E hr h => ?_)
  · obtain ⟨d, h, ns, g, AP, rfl, _⟩ := h
    rfl
  · obtain ⟨d, h, ns, g, AP, rfl, W, hA, hnd, hns, hAl, k⟩ := h
    have hu := hu_of hr
    refine ⟨_, PSs.nox (pss_cons
      (ps_asg (pe_tup (pa_cons (pe_callTy (call_listD rfl) (by rfl) B.list (by decide +kernel) (pa_cons (pv 0) pa_nil)) (pa_cons (pe_lst pa_nil) pa_nil))) (tgK (K := K) (n := 2) (by rfl) (pgs_cons (pg_name (i := 2) scLLine.nd rfl (Or.inr rfl)) (pgs_cons (pg_name (i := 3) scLLine.nd rfl (Or.inr rfl)) pgs_nil))))
      (pss_cons
      (ps_for PassesOwn.never rfl (pi_range1 (by rfl) B.range (pa_cons (pe_callB (lenK (K := K)) (by rfl) B.len PySem.boot_len (pa_cons (pv 2) pa_nil)) pa_nil)) (pg_name (i := 4) scLLine.nd rfl (Or.inl rfl)) (pss_cons
      (ps_set (i := 5) scLLine.nd rfl (Or.inr rfl) (pe_lc (own := [("_law_pair", 7)]) (g := gName 7)  (by rfl) scLLine.nd (pi_list (pv 1)) (blkOk_by (own := [("_law_pair", 7)]) (N := scLLine_N) (sc := defScope scLLine_S) (by decide +kernel)) (fun _ _ _ _ _ => (pg_name (i := 7) scLLine.nd rfl (Or.inl rfl))) (fun _ _ _ _ _ => (pts_one (pt_cmpR (inK (K := K)) (pe_ix (ixTK (K := K)) (pv 7) pe_int (fun _ _ => rfl)) (pv 2) (by rfl)))) (fun _ _ _ _ _ => (pe_ix (ixTK (K := K)) (pv 7) pe_int (fun _ _ => rfl)))))
      (pss_cons
      (ps_setLc (i := 6) (own := [("_law_name", 8)]) (g := gName 8)  (by rfl) scLLine.nd rfl rfl (sw_true rfl rfl rfl (by decide +kernel)) (pi_list (pv 2)) (blkOk_by (own := [("_law_name", 8)]) (N := scLLine_N) (sc := defScope scLLine_S) (by decide +kernel)) (fun _ _ _ _ _ => (pg_name (i := 8) scLLine.nd rfl (Or.inl rfl))) (fun _ _ _ _ _ => (pts_one (pt_cmpR (notInK (K := K)) (pv 8) (pv 5) (by rfl)))) (fun _ _ _ _ _ => (pv 8)))
      (pss_cons
      (ps_set (i := 3) scLLine.nd rfl (Or.inr rfl) (pe_op op_cat (pv 3) (pe_slice sl_list (pv 6) po_none (po_some pe_int))))
      (pss_one
      (ps_set (i := 2) scLLine.nd rfl (Or.inr rfl) (pe_lc (own := [("_law_name", 8)]) (g := gName 8)  (by rfl) scLLine.nd (pi_list (pv 2)) (blkOk_by (own := [("_law_name", 8)]) (N := scLLine_N) (sc := defScope scLLine_S) (by decide +kernel)) (fun _ _ _ _ _ => (pg_name (i := 8) scLLine.nd rfl (Or.inl rfl))) (fun _ _ _ _ _ => (pts_one (pt_cmpR (notInK (K := K)) (pv 8) (pv 3) (by rfl)))) (fun _ _ _ _ _ => (pv 8)))))))))
      (pss_one
      (ps_ret (pv 3))))), ?_⟩
    obtain ⟨ta, w1, w2⟩ := id W.ex
    have hkk : ((kmap (fun y => V.ref (ta y)) ns).map fun kv => kV kv.1) = ns.map V.str := by
      unfold kmap
      rw [List.map_map]
      rfl
    refine ⟨_, rfl, d, _, rfl, .inl w1, fun nm nnm => ?_⟩
    rw [hkk]
    have s1 : Same H (upd H nm (.lst (ns.map V.str))) := same_upd nnm
    have hnm1 : (upd H nm (.lst (ns.map V.str))) nm = some (.lst (ns.map V.str)) := upd_same
    generalize upd H nm (.lst (ns.map V.str)) = H1 at s1 hnm1
    refine ⟨Nat.zero_le _, fun z0 nz0 => ?_⟩
    have s2 : Same H1 (upd H1 z0 (.lst [])) := same_upd nz0
    have hz0 : (upd H1 z0 (.lst [])) z0 = some (.lst (([] : List Str).map V.str)) := upd_same
    have nz0H : H z0 = none := by
      cases e : H z0 with
      | none => rfl
      | some o => rw [s1 _ _ e] at nz0; cases nz0
    generalize upd H1 z0 (.lst []) = H2 at s2 hz0
    refine ⟨by show 2 ≤ sizeLine; decide, fun T nT => ?_⟩
    have s3 : Same H2 (upd H2 T (.tup [.ref nm, .ref z0])) := same_upd nT
    refine ⟨T, _, rfl, .inl (.inl upd_same), rfl, _, _, rfl, _, _, rfl, rfl, ?_⟩
    generalize upd H2 T (.tup [.ref nm, .ref z0]) = H3 at s3
    have hn3 := s3 _ _ (s2 _ _ hnm1)
    have hz3 := s3 _ _ hz0
    have s13 := (s1.trans s2).trans s3
    have hln : (ns.map V.str).length = ns.length := List.length_map _
    have z40 : 40000 ≤ sizeLine := by rw [sizeLine_eq]; omega
    have hAr : (rowsOf AP).length = AP.length := List.length_map _
    refine ⟨_, rfl, nm, _, rfl, .inl (.inl (.inl hn3)), ?_⟩
    rw [hln]
    refine ⟨_, rfl, by omega, by omega, ?_⟩
    refine for_range (n := (ns.length : Int).toNat) (lo := 0) (fun i σ H4 => ∃ v4 v5 v6 lf z Lf dn, σ = [some (.ref d), some (.ref h), some (.ref lf), some (.ref z), v4, v5, v6, none, none] ∧ Same H H4 ∧ H4 lf = some (.lst (Lf.map V.str)) ∧ H4 z = some (.lst (dn.map V.str)) ∧ H z = none ∧ Lf.Nodup ∧ (∀ y ∈ Lf, y ∉ dn) ∧ dn.length ≤ i ∧ Lf.length ≤ 40 ∧ dn ++ goLine (rowsOf AP) (ns.length - i) Lf = lineOf (rowsOf AP) ns)
      ⟨_, _, _, nm, z0, ns, [], rfl, s13, hn3, hz3, nz0H, hnd, fun y _ z => (by cases z), Nat.le_refl _, hns, rfl⟩ ?_ ?_
    · rintro i σ H4 hi ⟨v4, v5, v6, lf, z, Lf, dn, rfl, s4, hl4, hz4, nz, hLd, hLn, hdn, hLl, heq⟩
      have hi : i < ns.length := by omega
      have hA4 := hA.same s4
      refine ⟨_, rfl, h, rfl, ⟨_, .inl (.inl hA4.lst)⟩, fun be nbe => ?_⟩
      refine lc_listO (K := K) (a := h) (xs := AP.map fun q => V.ref q.1) nbe (fun j => (((rowsOf AP).take j).filter fun r => decide (r.1 ∈ Lf)).map fun r => V.str r.2) (by rw [List.take_zero]; rfl) (fun j _ => ?_) (.inl (.inl hA4.lst)) ?_ ?_
      · have h1 := List.length_filter_le (fun r : Row => decide (r.1 ∈ Lf)) ((rowsOf AP).take j)
        rw [List.length_take] at h1
        rw [List.length_map]
        omega
      · intro j x H5 Nx hx s5 put skip
        have hj : j < AP.length := by
          have := (List.getElem?_eq_some_iff.mp hx).1
          rw [List.length_map] at this
          exact this
        have ex := row_at hx hj
        subst ex
        have hrj : (rowsOf AP)[j]? = some AP[j].2 := by rw [List.getElem?_map, List.getElem?_eq_getElem hj]; rfl
        have ht := s5 _ _ (hA4.tup _ (List.getElem_mem hj))
        have e := filt_take (p := fun r : Row => decide (r.1 ∈ Lf)) hrj
        refine ⟨rfl, ?_⟩
        refine ⟨_, rfl, AP[j].1, _, _, _, rfl, rfl, .inl (.inl ht), atI_nat (j := 0) rfl, ?_⟩
        refine ⟨_, rfl, lf, _, rfl, .inl (.inl (.inl (s5 _ _ hl4))), rfl, flat_strs _, _, rfl, ?_⟩
        rw [inV_str]
        refine ite2 (fun hh => ?_) (fun hh => ?_)
        · have hh : (fun r : Row => decide (r.1 ∈ Lf)) AP[j].2 = true := hh
          rw [if_pos hh] at e
          refine ⟨_, rfl, AP[j].1, _, _, _, rfl, rfl, .inl (.inl ht), atI_nat (j := 1) rfl, put _ _ (.refl _) ?_⟩
          rw [e, List.map_append]
          rfl
        · have hh : ¬ (fun r : Row => decide (r.1 ∈ Lf)) AP[j].2 = true := hh
          rw [if_neg hh, List.append_nil] at e
          exact skip _ (.refl _) (congrArg _ e)
      intro H5 s5 hbe
      rw [List.length_map, ← hAr, List.take_length] at hbe
      have hbe : H5 be = some (.lst ((((rowsOf AP).filter fun r => decide (r.1 ∈ Lf)).map (·.2)).map V.str)) := by rw [List.map_map]; exact hbe
      have s45 := s4.trans s5
      have hl5 := s5 _ _ hl4
      have hz5 := s5 _ _ hz4
      -- the free ones
      refine ⟨_, rfl, lf, rfl, ⟨_, .inl (.inl hl5)⟩, fun fr nfr => ?_⟩
      refine lc_listO (K := K) (a := lf) (xs := Lf.map V.str) nfr (fun j => ((Lf.take j).filter fun n => !behind (rowsOf AP) Lf n).map V.str) (by rw [List.take_zero]; rfl) (fun j _ => filt_size (by omega) j) (.inl (.inl hl5)) ?_ ?_
      · intro j x H6 Nx hx s6 put skip
        rw [List.getElem?_map] at hx
        obtain ⟨y, hy, rfl⟩ := Option.map_eq_some_iff.mp hx
        have e := filt_take (p := fun n => !behind (rowsOf AP) Lf n) hy
        refine ⟨rfl, ?_⟩
        refine ⟨_, rfl, _, rfl, be, _, rfl, .inl (.inl (.inl (s6 _ _ hbe))), rfl, flat_strs _, _, rfl, ?_⟩
        rw [inV_str, in_behind]
        refine ite2 (fun hh => ?_) (fun hh => ?_)
        · have hh : (fun n => !behind (rowsOf AP) Lf n) y = true := hh
          rw [if_pos hh] at e
          refine ⟨_, rfl, put _ _ (.refl _) ?_⟩
          rw [e, List.map_append]
          rfl
        · have hh : ¬ (fun n => !behind (rowsOf AP) Lf n) y = true := hh
          rw [if_neg hh, List.append_nil] at e
          exact skip _ (.refl _) (congrArg _ e)
      intro H6 s6 hfr
      rw [List.length_map, List.take_length] at hfr
      have hl6 := s6 _ _ hl5
      have hz6 := s6 _ _ hz5
      have s46 := s45.trans s6
      generalize hfe : (Lf.filter fun n => !behind (rowsOf AP) Lf n) = free at hfr
      refine ⟨_, rfl, _, rfl, _, rfl, fr, _, rfl, .inl (.inl hfr), fun sl nsl => ?_⟩
      have hcut : cutV (free.map V.str) none (some 1) = (free.take 1).map V.str := by
        rw [List.map_take]
        exact cut_take _ 1
      rw [hcut]
      have s7 : Same H6 (upd H6 sl (.lst ((free.take 1).map V.str))) := same_upd nsl
      have hsl : (upd H6 sl (.lst ((free.take 1).map V.str))) sl = some (.lst ((free.take 1).map V.str)) := upd_same
      generalize upd H6 sl (.lst ((free.take 1).map V.str)) = H7 at s7 hsl
      have htl : (free.take 1).length ≤ 1 := by rw [List.length_take]; omega
      refine ⟨z, sl, _, _, rfl, rfl, s7 _ _ hz6, hsl, by rw [List.length_map, List.length_map]; omega, fun z' nz' => ?_⟩
      rw [← List.map_append]
      have hst := line_step (A := rowsOf AP) (L := Lf) (dn := dn) (k := ns.length - (i + 1)) hLd hLn (dn' := dn ++ free.take 1) (by rw [hfe])
      have hdl : (dn ++ free.take 1).length ≤ i + 1 := by rw [List.length_append]; omega
      generalize dn ++ free.take 1 = dn' at hst hdl
      have s8 : Same H7 (upd H7 z' (.lst (dn'.map V.str))) := same_upd nz'
      have hz8 : (upd H7 z' (.lst (dn'.map V.str))) z' = some (.lst (dn'.map V.str)) := upd_same
      have s47 := s46.trans s7
      have nzH : H z' = none := by
        cases e : H z' with
        | none => rfl
        | some o => rw [s47 _ _ e] at nz'; cases nz'
      generalize upd H7 z' (.lst (dn'.map V.str)) = H8 at s8 hz8
      have hl8 := s8 _ _ (s7 _ _ hl6)
      have s48 := s47.trans s8
      -- the ones left
      refine ⟨_, rfl, lf, rfl, ⟨_, .inl (.inl hl8)⟩, fun l2 nl2 => ?_⟩
      refine lc_listO (K := K) (a := lf) (xs := Lf.map V.str) nl2 (fun j => ((Lf.take j).filter fun y => !decide (y ∈ dn')).map V.str) (by rw [List.take_zero]; rfl) (fun j _ => filt_size (by omega) j) (.inl (.inl hl8)) ?_ ?_
      · intro j x H9 Nx hx s9 put skip
        rw [List.getElem?_map] at hx
        obtain ⟨y, hy, rfl⟩ := Option.map_eq_some_iff.mp hx
        have e := filt_take (p := fun y => !decide (y ∈ dn')) hy
        refine ⟨rfl, ?_⟩
        refine ⟨_, rfl, _, rfl, z', _, rfl, .inl (.inl (.inl (s9 _ _ hz8))), rfl, flat_strs _, _, rfl, ?_⟩
        rw [inV_str]
        refine ite2 (fun hh => ?_) (fun hh => ?_)
        · have hh : (fun y => !decide (y ∈ dn')) y = true := hh
          rw [if_pos hh] at e
          refine ⟨_, rfl, put _ _ (.refl _) ?_⟩
          rw [e, List.map_append]
          rfl
        · have hh : ¬ (fun y => !decide (y ∈ dn')) y = true := hh
          rw [if_neg hh, List.append_nil] at e
          exact skip _ (.refl _) (congrArg _ e)
      intro H9 s9 hl9
      rw [List.length_map, List.take_length] at hl9
      refine ⟨_, _, _, l2, z', Lf.filter (fun y => !decide (y ∈ dn')), dn', rfl, s48.trans s9, hl9, s9 _ _ hz8, nzH, hLd.sublist List.filter_sublist, fun y hy => ?_, hdl, Nat.le_trans (List.length_filter_le _ _) hLl, ?_⟩
      · have := (List.mem_filter.mp hy).2
        intro q
        rw [decide_eq_true q] at this
        cases this
      · rw [← hst, ← heq]
        rw [show ns.length - i = ns.length - (i + 1) + 1 by omega]
    · rintro σ H4 ⟨v4, v5, v6, lf, z, Lf, dn, rfl, s4, hl4, hz4, nz, hLd, hLn, hdn, hLl, heq⟩
      rw [show ns.length - (ns.length : Int).toNat = 0 by omega] at heq
      have heq : dn ++ [] = lineOf (rowsOf AP) ns := heq
      rw [List.append_nil] at heq
      refine ⟨_, rfl, k H4 z s4 nz ?_⟩
      rw [← heq]
      exact hz4
end
end K0
end
section
set_option Elab.async false
set_option linter.all false
set_option maxRecDepth 100000
namespace K0
open PySem PySem.Spec PyProof.Rows L2
/-! ### the pairs that meet, each turned about or not, tell who goes ahead -/
def prRec (m : Str → Str → Bool) : List Str → List Row
  | [] => []
  | a :: as => (as.filter fun o => m a o).map (fun o => (a, o)) ++ prRec m as
theorem prToR_rec {R : List Row} {B : List RRow} : ∀ ns : List Str, (prToR R B ns ns.length).map pr2 = prRec (meetB R B) ns
  | [] => rfl
  | a :: as => by
    have ih := prToR_rec (R := R) (B := B) as
    unfold prToR at ih ⊢
    rw [List.length_cons, List.range_succ_eq_map, List.flatMap_cons, List.map_append, List.flatMap_map]
    show (prOneR R B a as).map pr2 ++ _ = _
    rw [prOneR_met]
    exact congrArg _ ih
theorem prAll_rec {R : List Row} {B : List RRow} : (prAllR R B).map pr2 = prRec (meetB R B) (rnm B) := prToR_rec _
theorem prRec_mem {m : Str → Str → Bool} : ∀ {ns : List Str}, ns.Nodup → ∀ p ∈ prRec m ns, p.1 ∈ ns ∧ p.2 ∈ ns ∧ p.1 ≠ p.2 ∧ m p.1 p.2 = true
  | [], _ => fun p h => by cases h
  | a :: as, hd => fun p h => by
    obtain ⟨h1, h2⟩ := List.nodup_cons.mp hd
    rcases List.mem_append.mp h with h | h
    · obtain ⟨o, ho, e⟩ := List.mem_map.mp h
      obtain ⟨o1, o2⟩ := List.mem_filter.mp ho
      subst e
      exact ⟨List.mem_cons_self, List.mem_cons_of_mem _ o1, fun z => h1 (by rw [show a = o from z]; exact o1), o2⟩
    · obtain ⟨a1, a2, a3, a4⟩ := prRec_mem h2 p h
      exact ⟨List.mem_cons_of_mem _ a1, List.mem_cons_of_mem _ a2, a3, a4⟩
theorem prRec_all {m : Str → Str → Bool} (hs : ∀ a b, m a b = m b a) : ∀ {ns : List Str} {a b : Str}, a ∈ ns → b ∈ ns → a ≠ b → m a b = true → (a, b) ∈ prRec m ns ∨ (b, a) ∈ prRec m ns
  | [], a, b, h, _, _, _ => by cases h
  | x :: xs, a, b, ha, hb, hne, hm => by
    have put : ∀ {o : Str}, o ∈ xs → m x o = true → (x, o) ∈ prRec m (x :: xs) := fun {o} ho h => List.mem_append_left _ (List.mem_map.mpr ⟨o, List.mem_filter.mpr ⟨ho, h⟩, rfl⟩)
    rcases List.mem_cons.mp ha with e | ha2
    · subst e
      exact .inl (put ((List.mem_cons.mp hb).resolve_left fun z => hne z.symm) hm)
    · rcases List.mem_cons.mp hb with e | hb2
      · subst e
        exact .inr (put ha2 (by rw [hs]; exact hm))
      · exact (prRec_all hs ha2 hb2 hne hm).elim (fun z => .inl (List.mem_append_right _ z)) fun z => .inr (List.mem_append_right _ z)
theorem prRec_pw {m : Str → Str → Bool} : ∀ {ns : List Str}, ns.Nodup → (prRec m ns).Pairwise fun p q => q ≠ p ∧ q ≠ (p.2, p.1)
  | [], _ => List.Pairwise.nil
  | a :: as, hd => by
    obtain ⟨h1, h2⟩ := List.nodup_cons.mp hd
    refine List.pairwise_append.mpr ⟨?_, prRec_pw h2, fun p hp q hq => ?_⟩
    · refine List.pairwise_map.mpr ((h2.sublist List.filter_sublist).imp_of_mem fun {x y} hx hy hne => ⟨fun z => ?_, fun z => ?_⟩)
      · cases z
        exact hne rfl
      · have : a = x := congrArg Prod.fst z
        exact h1 (this ▸ (List.mem_filter.mp hx).1)
    · obtain ⟨o, ho, e⟩ := List.mem_map.mp hp
      obtain ⟨q1, q2, _, _⟩ := prRec_mem h2 q hq
      subst e
      exact ⟨fun z => h1 (by rw [z] at q1; exact q1), fun z => h1 (by rw [z] at q2; exact q2)⟩
/-- each of these pairs, or it turned about -/
structure TurnOf (P X : List Row) : Prop where
  len : X.length = P.length
  at_ : ∀ (i : Nat) (p x : Row), P[i]? = some p → X[i]? = some x → x = p ∨ x = (p.2, p.1)
theorem TurnOf.nil : TurnOf [] [] := ⟨rfl, fun i p x h => by simp at h⟩
theorem TurnOf.snoc {P X : List Row} {p x : Row} (t : TurnOf P X) (h : x = p ∨ x = (p.2, p.1)) : TurnOf (P ++ [p]) (X ++ [x]) := by
  refine ⟨by rw [List.length_append, List.length_append, t.len]; rfl, fun i q y hq hy => ?_⟩
  rw [List.getElem?_append] at hq hy
  rw [t.len] at hy
  by_cases z : i < P.length
  · rw [if_pos z] at hq hy
    exact t.at_ i q y hq hy
  · rw [if_neg z] at hq hy
    have e : i - P.length = 0 := by
      have := (List.getElem?_eq_some_iff.mp hq).1
      rw [List.length_singleton] at this
      omega
    rw [e] at hq hy
    cases hq
    cases hy
    exact h
theorem TurnOf.mem {P X : List Row} (t : TurnOf P X) {x : Row} (h : x ∈ X) : ∃ (i : Nat) (p : Row), P[i]? = some p ∧ X[i]? = some x ∧ (x = p ∨ x = (p.2, p.1)) := by
  obtain ⟨i, hi⟩ := List.mem_iff_getElem?.mp h
  have hl := (List.getElem?_eq_some_iff.mp hi).1
  rw [t.len] at hl
  exact ⟨i, P[i], List.getElem?_eq_getElem hl, hi, t.at_ i _ x (List.getElem?_eq_getElem hl) hi⟩
theorem TurnOf.has {P X : List Row} (t : TurnOf P X) {p : Row} (h : p ∈ P) : p ∈ X ∨ (p.2, p.1) ∈ X := by
  obtain ⟨i, hi⟩ := List.mem_iff_getElem?.mp h
  have hl := (List.getElem?_eq_some_iff.mp hi).1
  rw [← t.len] at hl
  have e := List.getElem?_eq_getElem hl
  rcases t.at_ i p _ hi e with z | z
  · exact .inl (z ▸ List.mem_of_getElem? e)
  · exact .inr (z ▸ List.mem_of_getElem? e)
theorem pw_at {P : List Row} (h : P.Pairwise fun p q => q ≠ p ∧ q ≠ (p.2, p.1)) {i j : Nat} {p q : Row} (hi : P[i]? = some p) (hj : P[j]? = some q) (hpq : q = p ∨ q = (p.2, p.1)) : i = j := by
  obtain ⟨li, ei⟩ := List.getElem?_eq_some_iff.mp hi
  obtain ⟨lj, ej⟩ := List.getElem?_eq_some_iff.mp hj
  have hp := List.pairwise_iff_getElem.mp h
  rcases Nat.lt_trichotomy i j with z | z | z
  · have := hp i j li lj z
    rw [ei, ej] at this
    exact hpq.elim (fun e => absurd e this.1) fun e => absurd e this.2
  · exact z
  · have := hp j i lj li z
    rw [ei, ej] at this
    refine hpq.elim (fun e => absurd e.symm this.1) fun e => ?_
    exact absurd (show p = (q.2, q.1) by rw [e]) this.2
theorem ahead_of {R : List Row} {B : List RRow} {X X' : List Row} (hd : (rnm B).Nodup) (t : TurnOf (prRec (meetB R B) (rnm B)) X) (hp : X'.Perm X) : Ahead R B X' := by
  have sub : ∀ a b, (a, b) ∈ X' → a ∈ rnm B ∧ b ∈ rnm B ∧ a ≠ b ∧ meetB R B a b = true := fun a b h => by
    obtain ⟨i, p, h1, h2, h3⟩ := t.mem (hp.mem_iff.mp h)
    obtain ⟨a1, a2, a3, a4⟩ := prRec_mem hd p (List.mem_of_getElem? h1)
    rcases h3 with e | e
    · subst e
      exact ⟨a1, a2, a3, a4⟩
    · have e1 : a = p.2 := congrArg Prod.fst e
      have e2 : b = p.1 := congrArg Prod.snd e
      subst e1 e2
      exact ⟨a2, a1, a3.symm, by rw [meet_symm]; exact a4⟩
  refine ⟨sub, fun a b ha hb hne hm => ?_, fun a b h1 h2 => ?_⟩
  · have two : ∀ {p : Row}, p ∈ prRec (meetB R B) (rnm B) → p ∈ X' ∨ (p.2, p.1) ∈ X' := fun {p} h => (t.has h).elim (fun z => .inl (hp.mem_iff.mpr z)) fun z => .inr (hp.mem_iff.mpr z)
    rcases prRec_all (fun a b => meet_symm a b) ha hb hne hm with z | z
    · exact two z
    · exact (two z).symm
  · obtain ⟨i, p, i1, i2, i3⟩ := t.mem (hp.mem_iff.mp h1)
    obtain ⟨j, q, j1, j2, j3⟩ := t.mem (hp.mem_iff.mp h2)
    have hab := (sub a b h1).2.2.1
    have hpq : q = p ∨ q = (p.2, p.1) := by
      obtain ⟨p1, p2⟩ := p
      obtain ⟨q1, q2⟩ := q
      simp only [Prod.mk.injEq] at i3 j3 ⊢
      rcases i3 with ⟨e1, e2⟩ | ⟨e1, e2⟩ <;> rcases j3 with ⟨f1, f2⟩ | ⟨f1, f2⟩ <;> subst e1 e2 f1 f2 <;> simp
    have e := pw_at (prRec_pw hd) i1 j1 hpq
    subst e
    rw [i2] at j2
    exact hab (congrArg Prod.fst (Option.some.inj j2))
end K0
end
section
set_option Elab.async false
set_option linter.all false
set_option maxRecDepth 100000
set_option maxHeartbeats 8000000
namespace K0
open PySem PySem.Spec PyProof.Rows L2
/-! ### an ahead list -/
abbrev scLAhead_N : List Str := ["_law_bag_here", "_law_ways", "_law_line_here", "_law_shape", "_law_found", "_law_turned", "_law_place", "_law_one", "_law_other", "_law_is_first", "_law_k"]
abbrev scLAhead_S : Stmt := sLAhead
theorem scLAhead : FnScope scLAhead_N ["_law_bag_here", "_law_ways", "_law_line_here"] (defScope sLAhead) := ⟨rfl, rfl, rfl, by decide +kernel, rfl, by decide +kernel, by decide +kernel⟩
theorem strs_ne_bag {H : Hp} {b a : Addr} {l : List Str} (hB : BagAt H b) (h : H a = some (.lst (l.map V.str))) : a ≠ b := fun e => by
  obtain ⟨xs, hb, x, y, rfl, _⟩ := hB
  rw [e, hb] at h
  have h2 : [V.int x, V.int y] = l.map V.str := by
    injection h with h
    injection h
  cases l with
  | nil => cases h2
  | cons z l => cases h2
theorem prRec_len {m : Str → Str → Bool} : ∀ ns : List Str, 2 * (prRec m ns).length + ns.length ≤ ns.length * ns.length
  | [] => Nat.le_refl _
  | a :: as => by
    have ih := prRec_len (m := m) as
    have h := List.length_filter_le (fun o => m a o) as
    show 2 * ((as.filter fun o => m a o).map (fun o => (a, o)) ++ prRec m as).length + (as.length + 1) ≤ (as.length + 1) * (as.length + 1)
    have e : (as.length + 1) * (as.length + 1) = as.length * as.length + 2 * as.length + 1 := by
      rw [Nat.add_mul, Nat.mul_add as.length as.length 1]
      omega
    rw [List.length_append, List.length_map, e]
    omega
theorem idx_hat {L : List Str} {x : Str} (h : x ∈ L) : (L.map V.str)[L.idxOf x]? = some (.str x) := by
  have hlt := List.idxOf_lt_length_iff.mpr h
  rw [List.getElem?_map, List.getElem?_eq_getElem hlt, List.getElem_idxOf]
  rfl
theorem idx_fst {L : List Str} {x : Str} : ∀ (m : Nat) (z : V), m < L.idxOf x → (L.map V.str)[m]? = some z → eqV z (.str x) = false := fun m z hm e2 => by
  rw [List.getElem?_map] at e2
  obtain ⟨y, hy, rfl⟩ := Option.map_eq_some_iff.mp e2
  rw [eqV_str]
  refine decide_eq_false fun e3 => ?_
  have q := List.not_of_lt_findIdx (p := fun z => z == x) (xs := L) hm
  obtain ⟨hml, e4⟩ := List.getElem?_eq_some_iff.mp hy
  rw [e4, e3, beq_self_eq_true] at q
  cases q
theorem flat_ints (l : List Int) : (l.map V.int).all flatV = true := List.all_eq_true.mpr fun v h => by
  obtain ⟨i, _, e⟩ := List.mem_map.mp h
  subst e
  rfl
theorem split_two {α β : Type} {R C : α → β → Prop} {G : Prop} (use : (∀ a b, R a b → C a b) → G) (key : ∀ a b, R a b → C a b) : G := use key
theorem waysUp {H H' : Hp} {b d : Addr} {ns : List Str} {g : Str → List Str} (hB : BagAt H b) (u : Upto b H H') (r : WaysL H d ns g) : WaysL H' d ns g := by
  obtain ⟨ta, q1, q2⟩ := r.ex
  obtain ⟨xs, hb, hv⟩ := id hB
  exact ⟨ta, u _ _ q1 (ne_of q1 hb (fun z => by cases z)), fun y hy => u _ _ (q2 y hy) (strs_ne_bag hB (q2 y hy))⟩
def spLAhead : Sp := fun vs H Q _ => ∃ (b d y : Addr) (R : List Row) (B : List RRow) (L : List Str), vs = [.ref b, .ref d, .ref y] ∧ BagAt H b ∧ WaysL H d (rnm B) (wayN R B) ∧ GoodRows R ∧ RtOk R B ∧ H y = some (.lst (L.map V.str)) ∧ L.Perm (rnm B) ∧ ∀ H' z AP, Upto b H H' → BagAt H' b → H z = none → z ≠ b → RowsAt H' z AP → Ahead R B (rowsOf AP) → AP.length ≤ 1640 → Q (.ref z) H'
section
variable {P : Program} {w : World} {K : PySem.W.Frag} {mg : Str → Option Value} {base : Heap} {tS tM tL : Tok}
theorem ok_lahead {f fX fT fP : Addr} {fd fdX fdT fdP : FuncData} (F : FnP K "_law_ahead" sLAhead f fd) (F_law_mixed : FnP K "_law_mixed" sMixed fX fdX) (g_law_mixed : mg "_law_mixed" = some (.ref fX)) (F_law_take : FnP K "_law_take" sTake fT fdT) (g_law_take : mg "_law_take" = some (.ref fT)) (F_law_pairs : FnP K "_law_pairs" sLPairs fP fdP) (g_law_pairs : mg "_law_pairs" = some (.ref fP)) (B : Bl mg) : FnOk P w K mg base CX0 3 f fd ["_law_bag_here", "_law_ways", "_law_line_here"] spLAhead := by
  have G_law_take : FnOk P w K mg base CX0 1 fT fdT ["_law_bag_here", "_law_many"] spTake := ok_take F_law_take B
  have b_law_take : Binds K fdT ["_law_bag_here", "_law_many"] [] := F_law_take.bindsN fun _ _ _ _ _ _ us hl => match us, hl with | [_, _], _ => rfl
  have G_law_mixed : FnOk P w K mg base CX0 2 fX fdX ["_law_bag_here", "_law_some"] (spMixed K) := ok_mixed F_law_mixed F_law_take B g_law_take
  have b_law_mixed : Binds K fdX ["_law_bag_here", "_law_some"] [] := F_law_mixed.bindsN fun _ _ _ _ _ _ us hl => match us, hl with | [_, _], _ => rfl
  have G_law_pairs : FnOk P w K mg base CX0 1 fP fdP ["_law_ways"] spLPairs := ok_lpairs F_law_pairs B
  have b_law_pairs : Binds K fdP ["_law_ways"] [] := F_law_pairs.bindsN fun _ _ _ _ _ _ us hl => match us, hl with | [_], _ => rfl
  refine F.ok scLAhead (fun vs H Q E h => ?_) (fun cdv A outer s H vs Q E hr h => ?_)
  · obtain ⟨b, d, y, R, BB, L, rfl, _⟩ := h
    rfl
  · obtain ⟨b, d, y, R, BB, L, rfl, hB, W, hg, hb, hy, hL, k⟩ := h
    have hu := hu_of hr
    have hr_law_take : Room 1 _ := hr.mono (by decide)
    have hr_law_pairs : Room 1 _ := hr.mono (by decide)
    have hr_law_mixed : Room 2 _ := hr
    refine ⟨_, PSs.nox (pss_cons
      (ps_par (i := 3) (j := 4) (by rfl) scLAhead.nd rfl rfl (by decide) rfl rfl (pa_cons (pe_call G_law_take hr_law_take (by rfl) g_law_take F_law_take.kp b_law_take .nil pass0 (pa_cons (pv 0) (pa_cons pe_int pa_nil))) (pa_cons (pe_lst pa_nil) pa_nil)) (by rfl))
      (pss_cons
      (ps_setLc (i := 5) (own := [("_law_k", 10)]) (g := gName 10) (tt := tYes) (by rfl) scLAhead.nd rfl rfl (sw_true rfl rfl rfl (by decide +kernel)) (pi_range1 (by rfl) B.range (pa_cons pe_int pa_nil)) (blkOk_by (own := [("_law_k", 10)]) (N := scLAhead_N) (sc := defScope scLAhead_S) (by decide +kernel)) (fun _ _ _ _ _ => (pg_name (i := 10) scLAhead.nd rfl (Or.inl rfl))) (fun _ _ _ _ _ => pts_nil) (fun _ _ _ _ _ => (pe_call G_law_take hr_law_take (by rfl) g_law_take F_law_take.kp b_law_take .nil pass0 (pa_cons (pv 0) (pa_cons pe_int pa_nil)))))
      (pss_cons
      (ps_for PassesOwn.never rfl (pi_enum (by rfl) B.enumerate (pa_cons (pe_call G_law_pairs hr_law_pairs (by rfl) g_law_pairs F_law_pairs.kp b_law_pairs .nil pass0 (pa_cons (pv 1) pa_nil)) pa_nil)) (tgK (K := K) (n := 2) (by rfl) (pgs_cons (pg_name (i := 6) scLAhead.nd rfl (Or.inl rfl)) (pgs_cons (tgK (K := K) (n := 2) (by rfl) (pgs_cons (pg_name (i := 7) scLAhead.nd rfl (Or.inl rfl)) (pgs_cons (pg_name (i := 8) scLAhead.nd rfl (Or.inl rfl)) pgs_nil))) pgs_nil))) (pss_cons
      (ps_set (i := 9) scLAhead.nd rfl (Or.inl rfl) (pe_cmpR op_lt (pe_bm PySem.F.plainAttrs_list PySem.F.slot_list_index PySem.F.type_list_index mt_index (pv 2) (pa_cons (pv 7) pa_nil)) (pe_bm PySem.F.plainAttrs_list PySem.F.slot_list_index PySem.F.type_list_index mt_index (pv 2) (pa_cons (pv 8) pa_nil)) (nomark _)))
      (pss_cons
      (ps_if (PW.pt (pw_and (pt_cmpR op_eq (pv 3) pe_int (nomark _)) (pw_and1 (pt_cmpR (inK (K := K)) (pv 6) (pv 5) (by rfl))))) (pss_one
      (ps_set (i := 9) scLAhead.nd rfl (Or.inl rfl) (pe_not (pv 9)))) pss_nil)
      (pss_cons
      (ps_if (pt_cmpR op_eq (pv 3) pe_int (nomark _)) (pss_one
      (ps_set (i := 9) scLAhead.nd rfl (Or.inl rfl) (pe_cmpR op_eq (pe_call G_law_take hr_law_take (by rfl) g_law_take F_law_take.kp b_law_take .nil pass0 (pa_cons (pv 0) (pa_cons pe_int pa_nil))) pe_int (nomark _)))) pss_nil)
      (pss_one
      (ps_expr (pe_bm PySem.F.plainAttrs_list PySem.F.slot_list_append PySem.F.type_list_append mt_append (pv 4) (pa_cons (pe_ifExp (pt_val (pv 9)) (pe_tup (pa_cons (pv 7) (pa_cons (pv 8) pa_nil))) (pe_tup (pa_cons (pv 8) (pa_cons (pv 7) pa_nil)))) pa_nil))))))))
      (pss_one
      (ps_ret (pe_call G_law_mixed hr_law_mixed (by rfl) g_law_mixed F_law_mixed.kp b_law_mixed .nil pass0 (pa_cons (pv 0) (pa_cons (pv 4) pa_nil)))))))), ?_⟩
    have hm := hb.most
    have hln : (rnm BB).length = BB.length := List.length_map _
    have hyb := strs_ne_bag hB hy
    refine ⟨_, rfl, b, 3, rfl, hB, by decide, by decide, fun r0 xs0 _ _ hx0 => ?_⟩
    have u0 : Upto b H (upd H b (.lst xs0)) := Upto.at_
    have B0 : BagAt (upd H b (.lst xs0)) b := ⟨xs0, upd_same, hx0⟩
    generalize upd H b (.lst xs0) = H0 at u0 B0
    have new : ∀ {H2 : Hp} {a : Addr}, Upto b H H2 → BagAt H2 b → H2 a = none → a ≠ b ∧ H a = none := fun {H2 a} u B n => by
      have hne : a ≠ b := fun e => by
        obtain ⟨xs, q, _⟩ := B
        rw [e, q] at n
        cases n
      refine ⟨hne, ?_⟩
      cases e : H a with
      | none => rfl
      | some o => rw [u _ _ e hne] at n; cases n
    refine ⟨Nat.zero_le _, fun z nz => ?_⟩
    obtain ⟨zb, nzH⟩ := new u0 B0 nz
    have u1 : Upto b H (upd H0 z (.lst [])) := u0.trans (Upto.of (same_upd nz))
    have B1 : BagAt (upd H0 z (.lst [])) b := by
      obtain ⟨xs, q, hq⟩ := B0
      exact ⟨xs, by rw [upd_ne zb.symm]; exact q, hq⟩
    have hz1 : (upd H0 z (.lst [])) z = some (.lst []) := upd_same
    generalize upd H0 z (.lst []) = H1 at u1 B1 hz1
    refine ⟨_, _, rfl, ?_⟩
    refine ⟨_, rfl, by decide, by decide, fun D hD => ?_⟩
    obtain ⟨Db, nDH⟩ := new u1 B1 hD
    have zD : z ≠ D := ne_of_none hz1 hD
    refine lc_range (lo := 0) (n := ((3 : Int) - 0).toNat) (fun i H2 => Upto b H H2 ∧ BagAt H2 b ∧ H2 z = some (.lst []) ∧ ∃ ks : List Int, ks.length = i ∧ H2 D = some (.lst (ks.map V.int))) ?_ ?_ ?_
    · obtain ⟨xs, q, hq⟩ := B1
      exact ⟨u1.trans (Upto.of (same_upd hD)), ⟨xs, by rw [upd_ne Db.symm]; exact q, hq⟩, by rw [upd_ne zD]; exact hz1, [], rfl, upd_same⟩
    · rintro i H2 hi ⟨u2, B2, hz2, ks, hl, hD2⟩
      refine ⟨rfl, ?_⟩
      unfold tYes
      refine iteT ?_
      refine ⟨_, rfl, b, 12, rfl, B2, by decide, by decide, fun r xs _ _ hx => ?_⟩
      have u3 : Upto b H (upd H2 b (.lst xs)) := u2.trans Upto.at_
      refine ⟨ks.map V.int, by rw [upd_ne Db]; exact hD2, by rw [List.length_map]; exact small1000 (by omega), fun a o e n => ?_, ⟨xs, by rw [upd_ne Db.symm]; exact upd_same, hx⟩, by rw [upd_ne zD, upd_ne zb]; exact hz2, ks ++ [r], by rw [List.length_append, hl]; rfl, by rw [upd_same, List.map_append]; rfl⟩
      rw [upd_ne (ne_of_none e nDH)]
      exact u3 _ _ e n
    rintro H2 ⟨u2, B2, hz2, ks, _, hD2⟩
    have W2 := waysUp hB u2 W
    refine ⟨_, rfl, d, R, BB, rfl, W2, hg, hb, fun H3 zp AP s3 nzp hA eA => ?_⟩
    rw [prAll_rec] at eA
    have hpl := prRec_len (m := meetB R BB) (rnm BB)
    have hmem := prRec_mem (m := meetB R BB) hb.nd
    have hturn := fun {X X' : List Row} => ahead_of (R := R) (B := BB) (X := X) (X' := X') hb.nd
    have hApl : AP.length ≤ 800 := by
      have e : AP.length = (rowsOf AP).length := (List.length_map _).symm
      have h2 : (rnm BB).length * (rnm BB).length ≤ 40 * 40 := Nat.mul_le_mul (by omega) (by omega)
      rw [e, eA]
      omega
    rw [← eA] at hmem hturn
    have u3 := u2.trans (Upto.of s3)
    have B3 : BagAt H3 b := by
      obtain ⟨xs, q, hq⟩ := B2
      exact ⟨xs, s3 _ _ q, hq⟩
    have hzp : zp ≠ b := (new u2 B2 nzp).1
    have nzpH := (new u2 B2 nzp).2
    have zzp : z ≠ zp := ne_of_none hz2 nzp
    refine ⟨zp, _, rfl, .inl (.inl hA.lst), ?_⟩
    refine for_it (walk_enum (K := K) (a := zp) (xs := AP.map fun q => V.ref q.1)) (fun i σ H4 => ∃ v6 v7 v8 v9 FP, σ = [some (.ref b), some (.ref d), some (.ref y), some (.int r0), some (.ref z), some (.ref D), v6, v7, v8, v9, none] ∧ Upto b H H4 ∧ BagAt H4 b ∧ RowsAt H4 z FP ∧ H4 D = some (.lst (ks.map V.int)) ∧ RowsAt H4 zp AP ∧ TurnOf ((rowsOf AP).take i) (rowsOf FP))
      ⟨_, _, _, _, [], rfl, u3, B3, ⟨s3 _ _ hz2, fun q hq => by cases hq⟩, s3 _ _ hD2, hA, TurnOf.nil⟩ (fun _ _ _ _ h => by obtain ⟨_, _, _, _, _, _, _, _, _, _, h, _⟩ := h; exact .inl (.inl h.lst)) ?_ ?_
    · rintro i x σ H4 H5 hi ⟨v6, v7, v8, v9, FP, rfl, u4, B4, hF, hD4, hA4, ht⟩ ⟨T, x1, x2, rfl, hT, rfl, e1, e2⟩
      rw [List.length_map] at hi
      cases e1
      have ex := row_at e2 hi
      subst ex
      have hri : (rowsOf AP)[i]? = some AP[i].2 := by rw [List.getElem?_map, List.getElem?_eq_getElem hi]; rfl
      have hrow := hA4.tup _ (List.getElem_mem hi)
      have hpm := hmem AP[i].2 (List.mem_of_getElem? hri)
      have s5 : Same H4 (upd H4 T (.tup [.int (i : Nat), .ref AP[i].1])) := same_upd hT
      refine ⟨T, _, rfl, .inl (.inl upd_same), rfl, _, _, rfl, _, _, rfl, ?_⟩
      refine ⟨AP[i].1, _, rfl, .inl (.inl (s5 _ _ hrow)), rfl, _, _, rfl, _, _, rfl, rfl, rfl, ?_⟩
      have u5 : Upto b H (upd H4 T (.tup [.int (i : Nat), .ref AP[i].1])) := u4.trans (Upto.of s5)
      have B5 : BagAt (upd H4 T (.tup [.int (i : Nat), .ref AP[i].1])) b := by
        obtain ⟨xs, q, hq⟩ := B4
        exact ⟨xs, s5 _ _ q, hq⟩
      have hF5 := hF.same s5
      have hD5 := s5 _ _ hD4
      have hA5 := hA4.same s5
      generalize upd H4 T (.tup [.int (i : Nat), .ref AP[i].1]) = H5 at s5 u5 B5 hF5 hD5 hA5
      have close : ∀ {H6 : Hp} (r : Row) (t : Addr), Upto b H H6 → BagAt H6 b → RowsAt H6 z FP → H6 D = some (.lst (ks.map V.int)) → RowsAt H6 zp AP → H6 t = none → (r = AP[i].2 ∨ r = (AP[i].2.2, AP[i].2.1)) →
          Upto b H (upd (upd H6 t (.tup [.str r.1, .str r.2])) z (.lst ((FP.map fun q => V.ref q.1) ++ [.ref t]))) ∧ BagAt (upd (upd H6 t (.tup [.str r.1, .str r.2])) z (.lst ((FP.map fun q => V.ref q.1) ++ [.ref t]))) b ∧ RowsAt (upd (upd H6 t (.tup [.str r.1, .str r.2])) z (.lst ((FP.map fun q => V.ref q.1) ++ [.ref t]))) z (FP ++ [(t, r)]) ∧ (upd (upd H6 t (.tup [.str r.1, .str r.2])) z (.lst ((FP.map fun q => V.ref q.1) ++ [.ref t]))) D = some (.lst (ks.map V.int)) ∧ RowsAt (upd (upd H6 t (.tup [.str r.1, .str r.2])) z (.lst ((FP.map fun q => V.ref q.1) ++ [.ref t]))) zp AP ∧ TurnOf ((rowsOf AP).take (i + 1)) (rowsOf (FP ++ [(t, r)])) := fun {H6} r t u6 B6 hF6 hD6 hA6 nt hr => by
        have up : ∀ {a : Addr} {o : HO}, a ≠ z → H6 a = some o → (upd (upd H6 t (.tup [.str r.1, .str r.2])) z (.lst ((FP.map fun q => V.ref q.1) ++ [.ref t]))) a = some o := fun {a o} n e => by
          rw [upd_ne n, upd_ne (ne_of_none e nt)]
          exact e
        refine ⟨fun a o e n => up (ne_of_none e nzH) (u6 _ _ e n), ?_, (hF6.more (.refl _) nt).2, up zD.symm hD6, ⟨up zzp.symm hA6.lst, fun q hq => up (ne_of (hA6.tup q hq) hF6.lst (fun z => by cases z)) (hA6.tup q hq)⟩, ?_⟩
        · obtain ⟨xs, q, hq⟩ := B6
          exact ⟨xs, up zb.symm q, hq⟩
        · have e : (rowsOf AP).take (i + 1) = (rowsOf AP).take i ++ [AP[i].2] := by
            rw [List.take_add_one, hri]
            rfl
          rw [e]
          show TurnOf _ ((FP ++ [(t, r)]).map (·.2))
          rw [List.map_append]
          exact ht.snoc hr
      have hFl : FP.length ≤ 800 := by
        have e := ht.len
        rw [List.length_map, List.length_take, List.length_map] at e
        omega
      have h1L : AP[i].2.1 ∈ L := hL.mem_iff.mpr hpm.1
      have h2L : AP[i].2.2 ∈ L := hL.mem_iff.mpr hpm.2.1
      have hy5 := u5 _ _ hy hyb
      refine ⟨_, rfl, .inl ⟨rfl, _, .inl (.inl hy5)⟩, _, rfl, y, _, .str AP[i].2.1, _, .str AP[i].2.1, rfl, rfl, .inl (.inl hy5), rfl, flat_strs _, idx_hat h1L, by rw [eqV_str]; exact decide_eq_true rfl, idx_fst, ?_⟩
      refine ⟨_, rfl, .inl ⟨rfl, _, .inl (.inl hy5)⟩, _, rfl, y, _, .str AP[i].2.2, _, .str AP[i].2.2, rfl, rfl, .inl (.inl hy5), rfl, flat_strs _, idx_hat h2L, by rw [eqV_str]; exact decide_eq_true rfl, idx_fst, ?_⟩
      refine ⟨_, _, rfl, rfl, ?_⟩
      dsimp only
      generalize decide ((L.idxOf AP[i].2.1 : Int) < (L.idxOf AP[i].2.2 : Int)) = f0
      refine split_if' (α := Bool) (R := fun _ => True) (C := ?C) ?use ?key
      case use =>
        intro key
        refine ⟨_, rfl, rfl, _, rfl, ?_⟩
        refine ite2 (fun hc => ?_) (fun hc => ?_)
        · refine ⟨_, rfl, _, rfl, D, _, rfl, .inl (.inl (.inl hD5)), rfl, flat_ints _, _, rfl, ?_⟩
          refine ite2 (fun hd => ?_) (fun hd => ?_)
          · refine ⟨_, rfl, _, rfl, ?_⟩
            generalize (!f0) = f1
            exact key f1 trivial
          · exact key f0 trivial
        · exact key f0 trivial
      intro f1 _
      refine split_two (α := Bool) (β := Hp) (R := fun f H6 => Upto b H H6 ∧ BagAt H6 b ∧ RowsAt H6 z FP ∧ H6 D = some (.lst (ks.map V.int)) ∧ RowsAt H6 zp AP) (C := ?C2) ?use2 ?key2
      case use2 =>
        intro key
        refine ⟨_, rfl, rfl, _, rfl, ?_⟩
        refine ite2 (fun hc => ?_) (fun hc => ?_)
        · refine ⟨_, rfl, b, 2, rfl, B5, by decide, by decide, fun r xs _ _ hx => ?_⟩
          have h6 : Upto b H (upd H5 b (.lst xs)) ∧ BagAt (upd H5 b (.lst xs)) b ∧ RowsAt (upd H5 b (.lst xs)) z FP ∧ (upd H5 b (.lst xs)) D = some (.lst (ks.map V.int)) ∧ RowsAt (upd H5 b (.lst xs)) zp AP :=
            ⟨u5.trans Upto.at_, ⟨xs, upd_same, hx⟩, hF5.upto B5 zb Upto.at_, by rw [upd_ne Db]; exact hD5, hA5.upto B5 hzp Upto.at_⟩
          generalize upd H5 b (.lst xs) = H6 at h6
          refine ⟨rfl, ?_⟩
          dsimp only
          generalize decide (V.int r = V.int 0) = f2
          exact key f2 H6 h6
        · exact key f1 H5 ⟨u5, B5, hF5, hD5, hA5⟩
      rintro f2 H6 ⟨u6, B6, hF6, hD6, hA6⟩
      refine ⟨_, rfl, .inl ⟨rfl, _, .inl (.inl hF6.lst)⟩, _, rfl, _, rfl, ?_⟩
      refine ite2 (fun hc => ?_) (fun hc => ?_)
      · refine ⟨_, rfl, _, rfl, by show 2 ≤ sizeLine; decide, fun t nt => ?_⟩
        obtain ⟨c1, c2, c3, c4, c5, c6⟩ := close AP[i].2 t u6 B6 hF6 hD6 hA6 nt (.inl rfl)
        refine ⟨z, _, _, rfl, rfl, (hF6.more (r := AP[i].2) (.refl _) nt).1, by rw [List.length_map]; exact small1000 (by omega), ?_⟩
        exact ⟨_, _, _, _, FP ++ [(t, AP[i].2)], rfl, c1, c2, c3, c4, c5, c6⟩
      · refine ⟨_, rfl, _, rfl, by show 2 ≤ sizeLine; decide, fun t nt => ?_⟩
        obtain ⟨c1, c2, c3, c4, c5, c6⟩ := close (AP[i].2.2, AP[i].2.1) t u6 B6 hF6 hD6 hA6 nt (.inr rfl)
        refine ⟨z, _, _, rfl, rfl, (hF6.more (r := (AP[i].2.2, AP[i].2.1)) (.refl _) nt).1, by rw [List.length_map]; exact small1000 (by omega), ?_⟩
        exact ⟨_, _, _, _, FP ++ [(t, (AP[i].2.2, AP[i].2.1))], rfl, c1, c2, c3, c4, c5, c6⟩
    · rintro σ H4 ⟨v6, v7, v8, v9, FP, rfl, u4, B4, hF, hD4, hA4, ht⟩
      have hAr : (rowsOf AP).length = AP.length := List.length_map _
      rw [List.length_map, ← hAr, List.take_length] at ht
      have hFl : FP.length ≤ 800 := by
        have e := ht.len
        rw [List.length_map, hAr] at e
        omega
      refine ⟨_, rfl, _, rfl, b, z, _, rfl, B4, zb, .inl (.inl hF.lst), by rw [List.length_map]; omega, fun H5 l zs u5 B5 nl lb hl hp => ?_⟩
      obtain ⟨FP', ezs, hp'⟩ := perm_lift hp FP rfl
      subst ezs
      have hF5 := hF.upto B4 zb u5
      refine k H5 l FP' (u4.trans u5) B5 (new u4 B4 nl).2 lb ⟨hl, fun q hq => hF5.tup q (hp'.mem_iff.mp hq)⟩ (hturn ht (hp'.map _)) ?_
      rw [hp'.length_eq]
      omega
end
end K0
end
section
set_option Elab.async false
set_option linter.all false
set_option maxRecDepth 100000
namespace K0
open PySem PySem.Spec PyProof.Rows L2
/-! ### rows and names as data -/
section
variable {K : PySem.W.Frag}
def rowD (r : Row) : PyData := .tuple [.str r.1, .str r.2]
theorem eqv_rows : ∀ a : List Row, PyData.eqvAll (a.map rowD) (a.map rowD) = true
  | [] => by simp only [List.map_nil, PyData.eqvAll]
  | r :: a => by simp only [List.map_cons, PyData.eqvAll, rowD, PyData.eqv, beq_self_eq_true, eqv_rows a, Bool.and_self]
theorem canLay_rows : ∀ {a : List Row}, (∀ r ∈ a, Plain r.1 ∧ Plain r.2) → PyData.canLayAll0 (a.map rowD) = true
  | [], _ => by simp only [List.map_nil, PyData.canLayAll0]
  | r :: a, h => by
    have ih := canLay_rows fun z hz => h z (List.mem_cons_of_mem _ hz)
    obtain ⟨h1, h2⟩ := h r List.mem_cons_self
    simp only [List.map_cons, PyData.canLayAll0, ih, rowD, PyData.canLay0, plain_ok h1, plain_ok h2]
    rfl
theorem depth_rows : ∀ a : List Row, PyData.depthAll (a.map rowD) ≤ 1
  | [] => by simp only [List.map_nil, PyData.depthAll]; omega
  | r :: a => by
    have ih := depth_rows a
    simp only [List.map_cons, PyData.depthAll, rowD, PyData.depth]
    omega
theorem good_plain {R : List Row} (h : GoodRows R) : ∀ r ∈ R, Plain r.1 ∧ Plain r.2 := fun r hr => by
  have hk := h.row hr
  exact ⟨name_plain hk.a, name_plain hk.b⟩
theorem dp_rows {H : Hp} : ∀ {AR : List (Addr × Row)}, (∀ q ∈ AR, H q.1 = some (.tup [.str q.2.1, .str q.2.2])) → DpAll K H (AR.map fun q => V.ref q.1) ((rowsOf AR).map rowD)
  | [], _ => .nil
  | (a, r) :: AR, h => .cons (.tup (.inl (.inl (h (a, r) List.mem_cons_self))) (.cons (.str r.1) (.cons (.str r.2) .nil))) (dp_rows fun q hq => h q (List.mem_cons_of_mem _ hq))
theorem shaped_rows {R : List Row} (h : ∀ r ∈ R, Plain r.1 ∧ Plain r.2) : SeqAt.shaped (.list (R.map rowD)) = true := by
  have h2 := depth_rows R
  have h3 : PyData.depthAll (R.map rowD) + 1 ≤ 64 := by omega
  unfold SeqAt.shaped
  simp only [PyData.canLay0, PyData.depth, canLay_rows h, h3]
  rfl
end
theorem rising_pw : ∀ (p : Str) (l : List Str), risingS p l = true → (p :: l).Pairwise fun a b => a.cps.toList ≤ b.cps.toList
  | p, [], _ => List.pairwise_singleton _ _
  | p, x :: r, h => by
    have h0 : (!ltCps x.cps.toList p.cps.toList && risingS x r) = true := h
    obtain ⟨h1, h2⟩ := Bool.and_eq_true_iff.mp h0
    have ih := rising_pw x r h2
    have hpx : p.cps.toList ≤ x.cps.toList := by
      rw [ltCps_eq] at h1
      have : ¬ (x.cps.toList < p.cps.toList) := by simpa using h1
      exact this
    refine List.pairwise_cons.mpr ⟨fun y hy => ?_, ih⟩
    rcases List.mem_cons.mp hy with e | e
    · rw [e]
      exact hpx
    · exact List.le_trans hpx ((List.pairwise_cons.mp ih).1 y e)
theorem sorted_pw {l : List Str} (h : sortedS l = true) : l.Pairwise fun a b => a.cps.toList ≤ b.cps.toList := by
  cases l with
  | nil => exact List.Pairwise.nil
  | cons x r => exact rising_pw x r h
theorem sorted_eq {a b : List Str} (ha : sortedS a = true) (hb : sortedS b = true) (hp : a.Perm b) : a = b :=
  List.Perm.eq_of_pairwise (le := fun a b => a.cps.toList ≤ b.cps.toList) (fun x y _ _ h1 h2 => str_ext (List.le_antisymm h1 h2)) (sorted_pw ha) (sorted_pw hb) hp
theorem eqv_strsD : ∀ a b : List Str, PyData.eqvAll (a.map PyData.str) (b.map PyData.str) = decide (a = b)
  | [], [] => by simp only [List.map_nil, PyData.eqvAll]; rfl
  | [], _ :: _ => by simp only [List.map_nil, List.map_cons, PyData.eqvAll]; rfl
  | _ :: _, [] => by simp only [List.map_nil, List.map_cons, PyData.eqvAll]; rfl
  | x :: a, y :: b => by
    have ih := eqv_strsD a b
    simp only [List.map_cons, PyData.eqvAll, PyData.eqv]
    rw [Bool.eq_iff_iff]
    have ih2 : PyData.eqvAll (a.map PyData.str) (b.map PyData.str) = true ↔ a = b := by rw [ih]; simp
    simp only [Bool.and_eq_true, beq_iff_eq, decide_eq_true_eq, List.cons.injEq, ih2]
end K0
end
section
set_option Elab.async false
set_option linter.all false
set_option maxRecDepth 100000
set_option maxHeartbeats 8000000
namespace K0
open PySem PySem.Spec PyProof.Rows L2
/-! ### a line or a ring is told as it must be -/
/-- t.index(x) of a tuple of texts, in a comprehension too -/
def rTIdx (K : PySem.W.Frag) : V → List V → Hp → VK → Prop := fun x xs H Q => ∃ p, ∃ ys : List Str, ∃ z j, x = .ref p ∧ xs = [.str z] ∧ SqT K H p (ys.map V.str) ∧ ys[j]? = some z ∧ (∀ m, m < j → ys[m]? ≠ some z) ∧ Q (.int (j : Nat)) H
theorem pe_tidx {X : Cx} {K : PySem.W.Frag} {o e : Expr} {to : TE} {t : TA} {apos cpos : Pos} (ho : PE X o to) (ht : PA X [e] t)
    (h1 : attributeBase o "index" X.env (eval o X.env) = eval o X.env := by rfl)
    (h2 : (((((backTo cpos (starEach [e] X.env)).all fun x => !x.fst) && (backToKw cpos (keywordEach [] X.env)).all fun x => x.fst.isSome) && decide (([e].length + ([] : List Keyword).length + if ([] : List Keyword).isEmpty = true then 0 else 1) < 30)) = true) := by rfl)
    (h3 : (apos.endLine == cpos.line) = true := by rfl) (h4 : starEach [e] X.env = (false, eval e X.env) :: starEach [] X.env := by rfl)
    (h5 : ((backTo cpos (starEach [] X.env)).any fun x => x.fst) = false := by rfl) (ek : X.K = K := by rfl) : PE X ((o.Attribute "index" apos).Call [e] [] cpos) (tBMT (rTIdx K) to t) := by
  subst ek
  exact k0_bmT PySem.F.slot_tuple_index PySem.F.type_tuple_index mt_tup_index ho ht h1 h2 h3 h4 h5
abbrev scLUp_N : List Str := ["_law_rows", "_law_told", "_law_ways", "_law_ahead_here", "_law_kept", "_law_ring_here", "_law_found", "_law_name", "_law_one", "_law_other"]
abbrev scLUp_S : Stmt := sLUp
theorem scLUp : FnScope scLUp_N ["_law_rows", "_law_told", "_law_ways", "_law_ahead_here"] (defScope sLUp) := ⟨rfl, rfl, rfl, by decide +kernel, rfl, by decide +kernel, by decide +kernel⟩
def spLUp (Cg Cr : Addr) : Sp := fun vs H Q _ => ∃ (l p d h q : Addr) (AL AP AR : List (Addr × Row)) (BR : List (Addr × RRow)), vs = [.ref l, .ref p, .ref d, .ref h] ∧ RowsAt H l AL ∧ rowsOf AL = rowsOf AR ∧ RigOk Cg Cr H p q AR BR ∧ WaysL H d (rnm (bOf BR)) (wayN (rowsOf AR) (bOf BR)) ∧ RowsAt H h AP ∧ Ahead (rowsOf AR) (bOf BR) (rowsOf AP) ∧ AP.length ≤ 1640 ∧ ∀ H', Same H H' → Q (.bl true) H'
section
variable {P : Program} {w : World} {K : PySem.W.Frag} {mg : Str → Option Value} {base : Heap} {tS tM tL : Tok}
theorem ok_lup {f fR fU fL Cg Cr : Addr} {fd fdR fdU fdL : FuncData} (F : FnP K "_law_up_right" sLUp f fd) (F_law_ring : FnP K "_law_ring" sLRing fR fdR) (g_law_ring : mg "_law_ring" = some (.ref fR)) (F_law_line : FnP K "_law_line" sLLine fL fdL) (g_law_line : mg "_law_line" = some (.ref fL))
    (Gline_up : FnOk P w K mg base CX0 5 fU fdU ["rights", "ahead"] (spLineUp Cg Cr)) (Fline_up : FnP K "line_up" sLineUp fU fdU) (gline_up : mg "line_up" = some (.ref fU)) (B : Bl mg) : FnOk P w K mg base CX0 6 f fd ["_law_rows", "_law_told", "_law_ways", "_law_ahead_here"] (spLUp Cg Cr) := by
  have G_law_ring : FnOk P w K mg base CX0 1 fR fdR ["_law_rows", "_law_ways", "_law_ahead_here"] spLRing := ok_lring F_law_ring B
  have b_law_ring : Binds K fdR ["_law_rows", "_law_ways", "_law_ahead_here"] [] := F_law_ring.bindsN fun _ _ _ _ _ _ us hl => match us, hl with | [_, _, _], _ => rfl
  have G_law_line : FnOk P w K mg base CX0 1 fL fdL ["_law_ways", "_law_ahead_here"] spLLine := ok_lline F_law_line B
  have b_law_line : Binds K fdL ["_law_ways", "_law_ahead_here"] [] := F_law_line.bindsN fun _ _ _ _ _ _ us hl => match us, hl with | [_, _], _ => rfl
  have bline_up : Binds K fdU ["rights", "ahead"] [] := Fline_up.bindsN fun _ _ _ _ _ _ us hl => match us, hl with | [_, _], _ => rfl
  refine F.ok scLUp (fun vs H Q E h => ?_) (fun cdv A outer s H vs Q E hr h => ?_)
  · obtain ⟨l, p, d, h, q, AL, AP, AR, BR, rfl, _⟩ := h
    rfl
  · obtain ⟨l, p, d, h, q, AL, AP, AR, BR, rfl, hL, eL, R, W, hA, T0, hAl, k⟩ := h
    have hu := hu_of hr
    have hu64 := hr.units
    have hr_law_ring : Room 1 _ := hr.mono (by decide)
    have hr_law_line : Room 1 _ := hr.mono (by decide)
    have hrline_up : Room 5 _ := hr
    refine ⟨_, PSs.nox (pss_cons
      (ps_asg (pe_tup (pa_cons (pe_callTy (listK (K := K)) (by rfl) B.list (by decide +kernel) (pa_cons (pv 3) pa_nil)) (pa_cons (pe_call G_law_ring hr_law_ring (by rfl) g_law_ring F_law_ring.kp b_law_ring .nil pass0 (pa_cons (pv 0) (pa_cons (pv 2) (pa_cons (pv 3) pa_nil)))) pa_nil))) (tgK (K := K) (n := 2) (by rfl) (pgs_cons (pg_name (i := 4) scLUp.nd rfl (Or.inl rfl)) (pgs_cons (pg_name (i := 5) scLUp.nd rfl (Or.inr rfl)) pgs_nil))))
      (pss_cons
      (ps_set (i := 6) scLUp.nd rfl (Or.inr rfl) (pe_call Gline_up hrline_up (by rfl) gline_up Fline_up.kp bline_up .nil pass0 (pa_cons (pv 1) (pa_cons (pv 3) pa_nil))))
      (pss_cons
      (ps_if (PW.pt (pw_or (pt_cmpR (op_neD hu64) (pv 3) (pv 4) (nomark _)) (pw_or1 (pt_not (pt_val (pe_callB call_isi (by rfl) B.isinstance (by decide +kernel) (pa_cons (pv 6) (pa_cons (pe_bltn (v := .ty "tuple") (by rfl) B.tuple (by decide +kernel) rfl) pa_nil)))))))) (pss_one
      (ps_ret pe_bl)) pss_nil)
      (pss_cons
      (ps_if (pt_cmpR op_notN (pv 5) pe_non (nomark _)) (pss_one
      (ps_ret (pe_and (pe_cmpR (op_eqD hu64) (pv 6) (pe_tup (pa_cons pe_str (pa_cons (pe_ix (ixTK (K := K)) (pv 5) pe_int (fun _ _ => rfl)) (pa_cons (pe_ix (ixTK (K := K)) (pv 5) pe_int (fun _ _ => rfl)) pa_nil)))) (nomark _)) (pe_one (pe_callB (allK (K := K) rfl) (by rfl) B.all (by decide +kernel) (pa_cons (pe_lc (own := [("_law_name", 7)]) (g := gName 7) (tt := tYes) (by rfl) scLUp.nd (pi_tup (pe_ix (ixTK (K := K)) (pv 5) pe_int (fun _ _ => rfl))) (blkOk_by (own := [("_law_name", 7)]) (N := scLUp_N) (sc := defScope scLUp_S) (by decide +kernel)) (fun _ _ _ _ _ => (pg_name (i := 7) scLUp.nd rfl (Or.inl rfl))) (fun _ _ _ _ _ => pts_nil) (fun _ _ _ _ _ => (pe_cmpR (inK (K := K)) (pe_ix (ixTK (K := K)) (pv 5) pe_int (fun _ _ => rfl)) (pe_dget hu (pv 2) (pv 7) (fun _ _ => rfl)) (by rfl)))) pa_nil)))))) pss_nil)
      (pss_cons
      (ps_if (PW.pt (pw_or (pt_cmpR op_ne (pe_callB (lenK (K := K)) (by rfl) B.len PySem.boot_len (pa_cons (pv 6) pa_nil)) pe_int (nomark _)) (pw_or (pt_cmpR op_ne (pe_ix (ixTK (K := K)) (pv 6) pe_int (fun _ _ => rfl)) pe_str (nomark _)) (pw_or1 (pt_not (pt_val (pe_callB call_isi (by rfl) B.isinstance (by decide +kernel) (pa_cons (pe_ix (ixTK (K := K)) (pv 6) pe_int (fun _ _ => rfl)) (pa_cons (pe_bltn (v := .ty "tuple") (by rfl) B.tuple (by decide +kernel) rfl) pa_nil))))))))) (pss_one
      (ps_ret pe_bl)) pss_nil)
      (pss_cons
      (ps_if (pt_cmpR (op_neD hu64) (pe_callB cr_sortedS (by rfl) B.sorted (by decide +kernel) (pa_cons (pe_callTy (listK (K := K)) (by rfl) B.list (by decide +kernel) (pa_cons (pe_ix (ixTK (K := K)) (pv 6) pe_int (fun _ _ => rfl)) pa_nil)) pa_nil)) (pe_callB cr_sortedS (by rfl) B.sorted (by decide +kernel) (pa_cons (pe_callTy (call_listD rfl) (by rfl) B.list (by decide +kernel) (pa_cons (pv 2) pa_nil)) pa_nil)) (nomark _)) (pss_one
      (ps_ret pe_bl)) pss_nil)
      (pss_cons
      (ps_if (pt_not (pt_val (pe_callB (allK (K := K) rfl) (by rfl) B.all (by decide +kernel) (pa_cons (pe_lc (own := [("_law_one", 8), ("_law_other", 9)])  (tt := tYes) (by rfl) scLUp.nd (pi_list (pv 3)) (blkOk_by (own := [("_law_one", 8), ("_law_other", 9)]) (N := scLUp_N) (sc := defScope scLUp_S) (by decide +kernel)) (fun _ _ _ _ _ => (tgK (K := K) (n := 2) (by rfl) (pgs_cons (pg_name (i := 8) scLUp.nd rfl (Or.inl rfl)) (pgs_cons (pg_name (i := 9) scLUp.nd rfl (Or.inl rfl)) pgs_nil)))) (fun _ _ _ _ _ => pts_nil) (fun _ _ _ _ _ => (pe_cmpR op_lt (pe_tidx (K := K) (pe_ix (ixTK (K := K)) (pv 6) pe_int (fun _ _ => rfl)) (pa_cons (pv 8) pa_nil)) (pe_tidx (K := K) (pe_ix (ixTK (K := K)) (pv 6) pe_int (fun _ _ => rfl)) (pa_cons (pv 9) pa_nil)) (nomark _)))) pa_nil)))) (pss_one
      (ps_ret pe_bl)) pss_nil)
      (pss_one
      (ps_ret (pe_cmpR (op_eqD hu64) (pe_callTy (listK (K := K)) (by rfl) B.list (by decide +kernel) (pa_cons (pe_ix (ixTK (K := K)) (pv 6) pe_int (fun _ _ => rfl)) pa_nil)) (pe_call G_law_line hr_law_line (by rfl) g_law_line F_law_line.kp b_law_line .nil pass0 (pa_cons (pv 2) (pa_cons (pv 3) pa_nil))) (nomark _))))))))))), ?_⟩
    have hg := R.g
    have hb := R.b
    have hgL : GoodRows (rowsOf AL) := by rw [eL]; exact hg
    have hbL : RtOk (rowsOf AL) (bOf BR) := by rw [eL]; exact hb
    have eN : namesOf AL = namesOf AR := by
      show (rowsOf AL).map (·.1) = (rowsOf AR).map (·.1)
      rw [eL]
    refine ⟨_, rfl, h, _, rfl, .inl (.inl (.inl hA.lst)), fun kp nkp => ?_⟩
    have s1 : Same H (upd H kp (.lst (AP.map fun q => V.ref q.1))) := same_upd nkp
    have hkp1 : (upd H kp (.lst (AP.map fun q => V.ref q.1))) kp = some (.lst (AP.map fun q => V.ref q.1)) := upd_same
    generalize upd H kp (.lst (AP.map fun q => V.ref q.1)) = H1 at s1 hkp1
    refine ⟨_, rfl, _, rfl, _, rfl, l, d, h, AL, AP, bOf BR, rfl, hL.same s1, by rw [eL]; exact W.same s1, hA.same s1, hgL, hbL, hAl, fun H2 v s2 ov => ?_⟩
    rw [eL, eN] at ov
    refine ⟨by show 2 ≤ sizeLine; decide, fun T nT => ?_⟩
    refine ⟨T, _, rfl, .inl (.inl upd_same), rfl, _, _, rfl, _, _, rfl, rfl, ?_⟩
    have s3 : Same H2 (upd H2 T (.tup [.ref kp, v])) := same_upd nT
    generalize upd H2 T (.tup [.ref kp, v]) = H3 at s3
    have s13 := (s1.trans s2).trans s3
    refine ⟨_, rfl, _, rfl, p, q, h, AP, AR, BR, rfl, R.same s13, hA.same s13, hAl, fun H4 v4 s4 lu => ?_⟩
    have s14 := s13.trans s4
    have hA4 := hA.same s14
    have hkp4 := (((s2.trans s3).trans s4) _ _ hkp1)
    have hpl : ∀ r ∈ rowsOf AP, Plain r.1 ∧ Plain r.2 := fun r hr => by
      obtain ⟨a1, a2, _, _⟩ := T0.sub r.1 r.2 hr
      exact ⟨name_pl hb a1, name_pl hb a2⟩
    have hrows := shaped_rows hpl
    refine ⟨_, rfl, _, rfl, _, _, .lst (.inl (.inl hA4.lst)) (dp_rows hA4.tup), .lst (.inl (.inl hkp4)) (dp_rows hA4.tup), hrows, hrows, _, rfl, ?_⟩
    have eR : PyData.eqv (.list ((rowsOf AP).map rowD)) (.list ((rowsOf AP).map rowD)) = true := by
      simp only [PyData.eqv]
      exact eqv_rows _
    rw [eR]
    refine iteF ?_
    have htup : ∃ t ts, v4 = .ref t ∧ H4 t = some (.tup ts) := by
      unfold LineUp at lu
      by_cases z : (lineOf (rowsOf AP) (rnm (bOf BR))).length < (rnm (bOf BR)).length
      · rw [if_pos z] at lu
        have hn := (line_short hg hb T0).mp z
        cases e : firstRing (rowsOf AP) (rowsOf AR) (bOf BR) (namesOf AR) with
        | none => exact absurd e hn
        | some r =>
          rw [e] at lu
          obtain ⟨t, u, e1, e2, _⟩ := lu
          exact ⟨t, _, e1, e2⟩
      · rw [if_neg z] at lu
        obtain ⟨t, u, e1, e2, _⟩ := lu
        exact ⟨t, _, e1, e2⟩
    obtain ⟨t, ts, rfl, htt⟩ := htup
    refine ⟨_, rfl, .ref t, .ty "tuple", _, _, true, rfl, .ty "tuple", .base (.tup htt), kit_ty (by decide +kernel), _, rfl, ?_⟩
    refine iteF ?_
    have s24 : Same H2 H4 := s3.trans s4
    unfold LineUp at lu
    cases hfr : firstRing (rowsOf AP) (rowsOf AR) (bOf BR) (namesOf AR) with
    | some r =>
      have z := (line_short hg hb T0).mpr (by show firstRing (rowsOf AP) (rowsOf AR) (bOf BR) (namesOf AR) ≠ none; rw [hfr]; exact fun q => by cases q)
      rw [if_pos z, hfr] at lu
      rw [hfr] at ov
      obtain ⟨t1, u1, e1, o1, o2⟩ := ov
      obtain ⟨t2, u2, e2, l1, l2⟩ := lu
      subst e1
      cases e2
      obtain ⟨w0, hw0, e3⟩ := List.exists_of_findSome?_eq_some hfr
      cases e4 : ring1 (rowsOf AP) (passR (rowsOf AR) (bOf BR) w0) with
      | none => rw [e4] at e3; cases e3
      | some tr =>
        rw [e4] at e3
        cases e3
        dsimp only at o1 o2 l1 l2
        obtain ⟨xa, xb, xc⟩ := tr
        dsimp only at o1 o2 l1 l2
        obtain ⟨ya, yb, yc, ya1, yb1, yc1, e5⟩ := ring1_some e4
        obtain ⟨_, _, _, hin⟩ := turnT_some e5
        have hpas : ∀ x, x = xa ∨ x = xb ∨ x = xc → x ∈ rnm (bOf BR) ∧ w0 ∈ wayN (rowsOf AR) (bOf BR) x := fun x hx => by
          have hp : x ∈ passR (rowsOf AR) (bOf BR) w0 := by
            rcases hin x hx with e | e | e <;> rw [e] <;> assumption
          obtain ⟨h1, h2⟩ := List.mem_filter.mp hp
          exact ⟨h1, of_decide_eq_true h2⟩
        have hwp : Plain w0 := plain_name hg hw0
        have o14 := s24 _ _ o1
        have o24 := s24 _ _ o2
        refine ⟨_, rfl, rfl, _, rfl, ?_⟩
        refine iteT ?_
        refine ⟨_, rfl, _, rfl, t1, _, _, _, rfl, rfl, .inl (.inl o14), atI_nat (j := 0) rfl, _, rfl, t1, _, _, _, rfl, rfl, .inl (.inl o14), atI_nat (j := 1) rfl, by show 3 ≤ sizeLine; decide, fun t5 nt5 => ?_⟩
        have s5 : Same H4 (upd H4 t5 (.tup [.str "ring", .str w0, .ref u1])) := same_upd nt5
        have ht5 : (upd H4 t5 (.tup [.str "ring", .str w0, .ref u1])) t5 = some (.tup [.str "ring", .str w0, .ref u1]) := upd_same
        generalize upd H4 t5 (.tup [.str "ring", .str w0, .ref u1]) = H5 at s5 ht5
        have hD : ∀ (u : Addr), H5 u = some (.tup [.str xa, .str xb, .str xc]) → Dp K H5 (.ref u) (.tuple ([xa, xb, xc].map PyData.str)) := fun u hu => .tup (.inl (.inl hu)) (dp_strs [xa, xb, xc])
        have hDD : ∀ (v u : Addr), H5 v = some (.tup [.str "ring", .str w0, .ref u]) → H5 u = some (.tup [.str xa, .str xb, .str xc]) → Dp K H5 (.ref v) (.tuple [.str "ring", .str w0, .tuple ([xa, xb, xc].map PyData.str)]) := fun v u hv hu => .tup (.inl (.inl hv)) (.cons (.str _) (.cons (.str _) (.cons (hD u hu) .nil)))
        have hpl3 : ∀ y ∈ [xa, xb, xc], Plain y := fun y hy => name_pl hb (hpas y (by simpa using hy)).1
        have hsh : SeqAt.shaped (.tuple [.str "ring", .str w0, .tuple ([xa, xb, xc].map PyData.str)]) = true := by
          have c3 : PyData.canLayAll0 ([xa, xb, xc].map PyData.str) = true := by
            simp only [List.map_cons, List.map_nil, PyData.canLayAll0, PyData.canLay0, plain_ok (hpl3 xa (by simp)), plain_ok (hpl3 xb (by simp)), plain_ok (hpl3 xc (by simp)), Bool.and_self]
          unfold SeqAt.shaped
          simp only [PyData.canLay0, PyData.canLayAll0, PyData.depth, PyData.depthAll, List.map_cons, List.map_nil, plain_ok (hpl3 xa (by simp)), plain_ok (hpl3 xb (by simp)), plain_ok (hpl3 xc (by simp)), plain_ok hwp]
          decide +kernel
        refine ⟨_, _, hDD t u2 (s5 _ _ l1) (s5 _ _ l2), hDD t5 u1 ht5 (s5 _ _ o24), hsh, hsh, _, rfl, ?_⟩
        have eqq : PyData.eqv (.tuple [.str "ring", .str w0, .tuple ([xa, xb, xc].map PyData.str)]) (.tuple [.str "ring", .str w0, .tuple ([xa, xb, xc].map PyData.str)]) = true := by
          simp only [PyData.eqv, PyData.eqvAll, beq_self_eq_true, eqv_strs, Bool.and_self]
        rw [eqq]
        refine iteT ?_
        have s05 := s14.trans s5
        obtain ⟨ta, w1, w2⟩ := id (W.same s05).ex
        refine ⟨_, rfl, t1, _, _, _, rfl, rfl, .inl (.inl (s5 _ _ o14)), atI_nat (j := 1) rfl, u1, rfl, ⟨_, .inl (.inl (s5 _ _ o24))⟩, fun D nD => ?_⟩
        refine lc_tupO (K := K) (a := u1) (xs := [xa, xb, xc].map V.str) nD (fun j => ((([xa, xb, xc] : List Str).take j).map fun _ => true).map V.bl) rfl (fun j _ => by rw [List.length_map, List.length_map, List.length_take]; exact small1000 (by simp; omega)) (fun H6 s6 => .inl (.inl (s6 _ _ (s5 _ _ o24)))) ?_ ?_
        · intro j x H6 Nx hx s6 put skip
          rw [List.getElem?_map] at hx
          obtain ⟨n, hn, rfl⟩ := Option.map_eq_some_iff.mp hx
          obtain ⟨hnr, hnw⟩ := hpas n (by simpa using List.mem_of_getElem? hn)
          refine ⟨rfl, ?_⟩
          unfold tYes
          refine iteT ?_
          refine ⟨_, rfl, t1, _, _, _, rfl, rfl, .inl (.inl (s6 _ _ (s5 _ _ o14))), atI_nat (j := 0) rfl, _, rfl, _, rfl, d, _, rfl, dget_rn (.inl (s6 _ _ w1)) hnr, ta n, _, rfl, .inl (.inl (.inl (s6 _ _ (w2 n hnr)))), rfl, flat_strs _, ?_⟩
          refine put _ _ (.refl _) ?_
          have hi : inV (.str w0) ((wayN (rowsOf AR) (bOf BR) n).map V.str) = true := by rw [inV_str]; exact decide_eq_true hnw
          rw [hi, List.take_add_one, hn, List.map_append, List.map_append]
          rfl
        intro H6 s6 hD6
        refine ⟨D, [true, true, true], rfl, .inl (.inl hD6), ?_⟩
        exact k H6 (s05.trans s6)
    | none =>
      have z : ¬ (lineOf (rowsOf AP) (rnm (bOf BR))).length < (rnm (bOf BR)).length := fun z => (line_short hg hb T0).mp z hfr
      rw [if_neg z] at lu
      rw [hfr] at ov
      have ov : v = .non := ov
      obtain ⟨t2, u2, e2, l1, l2⟩ := lu
      subst ov
      cases e2
      refine ⟨_, rfl, rfl, _, rfl, ?_⟩
      refine iteF ?_
      refine ⟨_, rfl, t, _, rfl, .inr (.inl (.inl l1)), rfl, _, rfl, ?_⟩
      refine iteF ?_
      refine ⟨_, rfl, t, _, _, _, rfl, rfl, .inl (.inl l1), atI_nat (j := 0) rfl, rfl, _, rfl, ?_⟩
      refine iteF ?_
      refine ⟨_, rfl, t, _, _, _, rfl, rfl, .inl (.inl l1), atI_nat (j := 1) rfl, .ref u2, .ty "tuple", _, _, true, rfl, .ty "tuple", .fTuple l2.choose_spec.2, kit_ty (by decide +kernel), _, rfl, ?_⟩
      refine iteF ?_
      have hm := hb.most
      have hln : (rnm (bOf BR)).length = (bOf BR).length := List.length_map _
      have hnd : (lineOf (rowsOf AP) (rnm (bOf BR))).Nodup := lineOf_nd _ _ hb.nd
      have hsub : ∀ y ∈ lineOf (rowsOf AP) (rnm (bOf BR)), y ∈ rnm (bOf BR) := lineOf_sub _ _
      have hperm : (lineOf (rowsOf AP) (rnm (bOf BR))).Perm (rnm (bOf BR)) := (List.perm_ext_iff_of_nodup hnd hb.nd).mpr fun y => ⟨hsub y, all_in hnd hsub (by omega) y⟩
      have hord := lineOf_ord (A := rowsOf AP) (rnm (bOf BR)).length (rnm (bOf BR)) hb.nd
      change ∀ (i : Nat) (y x : Str), (lineOf (rowsOf AP) (rnm (bOf BR)))[i]? = some y → x ∈ rnm (bOf BR) → (x, y) ∈ rowsOf AP → x ∈ (lineOf (rowsOf AP) (rnm (bOf BR))).take i at hord
      have hLl : (lineOf (rowsOf AP) (rnm (bOf BR))).length ≤ 40 := by rw [hperm.length_eq]; omega
      generalize hLe : lineOf (rowsOf AP) (rnm (bOf BR)) = L at l2 hnd hsub hperm hord hLl
      refine ⟨_, rfl, t, _, _, _, rfl, rfl, .inl (.inl l1), atI_nat (j := 1) rfl, u2, _, rfl, .inr (.inl l2.rd), fun l5 nl5 => ?_⟩
      have s5 : Same H4 (upd H4 l5 (.lst (L.map V.str))) := same_upd nl5
      have hl5 : (upd H4 l5 (.lst (L.map V.str))) l5 = some (.lst (L.map V.str)) := upd_same
      generalize upd H4 l5 (.lst (L.map V.str)) = H5 at s5 hl5
      refine ⟨l5, L, rfl, .inl (.inl hl5), by omega, fun ys py hpm hst hno => ?_⟩
      have s6 : Same H5 (upd H5 py (.lst (ys.map V.str))) := same_upd hno
      have hpy : (upd H5 py (.lst (ys.map V.str))) py = some (.lst (ys.map V.str)) := upd_same
      generalize upd H5 py (.lst (ys.map V.str)) = H6 at s6 hpy
      obtain ⟨ta, w1, w2⟩ := id W.ex
      have hkk : ((kmap (fun y => V.ref (ta y)) (rnm (bOf BR))).map fun kv => kV kv.1) = (rnm (bOf BR)).map V.str := by
        unfold kmap
        rw [List.map_map]
        rfl
      have s16 := (s14.trans s5).trans s6
      refine ⟨_, rfl, d, _, rfl, .inl (s16 _ _ w1), fun l7 nl7 => ?_⟩
      rw [hkk]
      have s7 : Same H6 (upd H6 l7 (.lst ((rnm (bOf BR)).map V.str))) := same_upd nl7
      have hl7 : (upd H6 l7 (.lst ((rnm (bOf BR)).map V.str))) l7 = some (.lst ((rnm (bOf BR)).map V.str)) := upd_same
      generalize upd H6 l7 (.lst ((rnm (bOf BR)).map V.str)) = H7 at s7 hl7
      refine ⟨l7, rnm (bOf BR), rfl, .inl (.inl hl7), by omega, fun zs pz hpm2 hst2 hno2 => ?_⟩
      have s8 : Same H7 (upd H7 pz (.lst (zs.map V.str))) := same_upd hno2
      have hpz : (upd H7 pz (.lst (zs.map V.str))) pz = some (.lst (zs.map V.str)) := upd_same
      generalize upd H7 pz (.lst (zs.map V.str)) = H8 at s8 hpz
      obtain rfl : ys = zs := sorted_eq hst hst2 (hpm.trans (hperm.trans hpm2.symm))
      have hyp : ∀ y ∈ ys, Plain y := fun y hy => name_pl hb (hpm2.mem_iff.mp hy)
      have hll : PyData.eqv (.list (ys.map PyData.str)) (.list (ys.map PyData.str)) = true := by
        simp only [PyData.eqv]
        exact eqv_strs ys
      refine ⟨_, _, .lst (.inl (.inl (s8 _ _ (s7 _ _ hpy)))) (dp_strs ys), .lst (.inl (.inl hpz)) (dp_strs ys), shaped_lst hyp, shaped_lst hyp, _, rfl, ?_⟩
      rw [hll]
      refine iteF ?_
      have s48 := ((s5.trans s6).trans s7).trans s8
      have htt8 := s48 _ _ l1
      have hu8 := l2.same s48
      have hA8 := hA4.same s48
      have hAr : (rowsOf AP).length = AP.length := List.length_map _
      have z40 : 40000 ≤ sizeLine := by rw [sizeLine_eq]; omega
      refine ⟨_, rfl, h, rfl, ⟨_, .inl (.inl hA8.lst)⟩, fun D nD => ?_⟩
      refine lc_listO (K := K) (a := h) (xs := AP.map fun q => V.ref q.1) nD (fun j => (((rowsOf AP).take j).map fun _ => true).map V.bl) (by rw [List.take_zero]; rfl) (fun j _ => by rw [List.length_map, List.length_map, List.length_take]; omega) (.inl (.inl hA8.lst)) ?_ ?_
      · intro j x H9 Nx hx s9 put skip
        have hj : j < AP.length := by
          have := (List.getElem?_eq_some_iff.mp hx).1
          rw [List.length_map] at this
          exact this
        have ex := row_at hx hj
        subst ex
        have hrj : (rowsOf AP)[j]? = some AP[j].2 := by rw [List.getElem?_map, List.getElem?_eq_getElem hj]; rfl
        have ht9 := s9 _ _ (hA8.tup _ (List.getElem_mem hj))
        have hin : (AP[j].2.1, AP[j].2.2) ∈ rowsOf AP := List.mem_of_getElem? hrj
        obtain ⟨o1, o2, _, _⟩ := T0.sub _ _ hin
        have o1L := hperm.mem_iff.mpr o1
        have o2L := hperm.mem_iff.mpr o2
        have hat : ∀ {x : Str}, x ∈ L → L[L.idxOf x]? = some x := fun {x} hx => by
          have hlt := List.idxOf_lt_length_iff.mpr hx
          rw [List.getElem?_eq_getElem hlt, List.getElem_idxOf]
        have hfst : ∀ {x : Str} (m : Nat), m < L.idxOf x → L[m]? ≠ some x := fun {x} m hm e => by
          have q := List.not_of_lt_findIdx (p := fun z => z == x) (xs := L) hm
          obtain ⟨hml, e4⟩ := List.getElem?_eq_some_iff.mp e
          rw [e4, beq_self_eq_true] at q
          cases q
        have hlt : L.idxOf AP[j].2.1 < L.idxOf AP[j].2.2 := by
          have h1 := hord _ _ _ (hat o2L) o1 hin
          obtain ⟨m, hm1, hm2⟩ := List.mem_iff_getElem.mp h1
          rw [List.length_take] at hm1
          rw [List.getElem_take] at hm2
          rcases Nat.lt_or_ge (L.idxOf AP[j].2.1) (L.idxOf AP[j].2.2) with q | q
          · exact q
          · exact absurd (by rw [List.getElem?_eq_getElem (by omega), hm2]) (hfst (x := AP[j].2.1) m (by omega))
        refine ⟨AP[j].1, _, rfl, .inl (.inl ht9), rfl, _, _, rfl, _, _, rfl, rfl, rfl, ?_⟩
        unfold tYes
        refine iteT ?_
        obtain ⟨o9, po9, f9⟩ := hu8.same s9
        refine ⟨_, rfl, t, _, _, _, rfl, rfl, .inl (.inl (s9 _ _ htt8)), atI_nat (j := 1) rfl, ⟨u2, o9, _, rfl, f9, po9⟩, _, rfl, u2, L, AP[j].2.1, _, rfl, rfl, .inl (hu8.same s9).rd, hat o1L, hfst, ?_⟩
        refine ⟨_, rfl, t, _, _, _, rfl, rfl, .inl (.inl (s9 _ _ htt8)), atI_nat (j := 1) rfl, ⟨u2, o9, _, rfl, f9, po9⟩, _, rfl, u2, L, AP[j].2.2, _, rfl, rfl, .inl (hu8.same s9).rd, hat o2L, hfst, ?_⟩
        refine ⟨_, _, rfl, rfl, put _ _ (.refl _) ?_⟩
        have hd : decide ((L.idxOf AP[j].2.1 : Int) < (L.idxOf AP[j].2.2 : Int)) = true := decide_eq_true (by omega)
        rw [take_map1 hrj, List.map_append]
        dsimp only
        rw [hd]
        rfl
      intro H9 s9 hD9
      rw [List.length_map] at hD9
      refine ⟨D, ((rowsOf AP).take AP.length).map fun _ => true, rfl, .inl (.inl hD9), ?_⟩
      rw [show ((((rowsOf AP).take AP.length).map fun _ => true).all id) = true from List.all_eq_true.mpr fun x hx => by obtain ⟨_, _, rfl⟩ := List.mem_map.mp hx; rfl]
      refine ⟨_, rfl, ?_⟩
      refine iteF ?_
      have s49 := s48.trans s9
      refine ⟨_, rfl, t, _, _, _, rfl, rfl, .inl (.inl (s49 _ _ l1)), atI_nat (j := 1) rfl, u2, _, rfl, .inr (.inl (l2.same s49).rd), fun l10 nl10 => ?_⟩
      have s10 : Same H9 (upd H9 l10 (.lst (L.map V.str))) := same_upd nl10
      have hl10 : (upd H9 l10 (.lst (L.map V.str))) l10 = some (.lst (L.map V.str)) := upd_same
      generalize upd H9 l10 (.lst (L.map V.str)) = H10 at s10 hl10
      have s410 := s49.trans s10
      have s010 := s14.trans s410
      refine ⟨_, rfl, _, rfl, d, h, rnm (bOf BR), _, AP, rfl, W.same s010, hA.same s010, hb.nd, by omega, hAl, fun H11 z11 s11 nz11 hz11 => ?_⟩
      rw [hLe] at hz11
      have hLp : ∀ y ∈ L, Plain y := fun y hy => name_pl hb (hsub y hy)
      refine ⟨_, _, .lst (.inl (.inl (s11 _ _ hl10))) (dp_strs L), .lst (.inl (.inl hz11)) (dp_strs L), shaped_lst hLp, shaped_lst hLp, ?_⟩
      have hLL : PyData.eqv (.list (L.map PyData.str)) (.list (L.map PyData.str)) = true := by
        simp only [PyData.eqv]
        exact eqv_strs L
      rw [hLL]
      exact k H11 (s010.trans s11)
end
end K0
end
section
set_option Elab.async false
set_option linter.all false
set_option maxRecDepth 100000
set_option maxHeartbeats 8000000
namespace K0
open PySem PySem.Spec PyProof.Rows L2
/-! ### line_pairs is told as it must be -/
theorem glue_fold : ∀ (l : List Str) (acc : Array Nat), (l.foldl (fun acc p => acc ++ (Str.ofString "").cps ++ p.cps) acc).toList = acc.toList ++ l.flatMap fun y => y.cps.toList
  | [], acc => by simp
  | y :: l, acc => by
    have ih := glue_fold l (acc ++ (Str.ofString "").cps ++ y.cps)
    rw [List.foldl_cons, ih, List.flatMap_cons]
    have e : (Str.ofString "").cps = #[] := by decide +kernel
    rw [e]
    simp
theorem join_list (ys : List Str) : (Txt.join (Str.ofString "") ys).cps.toList = ys.flatMap fun y => y.cps.toList := by
  cases ys with
  | nil => rfl
  | cons y l =>
    show (l.foldl (fun acc p => acc ++ (Str.ofString "").cps ++ p.cps) y.cps).toList = _
    rw [glue_fold, List.flatMap_cons]
theorem plain_app {x y : Str} (hx : Plain x) (hy : Plain y) : Plain (x ++ y) := fun c hc => by
  rw [app_list] at hc
  exact (List.mem_append.mp hc).elim (hx c) (hy c)
theorem plain_abc : Plain ("abcdefghi" : Str) := fun c hc => by
  have h : (Str.ofString "abcdefghi").cps.toList = [97, 98, 99, 100, 101, 102, 103, 104, 105] := by decide +kernel
  have hc : c ∈ (Str.ofString "abcdefghi").cps.toList := hc
  rw [h] at hc
  simp at hc
  omega
theorem plain_a : Plain ("a" : Str) := fun c hc => by
  have h : (Str.ofString "a").cps.toList = [97] := by decide +kernel
  have hc : c ∈ (Str.ofString "a").cps.toList := hc
  rw [h] at hc
  simp at hc
  omega
theorem plain_e : Plain ("" : Str) := fun c hc => nomatch (show c ∈ ([] : List Nat) from hc)
theorem shownUp {K : PySem.W.Frag} {H H' : Hp} {b : Addr} {x : V} (hB : BagAt H b) (u : Upto b H H') (h : Shown K H x) : Shown K H' x := by
  cases h with
  | str y h z => exact .str y h z
  | non => exact .non
  | bl b => exact .bl b
  | int i h z => exact .int i h z
  | lst e h z => exact .lst (u _ _ e (strs_ne_bag hB e)) h z
  | tup e h z => exact .tup (u _ _ e (by obtain ⟨xs, hb, _⟩ := hB; exact ne_of e hb (fun z => by cases z))) h z
theorem nameOk_in {R : List Row} {B : List RRow} (b : RtOk R B) {n : Str} (hn : n ∈ rnm B) : NameOk n := by
  obtain ⟨r, hr, rfl⟩ := List.mem_map.mp hn
  exact b.ok r hr
/-- what the law keeps: all but the bag, own dicts, other things -/
def UK (p : Addr) (H H' : Hp) : Prop := ∀ b o, H b = some o → b ≠ p → (∀ y, o ≠ .own y) → (∀ φ, o ≠ .ext φ) → H' b = some o
theorem UK.refl {p : Addr} {H : Hp} : UK p H H := fun _ _ e _ _ _ => e
theorem UK.trans {p : Addr} {H H1 H2 : Hp} (a : UK p H H1) (b : UK p H1 H2) : UK p H H2 := fun c o e n1 n2 n3 => b c o (a c o e n1 n2 n3) n1 n2 n3
theorem UK.same {p : Addr} {H H' : Hp} (s : Same H H') : UK p H H' := fun b o e _ _ _ => s b o e
theorem UK.keep {p : Addr} {H H' : Hp} (s : Keep H H') : UK p H H' := fun b o e _ n1 n2 => s b o e n1 fun φ z => (n2 φ z).elim
theorem UK.upto {p : Addr} {H H' : Hp} (s : Upto p H H') : UK p H H' := fun b o e n _ _ => s b o e n
section
variable {H H' : Hp} {b : Addr}
theorem rigUK {Cg Cr p q : Addr} {AR : List (Addr × Row)} {BR : List (Addr × RRow)} (hB : BagAt H b) (u : UK b H H') (r : RigOk Cg Cr H p q AR BR) : RigOk Cg Cr H' p q AR BR := by
  obtain ⟨xs, hb, _⟩ := hB
  exact rigKd (fun a o e kd n => u _ _ e (ne_of e hb (fun z => by rw [z] at kd; exact kd)) n (fun φ z => by rw [z] at kd; exact kd)) r
theorem waysUK {d : Addr} {ns : List Str} {g : Str → List Str} (hB : BagAt H b) (u : UK b H H') (r : WaysL H d ns g) : WaysL H' d ns g := by
  obtain ⟨ta, q1, q2⟩ := r.ex
  obtain ⟨xs, hb, hv⟩ := id hB
  exact ⟨ta, u _ _ q1 (ne_of q1 hb (fun z => by cases z)) (fun _ z => by cases z) (fun _ z => by cases z), fun y hy => u _ _ (q2 y hy) (strs_ne_bag hB (q2 y hy)) (fun _ z => by cases z) (fun _ z => by cases z)⟩
theorem RowsAt.uk {l : Addr} {AR : List (Addr × Row)} (hB : BagAt H b) (n : l ≠ b) (u : UK b H H') (h : RowsAt H l AR) : RowsAt H' l AR :=
  ⟨u _ _ h.lst n (fun _ z => by cases z) (fun _ z => by cases z), fun q hq => u _ _ (h.tup q hq) (bag_ne hB (h.tup q hq)) (fun _ z => by cases z) (fun _ z => by cases z)⟩
theorem BRows.uk {l : Addr} {BR : List (Addr × RRow)} (hB : BagAt H b) (n : l ≠ b) (u : UK b H H') (h : BRows H l BR) : BRows H' l BR :=
  ⟨u _ _ h.lst n (fun _ z => by cases z) (fun _ z => by cases z), fun q hq => u _ _ (h.tup q hq) (bag_ne hB (h.tup q hq)) (fun _ z => by cases z) (fun _ z => by cases z)⟩
end
section
variable {H H' : Hp} {b : Addr}
theorem bagS (s : Same H H') (hB : BagAt H b) : BagAt H' b := by
  obtain ⟨xs, hx, hv⟩ := hB
  exact ⟨xs, s _ _ hx, hv⟩
theorem bagK (s : Keep H H') (hB : BagAt H b) : BagAt H' b := by
  obtain ⟨xs, hx, hv⟩ := hB
  exact ⟨xs, s _ _ hx (fun _ z => by cases z) (fun _ z => by cases z), hv⟩
end
/-- a line without one of its names -/
def lessOne (L : List Str) (k : Nat) : List Str := L.take k ++ L.drop (k + 1)
theorem lessOne_facts {L : List Str} (hd : L.Nodup) {k : Nat} (hk : k < L.length) : (lessOne L k).Nodup ∧ (∀ x ∈ lessOne L k, x ∈ L) ∧ L[k] ∉ lessOne L k ∧ (lessOne L k).length ≤ L.length := by
  have e : L = L.take k ++ L[k] :: L.drop (k + 1) := by rw [List.getElem_cons_drop, List.take_append_drop]
  have hd2 := hd
  rw [e] at hd2
  have h3 := List.nodup_append.mp hd2
  have h4 := List.nodup_cons.mp h3.2.1
  refine ⟨List.nodup_append.mpr ⟨h3.1, h4.2, fun a ha b hb => h3.2.2 a ha b (List.mem_cons_of_mem _ hb)⟩, fun x hx => ?_, fun z => ?_, ?_⟩
  · rcases List.mem_append.mp hx with h | h
    · exact List.mem_of_mem_take h
    · exact List.mem_of_mem_drop h
  · rcases List.mem_append.mp z with h | h
    · exact h3.2.2 _ h _ List.mem_cons_self rfl
    · exact h4.1 h
  · unfold lessOne
    rw [List.length_append, List.length_take, List.length_drop]
    omega
theorem filt_first {p : Str → Bool} : ∀ {l : List Str} {m : Str}, m ∈ l → p m = true → ∃ dn x rs t, l = dn ++ x :: rs ∧ (∀ y ∈ dn, p y = false) ∧ p x = true ∧ l.filter p = x :: t
  | a :: l, m, hm, hp => by
    cases e : p a with
    | true => exact ⟨[], a, l, l.filter p, rfl, fun _ h => (by cases h), e, by rw [List.filter_cons, if_pos e]⟩
    | false =>
      rcases List.mem_cons.mp hm with h | h
      · rw [h, e] at hp; cases hp
      · obtain ⟨dn, x, rs, t, e1, e2, e3, e4⟩ := filt_first h hp
        refine ⟨a :: dn, x, rs, t, by rw [e1]; rfl, fun y hy => ?_, e3, ?_⟩
        · rcases List.mem_cons.mp hy with h | h
          · rw [h]; exact e
          · exact e2 y h
        · rw [List.filter_cons, if_neg (by rw [e]; decide), e4]
def turn2 (L : List Str) (r : Row) : Row := if (L.idxOf r.1 : Int) < (L.idxOf r.2 : Int) then (r.1, r.2) else (r.2, r.1)
theorem turn2_lin (L : List Str) (l : List RRow) : (l.map pr2).map (turn2 L) = l.map (linR L) := by
  rw [List.map_map]
  rfl
theorem RowsAt.keep {H H' : Hp} {l : Addr} {AR : List (Addr × Row)} (k : Keep H H') (h : RowsAt H l AR) : RowsAt H' l AR := ⟨k _ _ h.lst (fun _ z => by cases z) (fun _ z => by cases z), fun q hq => k _ _ (h.tup q hq) (fun _ z => by cases z) (fun _ z => by cases z)⟩
abbrev scLPR_N : List Str := ["_law_bag_here", "_law_told", "_law_ways", "_law_line_here", "_law_due", "_law_one", "_law_other", "_law_kept", "_law_found", "_law_odd", "_law_place", "_law_few", "_law_missing", "_law_name"]
abbrev scLPR_S : Stmt := sLPairsR
theorem scLPR : FnScope scLPR_N ["_law_bag_here", "_law_told", "_law_ways", "_law_line_here"] (defScope sLPairsR) := ⟨rfl, rfl, rfl, by decide +kernel, rfl, by decide +kernel, by decide +kernel⟩
def spLPR (Cg Cr : Addr) : Sp := fun vs H Q _ => ∃ (b p d y q : Addr) (L : List Str) (AR : List (Addr × Row)) (BR : List (Addr × RRow)), vs = [.ref b, .ref p, .ref d, .ref y] ∧ BagAt H b ∧ RigOk Cg Cr H p q AR BR ∧ WaysL H d (rnm (bOf BR)) (wayN (rowsOf AR) (bOf BR)) ∧ H y = some (.lst (L.map V.str)) ∧ L.Perm (rnm (bOf BR)) ∧ ∀ H', UK b H H' → BagAt H' b → Q (.bl true) H'
section
variable {P : Program} {w : World} {K : PySem.W.Frag} {mg : Str → Option Value} {base : Heap} {tS tM tL : Tok}
theorem ok_lpr {f fX fT fO fE fI Cg Cr : Addr} {fd fdX fdT fdO fdE fdI : FuncData} (F : FnP K "_law_pairs_right" sLPairsR f fd) (F_law_take : FnP K "_law_take" sTake fT fdT) (g_law_take : mg "_law_take" = some (.ref fT)) (F_law_of : FnP K "_law_of" sOf fO fdO) (g_law_of : mg "_law_of" = some (.ref fO)) (F_law_pairs : FnP K "_law_pairs" sLPairs fX fdX) (g_law_pairs : mg "_law_pairs" = some (.ref fX))
    (Fline_pairs : FnP K "line_pairs" sLinePairs fI fdI) (gline_pairs : mg "line_pairs" = some (.ref fI)) (Gline_pairs : FnOk P w K mg base CX0 9 fI fdI ["rights", "names"] (spLineP Cg Cr)) (F_law_refused : FnP K "_law_refused" sLRefused fE fdE) (g_law_refused : mg "_law_refused" = some (.ref fE)) (G_law_refused : FnOk P w K mg base CX0 10 fE fdE ["_law_told", "_law_names_here", "_law_odd"] (spLRefused K Cg Cr)) (B : Bl mg) : FnOk P w K mg base CX0 11 f fd ["_law_bag_here", "_law_told", "_law_ways", "_law_line_here"] (spLPR Cg Cr) := by
  have b_law_refused : Binds K fdE ["_law_told", "_law_names_here", "_law_odd"] [] := F_law_refused.bindsN fun _ _ _ _ _ _ us hl => match us, hl with | [_, _, _], _ => rfl
  have bline_pairs : Binds K fdI ["rights", "names"] [] := Fline_pairs.bindsN fun _ _ _ _ _ _ us hl => match us, hl with | [_, _], _ => rfl
  have G_law_take : FnOk P w K mg base CX0 1 fT fdT ["_law_bag_here", "_law_many"] spTake := ok_take F_law_take B
  have b_law_take : Binds K fdT ["_law_bag_here", "_law_many"] [] := F_law_take.bindsN fun _ _ _ _ _ _ us hl => match us, hl with | [_, _], _ => rfl
  have G_law_of : FnOk P w K mg base CX0 2 fO fdO ["_law_bag_here", "_law_some"] (spOf K) := ok_of F_law_of F_law_take B g_law_take
  have b_law_of : Binds K fdO ["_law_bag_here", "_law_some"] [] := F_law_of.bindsN fun _ _ _ _ _ _ us hl => match us, hl with | [_, _], _ => rfl
  have G_law_pairs : FnOk P w K mg base CX0 1 fX fdX ["_law_ways"] spLPairs := ok_lpairs F_law_pairs B
  have b_law_pairs : Binds K fdX ["_law_ways"] [] := F_law_pairs.bindsN fun _ _ _ _ _ _ us hl => match us, hl with | [_], _ => rfl
  refine F.ok scLPR (fun vs H Q E h => ?_) (fun cdv A outer s H vs Q E hr h => ?_)
  · obtain ⟨b, p, d, y, q, L, AR, BR, rfl, _⟩ := h
    rfl
  · obtain ⟨b, p, d, y, q, L, AR, BR, rfl, hB, R, W, hy, hL, k⟩ := h
    have hu := hu_of hr
    have hu64 := hr.units
    have hr_law_refused : Room 10 _ := hr
    have hrline_pairs : Room 9 _ := hr.mono (by decide)
    have hr_law_take : Room 1 _ := hr.mono (by decide)
    have hr_law_pairs : Room 1 _ := hr.mono (by decide)
    have hr_law_of : Room 2 _ := hr.mono (by decide)
    refine ⟨_, PSs.nox (pss_cons
      (ps_set (i := 4) scLPR.nd rfl (Or.inl rfl) (pe_lst pa_nil))
      (pss_cons
      (ps_for PassesOwn.never rfl (pi_list (pe_call G_law_pairs hr_law_pairs (by rfl) g_law_pairs F_law_pairs.kp b_law_pairs .nil pass0 (pa_cons (pv 2) pa_nil))) (tgK (K := K) (n := 2) (by rfl) (pgs_cons (pg_name (i := 5) scLPR.nd rfl (Or.inl rfl)) (pgs_cons (pg_name (i := 6) scLPR.nd rfl (Or.inl rfl)) pgs_nil))) (pss_one
      (ps_expr (pe_bm PySem.F.plainAttrs_list PySem.F.slot_list_append PySem.F.type_list_append mt_append (pv 4) (pa_cons (pe_ifExp (pt_cmpR op_lt (pe_bm PySem.F.plainAttrs_list PySem.F.slot_list_index PySem.F.type_list_index mt_index (pv 3) (pa_cons (pv 5) pa_nil)) (pe_bm PySem.F.plainAttrs_list PySem.F.slot_list_index PySem.F.type_list_index mt_index (pv 3) (pa_cons (pv 6) pa_nil)) (nomark _)) (pe_tup (pa_cons (pv 5) (pa_cons (pv 6) pa_nil))) (pe_tup (pa_cons (pv 6) (pa_cons (pv 5) pa_nil)))) pa_nil)))))
      (pss_cons
      (ps_par (i := 7) (j := 8) (by rfl) scLPR.nd rfl rfl (by decide) rfl rfl (pa_cons (pe_callTy (listK (K := K)) (by rfl) B.list (by decide +kernel) (pa_cons (pv 3) pa_nil)) (pa_cons (pe_call Gline_pairs hrline_pairs (by rfl) gline_pairs Fline_pairs.kp bline_pairs .nil pass0 (pa_cons (pv 1) (pa_cons (pv 3) pa_nil))) pa_nil)) (by rfl))
      (pss_cons
      (ps_if (PW.pt (pw_or (pt_not (pt_val (pe_callB call_isi (by rfl) B.isinstance (by decide +kernel) (pa_cons (pv 8) (pa_cons (pe_bltn (v := .ty "list") (by rfl) B.list (by decide +kernel) rfl) pa_nil))))) (pw_or (pt_cmpR (op_neD hu64) (pv 8) (pv 4) (nomark _)) (pw_or1 (pt_cmpR (op_neD hu64) (pv 3) (pv 7) (nomark _)))))) (pss_one
      (ps_ret pe_bl)) pss_nil)
      (pss_cons
      (ps_par (i := 9) (j := 10) (by rfl) scLPR.nd rfl rfl (by decide) rfl rfl (pa_cons (pe_call G_law_of hr_law_of (by rfl) g_law_of F_law_of.kp b_law_of .nil pass0 (pa_cons (pv 0) (pa_cons (pe_lst (pa_cons (pe_op op_add_str (pe_bm PySem.F.plainAttrs_str PySem.F.slot_str_join PySem.F.type_str_join mt_join pe_str (pa_cons (pv 3) pa_nil)) pe_str) (pa_cons pe_str (pa_cons pe_non (pa_cons pe_int (pa_cons (pe_lst pa_nil) (pa_cons (pe_tup (pa_cons pe_str pa_nil)) pa_nil))))))) pa_nil))) (pa_cons (pe_call G_law_take hr_law_take (by rfl) g_law_take F_law_take.kp b_law_take .nil pass0 (pa_cons (pv 0) (pa_cons (pe_op op_add (pe_callB (lenK (K := K)) (by rfl) B.len PySem.boot_len (pa_cons (pv 3) pa_nil)) pe_int) pa_nil))) pa_nil)) (by rfl))
      (pss_cons
      (ps_if (pt_not (pt_val (pe_call G_law_refused hr_law_refused (by rfl) g_law_refused F_law_refused.kp b_law_refused .nil pass0 (pa_cons (pv 1) (pa_cons (pe_op op_cat (pe_op op_cat (pe_slice sl_list (pv 3) po_none (po_some (pv 10))) (pe_lst (pa_cons (pv 9) pa_nil))) (pe_slice sl_list (pv 3) (po_some (pv 10)) po_none)) (pa_cons (pv 9) pa_nil)))))) (pss_one
      (ps_ret pe_bl)) pss_nil)
      (pss_cons
      (ps_if (pt_cmpR (op_eqD hu64) (pv 3) (pe_lst pa_nil) (nomark _)) (pss_one
      (ps_ret pe_bl)) pss_nil)
      (pss_cons
      (ps_set (i := 11) scLPR.nd rfl (Or.inr rfl) (pe_ifExp (pt_cmpR op_gt (pv 10) pe_int (nomark _)) (pe_op op_cat (pe_slice sl_list (pv 3) po_none (po_some (pe_callB (call_max2 rfl) (by rfl) B.max (by decide +kernel) (pa_cons pe_int (pa_cons (pe_op op_sub (pv 10) pe_int) pa_nil))))) (pe_slice sl_list (pv 3) (po_some (pv 10)) po_none)) (pe_slice sl_list (pv 3) (po_some pe_int) po_none)))
      (pss_cons
      (ps_set (i := 12) scLPR.nd rfl (Or.inl rfl) (pe_ix (ixLK (K := K)) (pe_lock (pe_lc (own := [("_law_name", 13)]) (g := gName 13)  (by rfl) scLPR.nd (pi_keys (pv 2)) (blkOk_by (own := [("_law_name", 13)]) (N := scLPR_N) (sc := defScope scLPR_S) (by decide +kernel)) (fun _ _ _ _ _ => (pg_name (i := 13) scLPR.nd rfl (Or.inl rfl))) (fun _ _ _ _ _ => (pts_one (pt_cmpR (notInK (K := K)) (pv 13) (pv 11) (by rfl)))) (fun _ _ _ _ _ => (pv 13)))) pe_int (fun _ _ => rfl)))
      (pss_cons
      (ps_if (PW.pt (pw_or (pt_not (pt_val (pe_call G_law_refused hr_law_refused (by rfl) g_law_refused F_law_refused.kp b_law_refused .nil pass0 (pa_cons (pv 1) (pa_cons (pv 11) (pa_cons (pv 12) pa_nil)))))) (pw_or1 (pt_not (pt_val (pe_call G_law_refused hr_law_refused (by rfl) g_law_refused F_law_refused.kp b_law_refused .nil pass0 (pa_cons (pv 1) (pa_cons (pe_lst pa_nil) (pa_cons (pe_ix (ixLK (K := K)) (pe_callTy (call_listD rfl) (by rfl) B.list (by decide +kernel) (pa_cons (pv 2) pa_nil)) pe_int (fun _ _ => rfl)) pa_nil))))))))) (pss_one
      (ps_ret pe_bl)) pss_nil)
      (pss_one
      (ps_ret (pe_ifExp (pt_cmpR (op_neD hu64) (pv 11) (pe_lst pa_nil) (nomark _)) (pe_call G_law_refused hr_law_refused (by rfl) g_law_refused F_law_refused.kp b_law_refused .nil pass0 (pa_cons (pv 1) (pa_cons (pe_op op_cat (pv 11) (pe_slice sl_list (pv 11) po_none (po_some pe_int))) (pa_cons (pe_ix (ixLK (K := K)) (pv 11) pe_int (fun _ _ => rfl)) pa_nil)))) pe_bl))))))))))))), ?_⟩
    have hg := R.g
    have hb := R.b
    have hm := hb.most
    have hln : (rnm (bOf BR)).length = (bOf BR).length := List.length_map _
    have hLl : L.length = (rnm (bOf BR)).length := hL.length_eq
    have hLn : L.Nodup := hL.nodup_iff.mpr hb.nd
    have hLm : ∀ x ∈ L, x ∈ rnm (bOf BR) := fun x hx => hL.mem_iff.mp hx
    have z40 : 40000 ≤ sizeLine := by rw [sizeLine_eq]; omega
    refine ⟨Nat.zero_le _, fun du ndu => ?_⟩
    have s1 : Same H (upd H du (.lst [])) := same_upd ndu
    have hdu1 : (upd H du (.lst [])) du = some (.lst []) := upd_same
    generalize upd H du (.lst []) = H1 at s1 hdu1
    refine ⟨_, rfl, d, rowsOf AR, bOf BR, rfl, W.same s1, hg, hb, fun H2 zp AP s2 nzp hA eA => ?_⟩
    have s02 := s1.trans s2
    have hdu2 := s2 _ _ hdu1
    have duz : du ≠ zp := ne_of_none hdu1 nzp
    have hAr : (rowsOf AP).length = AP.length := List.length_map _
    have hpl := prAllR_len (R := rowsOf AR) hm
    have hApl : AP.length ≤ 1640 := by
      rw [← hAr, eA, List.length_map]
      exact hpl
    have hpm : ∀ r ∈ rowsOf AP, r.1 ∈ L ∧ r.2 ∈ L := fun r hr => by
      rw [eA] at hr
      obtain ⟨r3, hr3, rfl⟩ := List.mem_map.mp hr
      obtain ⟨a1, a2, _⟩ := prToR_mem (Nat.le_refl _) hr3
      exact ⟨hL.mem_iff.mpr a1, hL.mem_iff.mpr a2⟩
    have hy2 := s02 _ _ hy
    refine ⟨zp, rfl, ⟨_, .inl (.inl hA.lst)⟩, ?_⟩
    refine for_list (K := K) (a := zp) (xs := AP.map fun q => V.ref q.1) (fun i σ H4 => ∃ v5 v6 DU, σ = [some (.ref b), some (.ref p), some (.ref d), some (.ref y), some (.ref du), v5, v6, none, none, none, none, none, none, none] ∧ Same H H4 ∧ RowsAt H4 zp AP ∧ RowsAt H4 du DU ∧ rowsOf DU = ((rowsOf AP).take i).map (turn2 L))
      ⟨_, _, [], rfl, s02, hA, ⟨hdu2, fun q hq => by cases hq⟩, rfl⟩ (fun i σ H4 hi hh => by
        obtain ⟨_, _, _, _, _, h, _⟩ := hh
        exact .inl (.inl h.lst)) ?_ ?_
    · rintro i x σ H4 hx ⟨v5, v6, DU, rfl, s4, hA4, hD4, eD⟩
      have hi : i < AP.length := by
        have := (List.getElem?_eq_some_iff.mp hx).1
        rw [List.length_map] at this
        exact this
      have ex := row_at hx hi
      subst ex
      have hri : (rowsOf AP)[i]? = some AP[i].2 := by rw [List.getElem?_map, List.getElem?_eq_getElem hi]; rfl
      obtain ⟨h1L, h2L⟩ := hpm _ (List.mem_of_getElem? hri)
      have hy4 := s4 _ _ hy
      have hDl : DU.length ≤ 1640 := by
        have e : DU.length = (rowsOf DU).length := (List.length_map _).symm
        rw [e, eD, List.length_map, List.length_take]
        omega
      have eT : (rowsOf AP).take (i + 1) = (rowsOf AP).take i ++ [AP[i].2] := by
        rw [List.take_add_one, hri]
        rfl
      have close : ∀ (t : Addr) (r : Row), H4 t = none → turn2 L AP[i].2 = r → Same H (upd (upd H4 t (.tup [.str r.1, .str r.2])) du (.lst ((DU.map fun q => V.ref q.1) ++ [.ref t]))) ∧ RowsAt (upd (upd H4 t (.tup [.str r.1, .str r.2])) du (.lst ((DU.map fun q => V.ref q.1) ++ [.ref t]))) zp AP ∧ RowsAt (upd (upd H4 t (.tup [.str r.1, .str r.2])) du (.lst ((DU.map fun q => V.ref q.1) ++ [.ref t]))) du (DU ++ [(t, r)]) ∧ rowsOf (DU ++ [(t, r)]) = ((rowsOf AP).take (i + 1)).map (turn2 L) := fun t r nt er => by
        have up : ∀ {a : Addr} {o : HO}, a ≠ du → H4 a = some o → (upd (upd H4 t (.tup [.str r.1, .str r.2])) du (.lst ((DU.map fun q => V.ref q.1) ++ [.ref t]))) a = some o := fun {a o} n e => by
          rw [upd_ne n, upd_ne (ne_of_none e nt)]
          exact e
        refine ⟨fun a o e => up (ne_of_none e ndu) (s4 _ _ e), ⟨up duz.symm hA4.lst, fun q hq => up (ne_of (hA4.tup q hq) hD4.lst (fun z => by cases z)) (hA4.tup q hq)⟩, (hD4.more (.refl _) nt).2, ?_⟩
        rw [eT, List.map_append, ← eD, ← er]
        show (DU ++ [(t, turn2 L AP[i].2)]).map (·.2) = _
        rw [List.map_append]
        rfl
      refine ⟨AP[i].1, _, rfl, .inl (.inl (hA4.tup _ (List.getElem_mem hi))), rfl, _, _, rfl, _, _, rfl, rfl, ?_⟩
      refine ⟨_, rfl, .inl ⟨rfl, _, .inl (.inl hD4.lst)⟩, ?_⟩
      refine ⟨_, rfl, .inl ⟨rfl, _, .inl (.inl hy4)⟩, _, rfl, y, _, .str AP[i].2.1, _, .str AP[i].2.1, rfl, rfl, .inl (.inl hy4), rfl, flat_strs _, idx_hat h1L, by rw [eqV_str]; exact decide_eq_true rfl, idx_fst, ?_⟩
      refine ⟨_, rfl, .inl ⟨rfl, _, .inl (.inl hy4)⟩, _, rfl, y, _, .str AP[i].2.2, _, .str AP[i].2.2, rfl, rfl, .inl (.inl hy4), rfl, flat_strs _, idx_hat h2L, by rw [eqV_str]; exact decide_eq_true rfl, idx_fst, ?_⟩
      refine ⟨_, _, rfl, rfl, _, rfl, ?_⟩
      refine ite2 (fun hc => ?_) (fun hc => ?_)
      · have er : turn2 L AP[i].2 = (AP[i].2.1, AP[i].2.2) := if_pos (of_decide_eq_true hc)
        refine ⟨_, rfl, _, rfl, by show 2 ≤ sizeLine; decide, fun t nt => ?_⟩
        obtain ⟨c1, c2, c3, c4⟩ := close t _ nt er
        refine ⟨du, _, _, rfl, rfl, (hD4.more (r := (AP[i].2.1, AP[i].2.2)) (.refl _) nt).1, by rw [List.length_map]; omega, ?_⟩
        exact ⟨_, _, _, rfl, c1, c2, c3, c4⟩
      · have er : turn2 L AP[i].2 = (AP[i].2.2, AP[i].2.1) := if_neg fun z => hc (decide_eq_true z)
        refine ⟨_, rfl, _, rfl, by show 2 ≤ sizeLine; decide, fun t nt => ?_⟩
        obtain ⟨c1, c2, c3, c4⟩ := close t _ nt er
        refine ⟨du, _, _, rfl, rfl, (hD4.more (r := (AP[i].2.2, AP[i].2.1)) (.refl _) nt).1, by rw [List.length_map]; omega, ?_⟩
        exact ⟨_, _, _, rfl, c1, c2, c3, c4⟩
    rintro σ H4 ⟨v5, v6, DU, rfl, s4, hA4, hD4, eD⟩
    rw [List.length_map, ← hAr, List.take_length, eA, turn2_lin] at eD
    clear hA4 hA hApl hpm hAr
    -- line_pairs
    have hy4 := s4 _ _ hy
    refine ⟨_, rfl, y, _, rfl, .inl (.inl (.inl hy4)), fun kp nkp => ?_⟩
    have s5 : Same H4 (upd H4 kp (.lst (L.map V.str))) := same_upd nkp
    have hkp5 : (upd H4 kp (.lst (L.map V.str))) kp = some (.lst (L.map V.str)) := upd_same
    generalize upd H4 kp (.lst (L.map V.str)) = H5 at s5 hkp5
    have s05 := s4.trans s5
    refine ⟨_, rfl, _, rfl, p, q, y, L, AR, BR, rfl, R.same s05, s5 _ _ hy4, hL, fun H6 z6 FP k6 nz6 hF6 eF => ?_⟩
    have hD6 := (hD4.same s5).keep k6
    have K6 : UK b H H6 := (UK.same s05).trans (.keep k6)
    have B6 := bagK (k6) (bagS s05 hB)
    have hyb := strs_ne_bag hB hy
    have hy6 := K6 _ _ hy hyb (fun _ z => by cases z) (fun _ z => by cases z)
    have hkp6 := k6 _ _ hkp5 (fun _ z => by cases z) (fun _ z => by cases z)
    have R6 := rigUK hB K6 R
    have W6 := waysUK hB K6 W
    have hyp : ∀ x ∈ L, Plain x := fun x hx => name_pl hb (hLm x hx)
    have hrp : ∀ r ∈ rowsOf FP, Plain r.1 ∧ Plain r.2 := fun r hr => by
      rw [eF] at hr
      obtain ⟨r3, hr3, rfl⟩ := List.mem_map.mp hr
      obtain ⟨a1, a2, _⟩ := prToR_mem (Nat.le_refl _) hr3
      unfold linR
      split
      · exact ⟨name_pl hb a1, name_pl hb a2⟩
      · exact ⟨name_pl hb a2, name_pl hb a1⟩
    have hrs := shaped_rows hrp
    refine ⟨_, _, rfl, ?_⟩
    refine ⟨_, rfl, .ref z6, .ty "list", _, _, true, rfl, .ty "list", .base (.lst hF6.lst), kit_ty (by decide +kernel), _, rfl, ?_⟩
    refine iteF ?_
    have hll : PyData.eqv (.list (L.map PyData.str)) (.list (L.map PyData.str)) = true := by
      simp only [PyData.eqv]
      exact eqv_strs L
    have hff : PyData.eqv (.list ((rowsOf FP).map rowD)) (.list ((rowsOf DU).map rowD)) = true := by
      rw [eF, eD]
      simp only [PyData.eqv]
      exact eqv_rows _
    refine ⟨_, rfl, _, rfl, _, _, .lst (.inl (.inl hF6.lst)) (dp_rows hF6.tup), .lst (.inl (.inl hD6.lst)) (dp_rows hD6.tup), hrs, by rw [eD, ← eF]; exact hrs, _, rfl, ?_⟩
    rw [hff]
    refine iteF ?_
    refine ⟨_, rfl, _, rfl, _, _, .lst (.inl (.inl hy6)) (dp_strs L), .lst (.inl (.inl hkp6)) (dp_strs L), shaped_lst hyp, shaped_lst hyp, _, rfl, ?_⟩
    rw [hll]
    refine iteF ?_
    clear hF6 hD6 hff hrs hrp eF eD hkp6 hkp5 hD4
    -- the odd one
    have hLz : L.length ≤ 40 := by omega
    have hJl : ∀ L : List Str, (∀ x ∈ L, x ∈ rnm (bOf BR)) → (L.map (·.length)).sum ≤ L.length * 8 := fun L => by
      induction L with
      | nil => exact fun _ => Nat.le_refl _
      | cons a r ih =>
        intro h
        have h1 := (nameOk_in hb (h a List.mem_cons_self)).most
        have h2 := ih fun x hx => h x (List.mem_cons_of_mem _ hx)
        have h3 : a.length = a.cps.toList.length := rfl
        rw [List.map_cons, List.sum_cons, List.length_cons]
        omega
    have hjs := hJl L hLm
    have hJlen : (Txt.join (Str.ofString "") L).cps.toList.length ≤ 320 := by
      rw [join_list, List.length_flatMap]
      have e : (L.map fun y => y.cps.toList.length).sum = (L.map (·.length)).sum := rfl
      rw [e]
      omega
    have hJp : Plain (Txt.join (Str.ofString "") L) := fun c hc => by
      rw [join_list] at hc
      obtain ⟨y, hy, hc⟩ := List.mem_flatMap.mp hc
      exact name_pl hb (hLm y hy) c hc
    refine ⟨_, rfl, rfl, _, rfl, Str.ofString "", y, L, rfl, rfl, .inl (.inl (.inl hy6)), by
      have e : (Str.ofString "").length = 0 := by decide +kernel
      rw [e]
      omega, ?_⟩
    generalize Txt.join (Str.ofString "") L = J at hJlen hJp ⊢
    have hJ2 : J.length = J.cps.toList.length := rfl
    have h9 : (Str.ofString "abcdefghi").length = 9 := by decide +kernel
    refine ⟨J, Str.ofString "abcdefghi", rfl, rfl, by omega, ?_⟩
    have hOl : (J ++ Str.ofString "abcdefghi").cps.toList.length = J.cps.toList.length + 9 := by
      rw [app_list, List.length_append]
      exact congrArg _ h9
    have hOp : Plain (J ++ Str.ofString "abcdefghi") := plain_app hJp plain_abc
    have hOn : (J ++ Str.ofString "abcdefghi") ∉ rnm (bOf BR) := fun z => by
      have := (nameOk_in hb z).most
      omega
    generalize J ++ Str.ofString "abcdefghi" = O at hOl hOp hOn ⊢
    have hOz : O.length ≤ 1000 := by
      show O.cps.toList.length ≤ 1000
      omega
    have hEn : (Str.ofString "") ∉ rnm (bOf BR) := fun z => by
      have := (nameOk_in hb z).one
      exact absurd this (by decide +kernel)
    refine ⟨by show 0 ≤ sizeLine; decide, fun e5 ne5 => ?_⟩
    have t5 : Same H6 (upd H6 e5 (.lst [])) := same_upd ne5
    have he5 : (upd H6 e5 (.lst [])) e5 = some (.lst (([] : List Str).map V.str)) := upd_same
    generalize upd H6 e5 (.lst []) = I5 at t5 he5
    refine ⟨by show 1 ≤ sizeLine; decide, fun e6 ne6 => ?_⟩
    have t6 : Same I5 (upd I5 e6 (.tup [.str (Str.ofString "a")])) := same_upd ne6
    have he6 : (upd I5 e6 (.tup [.str (Str.ofString "a")])) e6 = some (.tup ((["a"] : List Str).map V.str)) := upd_same
    generalize upd I5 e6 (.tup [.str (Str.ofString "a")]) = I6 at t6 he6
    refine ⟨by show 6 ≤ sizeLine; decide, fun lo nlo => ?_⟩
    have t7 : Same I6 (upd I6 lo (.lst [.str O, .str (Str.ofString ""), .non, .int 0, .ref e5, .ref e6])) := same_upd nlo
    have hlo7 : (upd I6 lo (.lst [.str O, .str (Str.ofString ""), .non, .int 0, .ref e5, .ref e6])) lo = some (.lst [.str O, .str (Str.ofString ""), .non, .int 0, .ref e5, .ref e6]) := upd_same
    generalize upd I6 lo (.lst [.str O, .str (Str.ofString ""), .non, .int 0, .ref e5, .ref e6]) = I7 at t7 hlo7
    have t67 := t5.trans (t6.trans t7)
    have B7 : BagAt I7 b := bagS t67 B6
    have nlob : lo ≠ b := fun e => by
      obtain ⟨xs, hx, hv⟩ := B6
      rw [e, (t5.trans t6) _ _ hx] at nlo
      cases nlo
    refine ⟨b, lo, [.str O, .str (Str.ofString ""), .non, .int 0, .ref e5, .ref e6], rfl, B7, nlob, .inl (.inl hlo7), by show 0 < 6; decide, by show 6 ≤ 1000; decide, fun i odd x8 hodd hx8 => ?_⟩
    have u78 : Upto b I7 (upd I7 b (.lst x8)) := Upto.at_
    have B8 : BagAt (upd I7 b (.lst x8)) b := ⟨x8, upd_same, hx8⟩
    generalize upd I7 b (.lst x8) = I8 at u78 B8
    have e5b : e5 ≠ b := fun e => by
      obtain ⟨xs, hx, hv⟩ := B6
      rw [e, hx] at ne5
      cases ne5
    have e6b : e6 ≠ b := fun e => by
      obtain ⟨xs, hx, hv⟩ := B6
      rw [e, t5 _ _ hx] at ne6
      cases ne6
    have he58 := u78 _ _ ((t6.trans t7) _ _ he5) e5b
    have he68 := u78 _ _ (t7 _ _ he6) e6b
    have hy8 := u78 _ _ (t67 _ _ hy6) hyb
    have hsho : Shown K I8 odd ∧ hasG BR odd = false := by
      match i, hodd with
      | 0, h =>
        obtain rfl : V.str O = odd := Option.some.inj h
        exact ⟨.str O hOp hOz, decide_eq_false hOn⟩
      | 1, h =>
        obtain rfl : V.str (Str.ofString "") = odd := Option.some.inj h
        exact ⟨.str _ plain_e (by decide +kernel), decide_eq_false hEn⟩
      | 2, h =>
        obtain rfl : V.non = odd := Option.some.inj h
        exact ⟨.non, rfl⟩
      | 3, h =>
        obtain rfl : V.int 0 = odd := Option.some.inj h
        exact ⟨.int 0 (by decide +kernel) (by decide +kernel), rfl⟩
      | 4, h =>
        obtain rfl : V.ref e5 = odd := Option.some.inj h
        exact ⟨.lst he58 (fun y hy => by cases hy) (by decide +kernel), rfl⟩
      | 5, h =>
        obtain rfl : V.ref e6 = odd := Option.some.inj h
        exact ⟨.tup he68 (fun y hy => by rw [List.mem_singleton.mp hy]; exact plain_a) (by decide +kernel), rfl⟩
      | i + 6, h => cases h
    obtain ⟨hsh, hno⟩ := hsho
    clear he58 he68 hodd he5 he6 hlo7
    refine ⟨_, rfl, _, rfl, y, _, rfl, .inl (.inl (.inl hy8)), _, _, rfl, rfl, ?_⟩
    rw [List.length_map]
    refine ⟨b, (L.length : Int) + 1, rfl, B8, by omega, by omega, fun r x9 hr0 hr1 hx9 => ?_⟩
    obtain ⟨rn, rfl⟩ : ∃ rn : Nat, r = (rn : Int) := ⟨r.toNat, by omega⟩
    have hrn : rn ≤ L.length := by omega
    have u89 : Upto b I8 (upd I8 b (.lst x9)) := Upto.at_
    have B9 : BagAt (upd I8 b (.lst x9)) b := ⟨x9, upd_same, hx9⟩
    have hsh9 := shownUp B8 u89 hsh
    have K9 : UK b H (upd I8 b (.lst x9)) := K6.trans ((UK.same t67).trans (.upto (u78.trans u89)))
    generalize upd I8 b (.lst x9) = H9 at u89 B9 hsh9 K9
    have hy9 := K9 _ _ hy hyb (fun _ z => by cases z) (fun _ z => by cases z)
    have R9 := rigUK hB K9 R
    have W9 := waysUK hB K9 W
    refine ⟨_, _, rfl, ?_⟩
    -- the line with the odd one
    refine ⟨_, rfl, _, rfl, _, rfl, _, rfl, y, _, rfl, .inl (.inl hy9), fun k1 n1 => ?_⟩
    rw [cut_take, ← List.map_take]
    have r1 : Same H9 (upd H9 k1 (.lst ((L.take rn).map V.str))) := same_upd n1
    have g1 : (upd H9 k1 (.lst ((L.take rn).map V.str))) k1 = some (.lst ((L.take rn).map V.str)) := upd_same
    generalize upd H9 k1 (.lst ((L.take rn).map V.str)) = G1 at r1 g1
    refine ⟨_, rfl, by show 1 ≤ sizeLine; decide, fun k2 n2 => ?_⟩
    have r2 : Same G1 (upd G1 k2 (.lst [odd])) := same_upd n2
    have g2 : (upd G1 k2 (.lst [odd])) k2 = some (.lst [odd]) := upd_same
    generalize upd G1 k2 (.lst [odd]) = G2 at r2 g2
    have htk : (L.take rn).length ≤ 40 := by
      rw [List.length_take]
      omega
    have hdr : (L.drop rn).length ≤ 40 := by
      rw [List.length_drop]
      omega
    refine ⟨k1, k2, _, _, rfl, rfl, r2 _ _ g1, g2, by rw [List.length_map]; show (L.take rn).length + 1 ≤ _; omega, fun k3 n3 => ?_⟩
    have r3 : Same G2 (upd G2 k3 (.lst ((L.take rn).map V.str ++ [odd]))) := same_upd n3
    have g3 : (upd G2 k3 (.lst ((L.take rn).map V.str ++ [odd]))) k3 = some (.lst ((L.take rn).map V.str ++ [odd])) := upd_same
    generalize upd G2 k3 (.lst ((L.take rn).map V.str ++ [odd])) = G3 at r3 g3
    have r03 := r1.trans (r2.trans r3)
    refine ⟨_, rfl, _, rfl, _, rfl, y, _, rfl, .inl (.inl (r03 _ _ hy9)), fun k4 n4 => ?_⟩
    rw [cut_drop, ← List.map_drop]
    have r4 : Same G3 (upd G3 k4 (.lst ((L.drop rn).map V.str))) := same_upd n4
    have g4 : (upd G3 k4 (.lst ((L.drop rn).map V.str))) k4 = some (.lst ((L.drop rn).map V.str)) := upd_same
    generalize upd G3 k4 (.lst ((L.drop rn).map V.str)) = G4 at r4 g4
    refine ⟨k3, k4, _, _, rfl, rfl, r4 _ _ g3, g4, by rw [List.length_append, List.length_map, List.length_map]; show (L.take rn).length + 1 + _ ≤ _; omega, fun k5 n5 => ?_⟩
    have r5 : Same G4 (upd G4 k5 (.lst ((L.take rn).map V.str ++ [odd] ++ (L.drop rn).map V.str))) := same_upd n5
    have g5 : (upd G4 k5 (.lst ((L.take rn).map V.str ++ [odd] ++ (L.drop rn).map V.str))) k5 = some (.lst ((L.take rn).map V.str ++ odd :: (L.drop rn).map V.str)) := by
      rw [upd_same, List.append_assoc]
      rfl
    generalize upd G4 k5 (.lst ((L.take rn).map V.str ++ [odd] ++ (L.drop rn).map V.str)) = G5 at r5 g5
    have r05 := r03.trans (r4.trans r5)
    have ro : Shown K G5 odd := hsh9.same fun b o e _ => r05 _ _ e
    refine ⟨_, rfl, p, k5, odd, rfl, ro, fun Cn E2 Q2 hE => .inl ⟨p, q, k5, L.take rn, odd, (L.drop rn).map V.str, AR, BR, rfl, R9.same r05, g5, fun x hx => hLm x (List.mem_of_mem_take hx), hLn.sublist (List.take_sublist _ _), htk, ro, .inl hno, hE⟩, fun K1 t1 => ⟨_, rfl, iteF ?_⟩⟩
    have s1K := r05.trans t1
    have hy10 := s1K _ _ hy9
    clear g1 g2 g3 g4 g5 ro r1 r2 r3 r4 r5 r03
    -- no names
    refine ⟨_, rfl, by show 0 ≤ sizeLine; decide, fun e0 ne0 => ?_⟩
    have t2 : Same K1 (upd K1 e0 (.lst [])) := same_upd ne0
    have he2 : (upd K1 e0 (.lst [])) e0 = some (.lst []) := upd_same
    generalize upd K1 e0 (.lst []) = K2 at t2 he2
    have s92 := s1K.trans t2
    have fin : ∀ K', Same H9 K' → Q (.bl true) K' := fun K' sk => k K' (K9.trans (.same sk)) (bagS sk B9)
    refine ⟨_, _, .lst (.inl (.inl (t2 _ _ hy10))) (dp_strs L), .lst (.inl (.inl he2)) .nil, shaped_lst hyp, by decide +kernel, _, rfl, ?_⟩
    rw [eqv_nilL]
    refine ite2 (fun h => ?_) (fun h => ?_)
    · exact fin K2 s92
    have h : L ≠ [] := fun z => h (decide_eq_true z)
    have hL1 : 0 < L.length := List.length_pos_iff.mpr h
    have hk : rn - 1 < L.length := by omega
    obtain ⟨fd1, fm1, fn1, fl1⟩ := lessOne_facts hLn hk
    have hy2' := s92 _ _ hy9
    refine split_two (α := Addr) (β := Hp) (R := fun a H' => Same K2 H' ∧ H' a = some (.lst ((lessOne L (rn - 1)).map V.str))) (C := ?C2) ?use2 ?key2
    case use2 =>
      intro key
      refine ⟨_, rfl, _, _, rfl, rfl, _, rfl, ?_⟩
      refine ite2 (fun hc => ?_) (fun hc => ?_)
      · have hc : (0 : Int) < rn := of_decide_eq_true hc
        have e1 : (if (rn : Int) - 1 > 0 then (rn : Int) - 1 else 0) = ((rn - 1 : Nat) : Int) := by split <;> omega
        refine ⟨_, rfl, _, rfl, _, _, rfl, rfl, _, _, rfl, _, rfl, y, _, rfl, .inl (.inl hy2'), fun k6 n6 => ?_⟩
        rw [e1, cut_take, ← List.map_take]
        have q1 : Same K2 (upd K2 k6 (.lst ((L.take (rn - 1)).map V.str))) := same_upd n6
        have g6 : (upd K2 k6 (.lst ((L.take (rn - 1)).map V.str))) k6 = some (.lst ((L.take (rn - 1)).map V.str)) := upd_same
        generalize upd K2 k6 (.lst ((L.take (rn - 1)).map V.str)) = M1 at q1 g6
        refine ⟨_, rfl, _, rfl, _, rfl, y, _, rfl, .inl (.inl (q1 _ _ hy2')), fun k7 n7 => ?_⟩
        rw [cut_drop, ← List.map_drop]
        have q2 : Same M1 (upd M1 k7 (.lst ((L.drop rn).map V.str))) := same_upd n7
        have g7 : (upd M1 k7 (.lst ((L.drop rn).map V.str))) k7 = some (.lst ((L.drop rn).map V.str)) := upd_same
        generalize upd M1 k7 (.lst ((L.drop rn).map V.str)) = M2 at q2 g7
        have ht : (L.take (rn - 1)).length ≤ 40 := by
          rw [List.length_take]
          omega
        refine ⟨k6, k7, _, _, rfl, rfl, q2 _ _ g6, g7, by rw [List.length_map, List.length_map]; omega, fun k8 n8 => ?_⟩
        refine key k8 _ ⟨(q1.trans q2).trans (same_upd n8), ?_⟩
        rw [upd_same]
        unfold lessOne
        rw [List.map_append, show rn - 1 + 1 = rn by omega]
      · have hc : ¬ (0 : Int) < rn := fun z => hc (decide_eq_true z)
        obtain rfl : rn = 0 := by omega
        refine ⟨_, rfl, _, rfl, y, _, rfl, .inl (.inl hy2'), fun k6 n6 => ?_⟩
        have e1 : cutV (L.map V.str) (some 1) none = (L.drop 1).map V.str := by
          have := cut_drop (L.map V.str) 1
          rw [← List.map_drop] at this
          exact this
        rw [e1]
        exact key k6 _ ⟨same_upd n6, upd_same⟩
    case key2 =>
      rintro fa H3 ⟨s3, hfa⟩
      have s93 := s92.trans s3
      have hFz : (lessOne L (rn - 1)).length ≤ 40 := by omega
      have hnF : ∃ m, m ∈ rnm (bOf BR) ∧ m ∉ lessOne L (rn - 1) := ⟨L[rn - 1], hLm _ (List.getElem_mem hk), fn1⟩
      have fmr : ∀ x ∈ lessOne L (rn - 1), x ∈ rnm (bOf BR) := fun x hx => hLm x (fm1 x hx)
      generalize lessOne L (rn - 1) = F1 at fd1 hFz hnF fmr hfa
      obtain ⟨m, hm1, hm2⟩ := hnF
      obtain ⟨dn, x, rs, tl, e1, e2, e3, e4⟩ := filt_first (p := fun n => decide (n ∉ F1)) hm1 (decide_eq_true hm2)
      have e2 : ∀ z ∈ dn, z ∈ F1 := fun z hz => Decidable.not_not.mp (of_decide_eq_false (e2 z hz))
      have e3 : x ∉ F1 := of_decide_eq_true e3
      -- the missing one
      obtain ⟨ta, w1, w2⟩ := id (W9.same s93).ex
      refine ⟨d, _, w1, trivial, fun od => ?_⟩
      refine ⟨_, rfl, d, od, rfl, .inl ⟨_, upd_same, fun nl hnl => ?_⟩⟩
      have hfz : ∀ H5, Same (upd H3 d (.frz od (.dK (kmap (fun y => .ref (ta y)) (rnm (bOf BR)))))) H5 → H5 d = some (.frz od (.dK (kmap (fun y => .ref (ta y)) (rnm (bOf BR))))) := fun H5 s => s _ _ upd_same
      have hff : (upd H3 d (.frz od (.dK (kmap (fun y => .ref (ta y)) (rnm (bOf BR)))))) fa = some (.lst (F1.map V.str)) := by
        rw [upd_ne (ne_of hfa w1 (fun z => by cases z))]
        exact hfa
      refine lc_itO (walk_keys (kvs := kmap (fun y => .ref (ta y)) (rnm (bOf BR)))) hnl (fun j => (((rnm (bOf BR)).take j).filter fun n => decide (n ∉ F1)).map V.str) (by rw [List.take_zero]; rfl) (fun j _ => filt_size (by omega) j) (fun H5 s => hfz _ s) ?_ ?_
      · rintro j z H5 H5' Nx hj s hcur put skip ⟨rfl, k0, v0, hkv, rfl⟩
        obtain ⟨n, hn, rfl, rfl⟩ := kmap_get hkv
        have e := filt_take (p := fun n => decide (n ∉ F1)) hn
        refine ⟨rfl, ?_⟩
        refine ⟨_, rfl, _, rfl, fa, _, rfl, .inl (.inl (.inl (s _ _ hff))), rfl, flat_strs _, _, rfl, ?_⟩
        have ei : inV (kV (Sum.inr n)) (F1.map V.str) = decide (n ∈ F1) := inV_str _ _
        refine ite2 (fun hh => ?_) (fun hh => ?_)
        · have hh : decide (n ∉ F1) = true := by
            have h2 : (!inV (kV (Sum.inr n)) (F1.map V.str)) = true := hh
            rw [ei] at h2
            rw [decide_not]
            exact h2
          rw [if_pos hh] at e
          refine ⟨_, rfl, put _ _ (.refl _) ?_⟩
          rw [e, List.map_append]
          rfl
        · have hh : ¬ decide (n ∉ F1) = true := fun z => hh (by
            show (!inV (kV (Sum.inr n)) (F1.map V.str)) = true
            rw [ei]
            rw [decide_not] at z
            exact z)
          rw [if_neg hh, List.append_nil] at e
          exact skip _ (.refl _) (congrArg _ e)
      intro H5 s5 hnl5
      rw [kmap_len, List.take_length, e4] at hnl5
      have dnl : nl ≠ d := fun z => by rw [z, upd_same] at hnl; cases hnl
      refine ⟨hfz _ s5, ?_⟩
      have s6 : Same H3 (upd H5 d (.dK (kmap (fun y => V.ref (ta y)) (rnm (bOf BR))))) := same_unlock w1 s5
      have hN6 : (upd H5 d (.dK (kmap (fun y => V.ref (ta y)) (rnm (bOf BR))))) nl = some (.lst ((x :: tl).map V.str)) := by rw [upd_ne dnl]; exact hnl5
      generalize upd H5 d (.dK (kmap (fun y => V.ref (ta y)) (rnm (bOf BR)))) = H6' at s6 hN6
      clear hfz hff s5 hnl5
      have s96 := s93.trans s6
      refine ⟨nl, _, _, .str x, rfl, rfl, .inl (.inl hN6), atI_nat (j := 0) rfl, ?_⟩
      have shn : ∀ {G : Hp} {n : Str}, n ∈ rnm (bOf BR) → Shown K G (.str n) := fun {G n} hn => .str n (name_pl hb hn) (by
        have := (nameOk_in hb hn).most
        show n.cps.toList.length ≤ 1000
        omega)
      have hxr : x ∈ rnm (bOf BR) := by
        rw [e1]
        exact List.mem_append_right _ List.mem_cons_self
      have hfa6 := s6 _ _ hfa
      refine ⟨_, rfl, _, rfl, _, rfl, p, fa, .str x, rfl, shn hxr, fun Cn E2 Q2 hE => .inr ⟨p, q, fa, F1, dn, rs, x, AR, BR, rfl, R9.same s96, hfa6, fmr, fd1, hFz, e1, e2, e3, hE⟩, fun M1 v1 => ⟨_, rfl, iteF ?_⟩⟩
      have s97 := s96.trans v1
      refine ⟨_, rfl, by show 0 ≤ sizeLine; decide, fun k8 n8 => ?_⟩
      have v2 : Same M1 (upd M1 k8 (.lst [])) := same_upd n8
      have f2 : (upd M1 k8 (.lst [])) k8 = some (.lst (([] : List Str).map V.str)) := upd_same
      generalize upd M1 k8 (.lst []) = M2 at v2 f2
      have s98 := s97.trans v2
      obtain ⟨tb, y1, y2⟩ := id (W9.same s98).ex
      have hkk : ((kmap (fun y => V.ref (tb y)) (rnm (bOf BR))).map fun kv => kV kv.1) = (rnm (bOf BR)).map V.str := by
        unfold kmap
        rw [List.map_map]
        rfl
      refine ⟨_, rfl, d, _, rfl, .inl y1, fun k9 n9 => ?_⟩
      rw [hkk]
      have v3 : Same M2 (upd M2 k9 (.lst ((rnm (bOf BR)).map V.str))) := same_upd n9
      have f3 : (upd M2 k9 (.lst ((rnm (bOf BR)).map V.str))) k9 = some (.lst ((rnm (bOf BR)).map V.str)) := upd_same
      generalize upd M2 k9 (.lst ((rnm (bOf BR)).map V.str)) = M3 at v3 f3
      have s99 := s98.trans v3
      obtain ⟨x0, rest, er⟩ : ∃ x0 rest, rnm (bOf BR) = x0 :: rest := List.exists_cons_of_ne_nil (fun z => by rw [z] at hxr; cases hxr)
      have hx0 : x0 ∈ rnm (bOf BR) := by rw [er]; exact List.mem_cons_self
      refine ⟨k9, _, _, .str x0, rfl, rfl, .inl (.inl f3), by rw [er]; exact atI_nat (j := 0) rfl, p, k8, .str x0, rfl, shn hx0, fun Cn E2 Q2 hE => .inr ⟨p, q, k8, [], [], rest, x0, AR, BR, rfl, R9.same s99, v3 _ _ f2, fun _ z => (by cases z), List.nodup_nil, by decide, er, fun _ z => (by cases z), fun z => (by cases z), hE⟩, fun M4 v4 => ⟨_, rfl, iteF ?_⟩⟩
      have s910 := s99.trans v4
      have v64 := ((v1.trans v2).trans v3).trans v4
      have hfa9 := v64 _ _ hfa6
      -- the last
      refine ⟨_, rfl, by show 0 ≤ sizeLine; decide, fun k10 n10 => ?_⟩
      have v5' : Same M4 (upd M4 k10 (.lst [])) := same_upd n10
      have f5 : (upd M4 k10 (.lst [])) k10 = some (.lst []) := upd_same
      generalize upd M4 k10 (.lst []) = M5 at v5' f5
      have hFp : ∀ z ∈ F1, Plain z := fun z hz => name_pl hb (fmr z hz)
      refine ⟨_, _, .lst (.inl (.inl (v5' _ _ hfa9))) (dp_strs F1), .lst (.inl (.inl f5)) .nil, shaped_lst hFp, by decide +kernel, _, rfl, ?_⟩
      rw [eqv_nilL]
      have s911 := s910.trans v5'
      have hfa10 := v5' _ _ hfa9
      refine ite2 (fun hh => ?_) (fun hh => ?_)
      · have hh : F1 ≠ [] := fun z => by rw [decide_eq_true z] at hh; cases hh
        obtain ⟨h0, F2, ef⟩ := List.exists_cons_of_ne_nil hh
        have hh0 : h0 ∈ F1 := by rw [ef]; exact List.mem_cons_self
        refine ⟨_, rfl, _, rfl, _, rfl, _, rfl, fa, _, rfl, .inl (.inl hfa10), fun k11 n11 => ?_⟩
        have e11 : cutV (F1.map V.str) none (some 1) = [V.str h0] := by
          have := cut_take (F1.map V.str) 1
          rw [← List.map_take] at this
          rw [ef] at this ⊢
          exact this
        rw [e11]
        have v6' : Same M5 (upd M5 k11 (.lst [.str h0])) := same_upd n11
        have f6 : (upd M5 k11 (.lst [.str h0])) k11 = some (.lst [.str h0]) := upd_same
        generalize upd M5 k11 (.lst [.str h0]) = M6 at v6' f6
        refine ⟨fa, k11, _, _, rfl, rfl, v6' _ _ hfa10, f6, by rw [List.length_map]; show F1.length + 1 ≤ _; omega, fun k12 n12 => ?_⟩
        have v7 : Same M6 (upd M6 k12 (.lst (F1.map V.str ++ [.str h0]))) := same_upd n12
        have f7 : (upd M6 k12 (.lst (F1.map V.str ++ [.str h0]))) k12 = some (.lst (F1.map V.str ++ [.str h0])) := upd_same
        generalize upd M6 k12 (.lst (F1.map V.str ++ [.str h0])) = M7 at v7 f7
        have s913 := s911.trans (v6'.trans v7)
        refine ⟨_, rfl, fa, _, _, .str h0, rfl, rfl, .inl (.inl ((v6'.trans v7) _ _ hfa10)), by rw [ef]; exact atI_nat (j := 0) rfl, p, k12, .str h0, rfl, shn (fmr _ hh0), fun Cn E2 Q2 hE => .inl ⟨p, q, k12, F1, .str h0, [], AR, BR, rfl, R9.same s913, f7, fmr, fd1, hFz, shn (fmr _ hh0), .inr ⟨h0, hh0, rfl⟩, hE⟩, fun M8 v8 => ?_⟩
        exact fin M8 (s913.trans v8)
      · exact fin M5 s911
end
end K0
end
section
set_option Elab.async false
set_option linter.all false
set_option maxRecDepth 100000
set_option maxHeartbeats 8000000
namespace K0
open PySem PySem.Spec PyProof.Rows L2
/-! ### the law -/
theorem lin_turn {L : List Str} {l : List RRow} : TurnOf (l.map pr2) (l.map (linR L)) := by
  refine ⟨by rw [List.length_map, List.length_map], fun i p x hp hx => ?_⟩
  rw [List.getElem?_map] at hp hx
  obtain ⟨r, hr, rfl⟩ := Option.map_eq_some_iff.mp hp
  rw [hr] at hx
  obtain rfl : linR L r = x := Option.some.inj hx
  unfold linR
  split
  · exact .inl rfl
  · exact .inr rfl
theorem lin_ahead {R : List Row} {B : List RRow} {L : List Str} (b : RtOk R B) : Ahead R B ((prAllR R B).map (linR L)) := by
  have t := lin_turn (L := L) (l := prAllR R B)
  rw [prAll_rec] at t
  exact ahead_of b.nd t (List.Perm.refl _)
theorem idx_inj {L : List Str} {x y : Str} (hx : x ∈ L) (h : L.idxOf x = L.idxOf y) : x = y := by
  have h1 := List.idxOf_lt_length_iff.mpr hx
  have h2 : L.idxOf y < L.length := h ▸ h1
  have e1 := List.getElem_idxOf h1
  have e2 := List.getElem_idxOf h2
  rw [← e1, ← e2]
  congr 1
theorem lin_lt {R : List Row} {B : List RRow} {L : List Str} (b : RtOk R B) (hL : L.Perm (rnm B)) {x y : Str} (h : (x, y) ∈ (prAllR R B).map (linR L)) : L.idxOf x < L.idxOf y := by
  obtain ⟨x1, _, hne, _⟩ := (lin_ahead (L := L) b).sub x y h
  obtain ⟨r, hr, e⟩ := List.mem_map.mp h
  have hx : x ∈ L := hL.mem_iff.mpr x1
  unfold linR at e
  split at e
  · cases e
    omega
  · cases e
    rcases Nat.lt_or_ge (L.idxOf r.2.1) (L.idxOf r.1) with q | q
    · exact q
    · exact absurd (idx_inj hx (by omega)) hne
theorem lin_noring {R : List Row} {B : List RRow} {L : List Str} (g : GoodRows R) (b : RtOk R B) (hL : L.Perm (rnm B)) : ¬ (lineOf ((prAllR R B).map (linR L)) (rnm B)).length < (rnm B).length := fun z => by
  have h := (line_short g b (lin_ahead (L := L) b)).mp z
  cases e : firstRing ((prAllR R B).map (linR L)) R B (nmsOf R) with
  | none => exact h e
  | some wt =>
    obtain ⟨w, hw, e2⟩ := List.exists_of_findSome?_eq_some e
    cases e3 : ring1 ((prAllR R B).map (linR L)) (passR R B w) with
    | none => rw [e3] at e2; cases e2
    | some t =>
      obtain ⟨_, _, _, _, _, _, e4⟩ := ring1_some e3
      obtain ⟨a1, a2, a3, _⟩ := turnT_some e4
      have q1 := lin_lt b hL a1
      have q2 := lin_lt b hL a2
      have q3 := lin_lt b hL a3
      omega
abbrev scLaw_N : List Str := ["_law_script", "_law_at", "_law_bag_here", "_law_rows", "_law_rights_here", "_law_ways", "_law_told", "_law_turn", "_law_line_here", "_law_right"]
abbrev scLaw_S : Stmt := sLaw
theorem scLaw : FnScope scLaw_N ["_law_script"] (defScope sLaw) := ⟨rfl, rfl, rfl, by decide +kernel, rfl, by decide +kernel, by decide +kernel⟩
def spLaw (K : PySem.W.Frag) : Sp := fun vs H Q _ => ∃ (a : Addr) (ns : List Int), vs = [.ref a] ∧ SqL K H a (ns.map V.int) ∧ ns.length ≤ 63 ∧ ∀ H', Q (.bl true) H'
/-- all functions of the text -/
structure All (P : Program) (w : World) (K : PySem.W.Frag) (mg : Str → Option Value) (base : Heap) (tS tM tL : Tok) (Cg Cr Cn Cw : Addr) : Prop where
  B : Bl mg
  C : Gc mg tS tM tL
  T : Rv K mg Cr
  TG : Rg K mg Cg
  made : ∃ f fd, FnM K "__init__" "River.__init__" sInit f fd ∧ Mk K Cr f
  madeG : ∃ f fd, FnM K "__init__" "Rights.__init__" sGInit f fd ∧ Mk K Cg f
  rows : ∃ f fd, FnM K "rows" "River.rows" sRows f fd ∧ Meth K Cr "rows" f
  rowsG : ∃ f fd, FnM K "rows" "Rights.rows" sGRows f fd ∧ Meth K Cg "rows" f
  wayG : ∃ f fd, FnM K "way" "Rights.way" sGWay f fd ∧ Meth K Cg "way" f
  passG : ∃ f fd, FnM K "passing" "Rights.passing" sGPassing f fd ∧ Meth K Cg "passing" f
  Mf : Mf K mg
  G : Mg P w K mg base Cg Cr
  N : Ln K Cg
  GM : Gm K Cg
  D : NdG P w K mg base Cg Cr
  nr : ∃ f fd, Nr P K mg Cn f fd
  er : Er K mg Cn Cw
  diff : ∃ f fd, FnP K "need_different" sNeedDiff f fd ∧ mg "need_different" = some (.ref f)
  meet : ∃ f fd, FnP K "meet" sMeet f fd ∧ mg "meet" = some (.ref f)
  pairs : ∃ f fd, FnP K "pairs" sPairsG f fd ∧ mg "pairs" = some (.ref f)
  linep : ∃ f fd, FnP K "line_pairs" sLinePairs f fd ∧ mg "line_pairs" = some (.ref f)
  free : ∃ f fd, FnP K "_first_free" sFirstFree f fd ∧ mg "_first_free" = some (.ref f)
  line : ∃ f fd, FnP K "_line" sLine f fd ∧ mg "_line" = some (.ref f)
  turned : ∃ f fd, FnP K "turned" sTurned f fd ∧ mg "turned" = some (.ref f)
  ringAt : ∃ f fd, FnP K "_ring_at" sRingAt f fd ∧ mg "_ring_at" = some (.ref f)
  ring : ∃ f fd, FnP K "_first_ring" sFirstRing f fd ∧ mg "_first_ring" = some (.ref f)
  lineup : ∃ f fd, FnP K "line_up" sLineUp f fd ∧ mg "line_up" = some (.ref f)
  bag : ∃ f fd, FnP K "_law_bag" sBag f fd ∧ mg "_law_bag" = some (.ref f)
  H : Hf K mg
  river : ∃ f fd, FnP K "_law_river" sLRiver f fd ∧ mg "_law_river" = some (.ref f)
  course : ∃ f fd, FnP K "_law_course" sLCourse f fd ∧ mg "_law_course" = some (.ref f)
  rnames : ∃ f fd, FnP K "_law_right_names" sRNames f fd ∧ mg "_law_right_names" = some (.ref f)
  rights : ∃ f fd, FnP K "_law_rights" sLRights f fd ∧ mg "_law_rights" = some (.ref f)
  way : ∃ f fd, FnP K "_law_way" sLWay f fd ∧ mg "_law_way" = some (.ref f)
  lpairs : ∃ f fd, FnP K "_law_pairs" sLPairs f fd ∧ mg "_law_pairs" = some (.ref f)
  lahead : ∃ f fd, FnP K "_law_ahead" sLAhead f fd ∧ mg "_law_ahead" = some (.ref f)
  lring : ∃ f fd, FnP K "_law_ring" sLRing f fd ∧ mg "_law_ring" = some (.ref f)
  lline : ∃ f fd, FnP K "_law_line" sLLine f fd ∧ mg "_law_line" = some (.ref f)
  lup : ∃ f fd, FnP K "_law_up_right" sLUp f fd ∧ mg "_law_up_right" = some (.ref f)
  lrefused : ∃ f fd, FnP K "_law_refused" sLRefused f fd ∧ mg "_law_refused" = some (.ref f)
  lpr : ∃ f fd, FnP K "_law_pairs_right" sLPairsR f fd ∧ mg "_law_pairs_right" = some (.ref f)
section
variable {P : Program} {w : World} {K : PySem.W.Frag} {mg : Str → Option Value} {base : Heap} {tS tM tL : Tok}
theorem ok_law {f Cg Cr Cn Cw : Addr} {fd : FuncData} (F : FnP K "law" sLaw f fd) (L : All P w K mg base tS tM tL Cg Cr Cn Cw) : FnOk P w K mg base CX0 12 f fd ["_law_script"] (spLaw K) := by
  obtain ⟨B, C, T, TG, ⟨fI, fdI, FI, MK⟩, ⟨fJ, fdJ, FJ, MKG⟩, ⟨fR, fdR, FR, Mrows⟩, ⟨fS, fdS, FS, MrowsG⟩, WG, ⟨fp, fdp, Fpassing, Mpassing⟩, Mfr, G, LN, GM, D, ⟨fn, fdn, NR⟩, ER, ⟨t1, e1, Fdiff, gdiff⟩, ⟨t2, e2, Fmeet, gmeet⟩, ⟨t3, e3, Fpairs, gpairs⟩, ⟨t4, e4, Fline_pairs, gline_pairs⟩, ⟨t5, e5, Ffree, gfree⟩, ⟨t6, e6, Fline, gline⟩, ⟨t7, e7, Fturned, gturned⟩, ⟨t8, e8, FringAt, gringAt⟩, ⟨t9, e9, Fring, gring⟩, ⟨tA, eA, Fline_up, gline_up⟩, ⟨f1, d1, F_law_bag, g_law_bag⟩, HF, ⟨f2, d2, F_law_river, g_law_river⟩, ⟨f9, d9, F_law_course, g_law_course⟩, ⟨f3, d3, F_law_right_names, g_law_right_names⟩, ⟨f4, d4, F_law_rights, g_law_rights⟩, ⟨f5, d5, F_law_way, g_law_way⟩, ⟨f6, d6, F_law_pairs, g_law_pairs⟩, ⟨f7, d7, F_law_ahead, g_law_ahead⟩, ⟨fA, dA, F_law_ring, g_law_ring⟩, ⟨fB, dB, F_law_line, g_law_line⟩, ⟨fC, dC, F_law_up_right, g_law_up_right⟩, ⟨fD, dD, F_law_refused, g_law_refused⟩, ⟨fE, dE, F_law_pairs_right, g_law_pairs_right⟩⟩ := L
  obtain ⟨f8, d8, F_law_take, g_law_take⟩ := HF.take
  obtain ⟨fO, dO, F_law_of, g_law_of⟩ := HF.of
  obtain ⟨fX, dX, F_law_mixed, g_law_mixed⟩ := HF.mixed
  have DW := G.D
  have GI : FnOk P w K mg base CX0 4 fI fdI ["self", "rows"] (spInit Cr) := ok_init FI Mfr T B C
  have bI : Binds K fdI ["self", "rows"] [] := FI.bindsN fun _ _ _ _ _ _ us hl => match us, hl with | [_, _], _ => rfl
  have GJ : FnOk P w K mg base CX0 5 fJ fdJ ["self", "river", "rows"] (spGInit Cg Cr) := ok_ginit FJ G TG T B C
  have bJ : Binds K fdJ ["self", "river", "rows"] [] := FJ.bindsN fun _ _ _ _ _ _ us hl => match us, hl with | [_, _, _], _ => rfl
  have Grows : FnOk P w K mg base CX0 1 fR fdR ["self"] (spRows Cr) := ok_rows FR T B
  have brows : Binds K fdR ["self"] [] := FR.bindsN fun _ _ _ _ _ _ us hl => match us, hl with | [_], _ => rfl
  have GrowsG : FnOk P w K mg base CX0 1 fS fdS ["self"] (spRowsG Cg Cr) := ok_rowsG FS TG B
  have browsG : Binds K fdS ["self"] [] := FS.bindsN fun _ _ _ _ _ _ us hl => match us, hl with | [_], _ => rfl
  have Gline_pairs : FnOk P w K mg base CX0 9 t4 e4 ["rights", "names"] (spLineP Cg Cr) := ok_linep Fline_pairs Fdiff gdiff Fmeet gmeet Fpairs gpairs WG GM D TG B
  have bline_pairs : Binds K e4 ["rights", "names"] [] := Fline_pairs.bindsN fun _ _ _ _ _ _ us hl => match us, hl with | [_, _], _ => rfl
  have GX : FnOk P w K mg base (L2.CX P w) 9 t4 e4 ["rights", "names"] (spLinePX K Cg Cr Cn) := ok_linepX Fline_pairs Fdiff gdiff Fmeet gmeet Fpairs gpairs WG NR GM D TG B
  have Gline_up : FnOk P w K mg base CX0 5 tA eA ["rights", "ahead"] (spLineUp Cg Cr) := ok_lineup Fline_up Fline gline Ffree gfree Fring gring FringAt gringAt Fturned gturned Fpassing Mpassing LN DW TG T B
  have bline_up : Binds K eA ["rights", "ahead"] [] := Fline_up.bindsN fun _ _ _ _ _ _ us hl => match us, hl with | [_, _], _ => rfl
  have G_law_refused : FnOk P w K mg base CX0 10 fD dD ["_law_told", "_law_names_here", "_law_odd"] (spLRefused K Cg Cr) := ok_lrefused F_law_refused Fline_pairs gline_pairs GX ER B
  have G_law_bag : FnOk P w K mg base CX0 1 f1 d1 ["_law_script", "_law_at", "_law_salt"] (spBag K) := ok_bag F_law_bag B
  have b_law_bag : Binds K d1 ["_law_script", "_law_at", "_law_salt"] [] := F_law_bag.bindsN fun _ _ _ _ _ _ us hl => match us, hl with | [_, _, _], _ => rfl
  have G_law_take : FnOk P w K mg base CX0 1 f8 d8 ["_law_bag_here", "_law_many"] spTake := ok_take F_law_take B
  have b_law_take : Binds K d8 ["_law_bag_here", "_law_many"] [] := F_law_take.bindsN fun _ _ _ _ _ _ us hl => match us, hl with | [_, _], _ => rfl
  have G_law_mixed : FnOk P w K mg base CX0 2 fX dX ["_law_bag_here", "_law_some"] (spMixed K) := ok_mixed F_law_mixed F_law_take B g_law_take
  have b_law_mixed : Binds K dX ["_law_bag_here", "_law_some"] [] := F_law_mixed.bindsN fun _ _ _ _ _ _ us hl => match us, hl with | [_, _], _ => rfl
  have G_law_river : FnOk P w K mg base CX0 4 f2 d2 ["_law_bag_here", "_law_many"] spLRiver := ok_lriver F_law_river HF
  have b_law_river : Binds K d2 ["_law_bag_here", "_law_many"] [] := F_law_river.bindsN fun _ _ _ _ _ _ us hl => match us, hl with | [_, _], _ => rfl
  have G_law_rights : FnOk P w K mg base CX0 5 f4 d4 ["_law_bag_here", "_law_rows", "_law_many"] spLRights := ok_lrights F_law_rights F_law_right_names g_law_right_names F_law_course g_law_course HF
  have b_law_rights : Binds K d4 ["_law_bag_here", "_law_rows", "_law_many"] [] := F_law_rights.bindsN fun _ _ _ _ _ _ us hl => match us, hl with | [_, _, _], _ => rfl
  have G_law_way : FnOk P w K mg base CX0 2 f5 d5 ["_law_rows", "_law_right"] spLWay := ok_lway F_law_way F_law_course g_law_course B
  have b_law_way : Binds K d5 ["_law_rows", "_law_right"] [] := F_law_way.bindsN fun _ _ _ _ _ _ us hl => match us, hl with | [_, _], _ => rfl
  have G_law_ahead : FnOk P w K mg base CX0 3 f7 d7 ["_law_bag_here", "_law_ways", "_law_line_here"] spLAhead := ok_lahead F_law_ahead F_law_mixed g_law_mixed F_law_take g_law_take F_law_pairs g_law_pairs B
  have b_law_ahead : Binds K d7 ["_law_bag_here", "_law_ways", "_law_line_here"] [] := F_law_ahead.bindsN fun _ _ _ _ _ _ us hl => match us, hl with | [_, _, _], _ => rfl
  have G_law_up_right : FnOk P w K mg base CX0 6 fC dC ["_law_rows", "_law_told", "_law_ways", "_law_ahead_here"] (spLUp Cg Cr) := ok_lup F_law_up_right F_law_ring g_law_ring F_law_line g_law_line Gline_up Fline_up gline_up B
  have b_law_up_right : Binds K dC ["_law_rows", "_law_told", "_law_ways", "_law_ahead_here"] [] := F_law_up_right.bindsN fun _ _ _ _ _ _ us hl => match us, hl with | [_, _, _, _], _ => rfl
  have G_law_pairs_right : FnOk P w K mg base CX0 11 fE dE ["_law_bag_here", "_law_told", "_law_ways", "_law_line_here"] (spLPR Cg Cr) := ok_lpr F_law_pairs_right F_law_take g_law_take F_law_of g_law_of F_law_pairs g_law_pairs Fline_pairs gline_pairs Gline_pairs F_law_refused g_law_refused G_law_refused B
  have b_law_pairs_right : Binds K dE ["_law_bag_here", "_law_told", "_law_ways", "_law_line_here"] [] := F_law_pairs_right.bindsN fun _ _ _ _ _ _ us hl => match us, hl with | [_, _, _, _], _ => rfl
  clear FI FJ FR FS G Mfr HF GX ER NR
  refine F.ok scLaw (fun vs H Q E h => ?_) (fun cdv A outer s H vs Q X0 hr h => ?_)
  · obtain ⟨a, ns, rfl, _⟩ := h
    rfl
  · obtain ⟨a, ns, rfl, hS, hns, k⟩ := h
    have hu64 := hr.units
    have hr_law_pairs_right : Room 11 _ := hr
    have hr_law_up_right : Room 6 _ := hr.mono (by decide)
    have hrline_pairs : Room 9 _ := hr.mono (by decide)
    have hrline_up : Room 5 _ := hr.mono (by decide)
    have hr_law_ahead : Room 3 _ := hr.mono (by decide)
    have hr_law_mixed : Room 2 _ := hr.mono (by decide)
    have hrI : Room 5 _ := hr.mono (by decide)
    have hrJ : Room 6 _ := hr.mono (by decide)
    have hrrows : Room 1 _ := hr.mono (by decide)
    have hr_law_bag : Room 1 _ := hr.mono (by decide)
    have hr_law_take : Room 1 _ := hr.mono (by decide)
    have hr_law_river : Room 4 _ := hr.mono (by decide)
    have hr_law_rights : Room 5 _ := hr.mono (by decide)
    have hr_law_way : Room 2 _ := hr.mono (by decide)
    refine ⟨_, PSs.nox (pss_cons
      (ps_for PassesOwn.never rfl (pi_range1 (by rfl) B.range (pa_cons (pe_callB (call_max2 rfl) (by rfl) B.max (by decide +kernel) (pa_cons pe_int (pa_cons (pe_callB (call_min2 rfl) (by rfl) B.min (by decide +kernel) (pa_cons pe_int (pa_cons (pe_callB (lenK (K := K)) (by rfl) B.len PySem.boot_len (pa_cons (pv 0) pa_nil)) pa_nil))) pa_nil))) pa_nil)) (pg_name (i := 1) scLaw.nd rfl (Or.inl rfl)) (pss_cons
      (ps_set (i := 2) scLaw.nd rfl (Or.inl rfl) (pe_call G_law_bag hr_law_bag (by rfl) g_law_bag F_law_bag.kp b_law_bag .nil pass0 (pa_cons (pv 0) (pa_cons (pv 1) (pa_cons pe_int pa_nil)))))
      (pss_cons
      (ps_set (i := 3) scLaw.nd rfl (Or.inr rfl) (pe_call G_law_river hr_law_river (by rfl) g_law_river F_law_river.kp b_law_river .nil pass0 (pa_cons (pv 2) (pa_cons (pe_op op_add pe_int (pe_call G_law_take hr_law_take (by rfl) g_law_take F_law_take.kp b_law_take .nil pass0 (pa_cons (pv 2) (pa_cons (pe_ifExp (pt_cmpR op_eq (pe_call G_law_take hr_law_take (by rfl) g_law_take F_law_take.kp b_law_take .nil pass0 (pa_cons (pv 2) (pa_cons pe_int pa_nil))) pe_int (nomark _)) pe_int pe_int) pa_nil)))) pa_nil))))
      (pss_cons
      (ps_set (i := 4) scLaw.nd rfl (Or.inl rfl) (pe_call G_law_rights hr_law_rights (by rfl) g_law_rights F_law_rights.kp b_law_rights .nil pass0 (pa_cons (pv 2) (pa_cons (pv 3) (pa_cons (pe_call G_law_take hr_law_take (by rfl) g_law_take F_law_take.kp b_law_take .nil pass0 (pa_cons (pv 2) (pa_cons (pe_ifExp (pt_cmpR op_eq (pe_call G_law_take hr_law_take (by rfl) g_law_take F_law_take.kp b_law_take .nil pass0 (pa_cons (pv 2) (pa_cons pe_int pa_nil))) pe_int (nomark _)) pe_int pe_int) pa_nil))) pa_nil)))))
      (pss_cons
      (ps_set (i := 5) scLaw.nd rfl (Or.inl rfl) (pe_callTy (call_dictP rfl) (by rfl) B.dict (by decide +kernel) (pa_cons (pe_lc (own := [("_law_right", 9)]) (g := gName 9) (tt := tYes) (by rfl) scLaw.nd (pi_list (pv 4)) (blkOk_by (own := [("_law_right", 9)]) (N := scLaw_N) (sc := defScope scLaw_S) (by decide +kernel)) (fun _ _ _ _ _ => (pg_name (i := 9) scLaw.nd rfl (Or.inl rfl))) (fun _ _ _ _ _ => pts_nil) (fun _ _ _ _ _ => (pe_tup (pa_cons (pe_ix (ixTK (K := K)) (pv 9) pe_int (fun _ _ => rfl)) (pa_cons (pe_call G_law_way hr_law_way (by rfl) g_law_way F_law_way.kp b_law_way .nil pass0 (pa_cons (pv 3) (pa_cons (pv 9) pa_nil))) pa_nil))))) pa_nil)))
      (pss_cons
      (ps_set (i := 6) scLaw.nd rfl (Or.inl rfl) (pe_make MKG GJ hrJ (by rfl) TG.mgC bJ .nil pass0 (pa_cons (pe_make MK GI hrI (by rfl) T.mgC bI .nil pass0 (pa_cons (pv 3) pa_nil)) (pa_cons (pv 4) pa_nil))))
      (pss_cons
      (ps_for PassesOwn.never rfl (pi_range1 (by rfl) B.range (pa_cons pe_int pa_nil)) (pg_name (i := 7) scLaw.nd rfl (Or.inl rfl)) (pss_cons
      (ps_set (i := 8) scLaw.nd rfl (Or.inl rfl) (pe_call G_law_mixed hr_law_mixed (by rfl) g_law_mixed F_law_mixed.kp b_law_mixed .nil pass0 (pa_cons (pv 2) (pa_cons (pe_callTy (call_listD rfl) (by rfl) B.list (by decide +kernel) (pa_cons (pv 5) pa_nil)) pa_nil))))
      (pss_cons
      (ps_if (pt_not (pt_val (pe_call G_law_pairs_right hr_law_pairs_right (by rfl) g_law_pairs_right F_law_pairs_right.kp b_law_pairs_right .nil pass0 (pa_cons (pv 2) (pa_cons (pv 6) (pa_cons (pv 5) (pa_cons (pv 8) pa_nil))))))) (pss_one
      (ps_ret pe_bl)) pss_nil)
      (pss_cons
      (ps_if (pt_cmpR op_ne (pe_ix (ixTK (K := K)) (pe_call Gline_up hrline_up (by rfl) gline_up Fline_up.kp bline_up .nil pass0 (pa_cons (pv 6) (pa_cons (pe_call Gline_pairs hrline_pairs (by rfl) gline_pairs Fline_pairs.kp bline_pairs .nil pass0 (pa_cons (pv 6) (pa_cons (pv 8) pa_nil))) pa_nil))) pe_int (fun _ _ => rfl)) pe_str (nomark _)) (pss_one
      (ps_ret pe_bl)) pss_nil)
      (pss_one
      (ps_if (pt_not (pt_val (pe_call G_law_up_right hr_law_up_right (by rfl) g_law_up_right F_law_up_right.kp b_law_up_right .nil pass0 (pa_cons (pv 3) (pa_cons (pv 6) (pa_cons (pv 5) (pa_cons (pe_call G_law_ahead hr_law_ahead (by rfl) g_law_ahead F_law_ahead.kp b_law_ahead .nil pass0 (pa_cons (pv 2) (pa_cons (pv 5) (pa_cons (pv 8) pa_nil)))) pa_nil))))))) (pss_one
      (ps_ret pe_bl)) pss_nil))))))
      (pss_one
      (ps_if (PW.pt (pw_or (pt_cmpR (op_neD hu64) (pe_meth0 (pv 6) TG.cl MrowsG GrowsG hrrows browsG .nil pass0) (pv 4) (nomark _)) (pw_or1 (pt_cmpR (op_neD hu64) (pe_meth0 (fldK (K := K) (pv 6) rfl) T.cl Mrows Grows hrrows brows .nil pass0) (pv 3) (nomark _))))) (pss_one
      (ps_ret pe_bl)) pss_nil)))))))))
      (pss_one
      (ps_ret pe_bl))), ?_⟩
    refine ⟨_, rfl, a, _, rfl, .inl hS, _, _, rfl, _, _, rfl, _, rfl, ?_⟩
    have hN : ∃ N : Int, (if (if (((ns.map V.int).length : Nat) : Int) < 3 then (((ns.map V.int).length : Nat) : Int) else 3) > 1 then (if (((ns.map V.int).length : Nat) : Int) < 3 then (((ns.map V.int).length : Nat) : Int) else 3) else 1) = N ∧ 1 ≤ N ∧ N ≤ 3 := ⟨_, rfl, by split <;> split <;> omega, by split <;> split <;> omega⟩
    obtain ⟨N, eN, hN1, hN2⟩ := hN
    rw [eN]
    clear eN
    refine ⟨by omega, by omega, ?_⟩
    refine for_range (n := N.toNat) (lo := 0) (fun i σ H2 => ∃ v1 v2 v3 v4 v5 v6 v7 v8 v9, σ = [some (.ref a), v1, v2, v3, v4, v5, v6, v7, v8, v9] ∧ SqL K H2 a (ns.map V.int))
      ⟨_, _, _, _, _, _, _, _, _, rfl, hS⟩ ?_ ?_
    · rintro i σ H2 hi ⟨v1, v2, v3, v4, v5, v6, v7, v8, v9, rfl, hS2⟩
      have hi3 : i < 3 := by omega
      refine ⟨_, rfl, _, rfl, a, ns, _, _, rfl, hS2, hns, by omega, by omega, by decide, by decide, fun H3 p s3 np B3 => ?_⟩
      have sq : ∀ H', UK p H3 H' → SqL K H' a (ns.map V.int) := fun H' u => by
        rcases hS2 with (r | ⟨o, r⟩) | r
        · exact .inl (.inl (u _ _ (s3 _ _ r) (ne_of_none r np) (fun _ z => by cases z) (fun _ z => by cases z)))
        · exact .inl (.inr ⟨o, u _ _ (s3 _ _ r) (ne_of_none r np) (fun _ z => by cases z) (fun _ z => by cases z)⟩)
        · exact .inr r
      refine ⟨_, rfl, _, rfl, _, rfl, p, 8, rfl, B3, by decide, by decide, fun r8 x8 _ _ hx8 => ⟨rfl, _, rfl, ?_⟩⟩
      have u4 : Upto p H3 (upd H3 p (.lst x8)) := Upto.at_
      have B4 : BagAt (upd H3 p (.lst x8)) p := ⟨x8, upd_same, hx8⟩
      generalize upd H3 p (.lst x8) = H4 at u4 B4
      refine split_if' (α := Int) (R := fun c => 0 < c ∧ c ≤ 40) (C := ?C) ?use ?key
      case use =>
        intro key
        refine ite2 (fun _ => ?_) (fun _ => ?_)
        · generalize h40 : (20 : Int) = c40
          exact key c40 ⟨by omega, by omega⟩
        · exact key 5 ⟨by decide, by decide⟩
      case key =>
        rintro many ⟨hm1, hm2⟩
        refine ⟨p, many, rfl, B4, hm1, by omega, fun r x4 hr0 hr1 hx4 => ⟨1, r, rfl, rfl, ?_⟩⟩
        obtain ⟨rn, rfl⟩ : ∃ rn : Nat, r = (rn : Int) := ⟨r.toNat, by omega⟩
        have u45 : Upto p H3 (upd H4 p (.lst x4)) := u4.trans Upto.at_
        have B45 : BagAt (upd H4 p (.lst x4)) p := ⟨x4, upd_same, hx4⟩
        generalize upd H4 p (.lst x4) = H45 at u45 B45
        refine ⟨p, 1 + rn, by show [V.ref p, V.int ((1 : Int) + (rn : Int))] = [V.ref p, V.int ((1 + rn : Nat) : Int)]; rw [show ((1 : Int) + (rn : Int)) = ((1 + rn : Nat) : Int) by omega], B45, by omega, by omega, fun H5 l AR u5 B5 nl lp hR hG hlen => ?_⟩
        have u35 := u45.trans u5
        refine ⟨_, rfl, _, rfl, _, rfl, _, rfl, p, 8, rfl, B5, by decide, by decide, fun r9 x9 _ _ hx9 => ⟨rfl, _, rfl, ?_⟩⟩
        have u6 : Upto p H5 (upd H5 p (.lst x9)) := Upto.at_
        have B6 : BagAt (upd H5 p (.lst x9)) p := ⟨x9, upd_same, hx9⟩
        generalize upd H5 p (.lst x9) = H6 at u6 B6
        refine split_if' (α := Int) (R := fun c => 0 < c ∧ c ≤ 21) (C := ?C2) ?use2 ?key2
        case use2 =>
          intro key
          refine ite2 (fun _ => ?_) (fun _ => ?_)
          · generalize h40 : (15 : Int) = c40
            exact key c40 ⟨by omega, by omega⟩
          · exact key 8 ⟨by decide, by decide⟩
        case key2 =>
          rintro many2 ⟨hn1, hn2⟩
          refine ⟨p, many2, rfl, B6, hn1, by omega, fun r x10 hr20 hr21 hx10 => ?_⟩
          obtain ⟨rm, rfl⟩ : ∃ rm : Nat, r = (rm : Int) := ⟨r.toNat, by omega⟩
          have u57 : Upto p H5 (upd H6 p (.lst x10)) := u6.trans Upto.at_
          have B7 : BagAt (upd H6 p (.lst x10)) p := ⟨x10, upd_same, hx10⟩
          generalize upd H6 p (.lst x10) = H7 at u57 B7
          refine ⟨p, l, rm, AR, rfl, B7, lp, hR.upto B5 lp u57, hG, by omega, fun H8 z BR u78 B8 nz zp hB hb hBl => ?_⟩
          have u58 := u57.trans u78
          have hR8 := hR.upto B5 lp u58
          have hAl : (rowsOf AR).length = AR.length := List.length_map _
          have hln : (rnm (bOf BR)).length = (bOf BR).length := List.length_map _
          have hbl : (bOf BR).length = BR.length := List.length_map _
          have hnd := hb.nd
          -- the dict of ways
          refine ⟨_, rfl, z, rfl, ⟨_, .inl (.inl hB.lst)⟩, fun D hD => ?_⟩
          refine lc_list (K := K) (a := z) (xs := BR.map fun q => V.ref q.1) (fun i H9 => Same H8 H9 ∧ PairW H9 D ((rnm (bOf BR)).take i) (wyN AR BR)) ⟨same_upd hD, [], upd_same, by rw [List.take_zero]; rfl, fun k q n e => by cases e⟩ (fun i H9 hi h => .inl (.inl (h.1 _ _ hB.lst))) ?_ ?_
          · rintro j x H9 hx ⟨s9, hP⟩
            have hj : j < BR.length := by
              have := (List.getElem?_eq_some_iff.mp hx).1
              rw [List.length_map] at this
              exact this
            have ex := brow_at hx hj
            subst ex
            have hmem : BR[j] ∈ BR := List.getElem_mem hj
            have hmb : BR[j].2 ∈ bOf BR := List.mem_map.mpr ⟨_, hmem, rfl⟩
            have hnj : (rnm (bOf BR))[j]? = some BR[j].2.1 := by
              show ((BR.map (·.2)).map (·.1))[j]? = _
              rw [List.getElem?_map, List.getElem?_map, List.getElem?_eq_getElem hj]
              rfl
            have htup := s9 _ _ (hB.tup _ hmem)
            refine ⟨rfl, ?_⟩
            unfold tYes
            refine iteT ?_
            refine ⟨_, rfl, BR[j].1, _, _, .str BR[j].2.1, rfl, rfl, .inl (.inl htup), atI_nat (j := 0) rfl, _, rfl, _, rfl, l, BR[j].1, AR, BR[j].2, rfl, hR8.same s9, hG, htup, hb.inn _ hmb, hb.last _ hmb, fun H10 c s10 hc0 hc => ?_⟩
            refine ⟨by show 2 ≤ sizeLine; decide, fun t nt => ?_⟩
            rw [← way_of hnd hmb] at hc
            obtain ⟨acc, y1, y2, y3⟩ := hP.more (n := BR[j].2.1) s10 hc0 hc nt
            refine ⟨_, y1, by rw [y2, List.length_take]; exact small1000 (by omega), fun b o hb => ?_, ?_⟩
            · rw [upd_ne (ne_of_none hb hD), upd_ne (ne_of_none (s10 _ _ (s9 _ _ hb)) nt)]
              exact s10 _ _ (s9 _ _ hb)
            · rw [List.take_add_one, hnj]
              exact y3
          rintro H9 ⟨s9, hP⟩
          have hPl : (BR.map fun q => V.ref q.1).length = (rnm (bOf BR)).length := by rw [List.length_map, hln, hbl]
          rw [hPl, List.take_length] at hP
          obtain ⟨ps, ta, y1, y2, y3⟩ := hP.dict hnd
          refine ⟨D, ps, _, rfl, .inl (.inl y1), y2, fun d nd => ?_⟩
          have em : mergeK [] (kmap (fun y => V.ref (ta y)) (rnm (bOf BR))) = kmap (fun y => V.ref (ta y)) (rnm (bOf BR)) := merge_kmap (ns := []) (by simpa using hnd)
          rw [em]
          have s10 : Same H9 (upd H9 d (.dK (kmap (fun y => V.ref (ta y)) (rnm (bOf BR))))) := same_upd nd
          have W10 : WaysL (upd H9 d (.dK (kmap (fun y => V.ref (ta y)) (rnm (bOf BR))))) d (rnm (bOf BR)) (wyN AR BR) := ⟨ta, upd_same, fun y hy => s10 _ _ (y3 y hy)⟩
          generalize upd H9 d (.dK (kmap (fun y => V.ref (ta y)) (rnm (bOf BR)))) = H10 at s10 W10
          have s810 := s9.trans s10
          have hR10 := hR8.same s810
          have hB10 := hB.same s810
          -- the river, the rights
          refine ⟨_, rfl, fun q dx nx ndx hne => ?_⟩
          have sN : Same H10 (upd (upd H10 dx (.own q)) q (.ins Cr dx [])) := (same_upd ndx).trans (same_upd (by rw [upd_ne hne.symm]; exact nx))
          refine ⟨q, l, dx, AR, rfl, upd_same, hR10.same sN, hG, fun H11 u11 R11 => ⟨rfl, ?_⟩⟩
          have s11 : Same H10 H11 := fun b o hb => u11 b o (sN b o hb) (ne_of_none hb nx)
          have hB11 := hB10.same s11
          refine ⟨_, rfl, fun g dg ng ndg hgne => ?_⟩
          have sG : Same H11 (upd (upd H11 dg (.own g)) g (.ins Cg dg [])) := (same_upd ndg).trans (same_upd (by rw [upd_ne hgne.symm]; exact ng))
          refine ⟨g, q, z, dg, AR, BR, rfl, upd_same, Same.riv sG R11, hG, hB11.same sG, hb, fun H12 u12 R12 => ⟨rfl, ?_⟩⟩
          have s12 : Same H11 H12 := fun b o hb => u12 b o (sG b o hb) (ne_of_none hb ng)
          have s812 := s810.trans (s11.trans s12)
          have hK12 : RigOk Cg Cr H12 g q AR BR := ⟨R12, hG, hb⟩
          have hR12 := hR8.same s812
          have hB12 := hB.same s812
          have W12 := W10.same (s11.trans s12)
          have B12 : BagAt H12 p := bagS s812 B8
          -- twice
          refine ⟨_, rfl, by decide, by decide, ?_⟩
          refine for_range (n := 2) (lo := 0) (fun k σ H13 => ∃ v7 v8 v9, σ = [some (.ref a), some (.int (0 + (i : Int))), some (.ref p), some (.ref l), some (.ref z), some (.ref d), some (.ref g), v7, v8, v9] ∧ UK p H12 H13 ∧ BagAt H13 p) ⟨_, _, _, rfl, .refl, B12⟩ ?_ ?_
          · rintro k' σ H13 hk' ⟨v7', v8', v9', rfl, U13, B13⟩
            have K13 := rigUK B12 U13 hK12
            have W13 := waysUK B12 U13 W12
            obtain ⟨ta2, y1', y2'⟩ := id W13.ex
            have hkk : ((kmap (fun y => V.ref (ta2 y)) (rnm (bOf BR))).map fun kv => kV kv.1) = (rnm (bOf BR)).map V.str := by
              unfold kmap
              rw [List.map_map]
              rfl
            refine ⟨_, rfl, _, rfl, d, _, rfl, .inl y1', fun nh nnh => ?_⟩
            rw [hkk]
            have s14 : Same H13 (upd H13 nh (.lst ((rnm (bOf BR)).map V.str))) := same_upd nnh
            have hnh : (upd H13 nh (.lst ((rnm (bOf BR)).map V.str))) nh = some (.lst ((rnm (bOf BR)).map V.str)) := upd_same
            generalize upd H13 nh (.lst ((rnm (bOf BR)).map V.str)) = H14 at s14 hnh
            have B14 := bagS s14 B13
            refine ⟨p, nh, (rnm (bOf BR)).map V.str, rfl, B14, strs_ne_bag B14 hnh, .inl (.inl hnh), by rw [List.length_map]; have := hb.most; omega, fun H15 ml zs u15 B15 nml mlb hml hpm => ?_⟩
            obtain ⟨ms, rfl, hms⟩ := perm_lift hpm (rnm (bOf BR)) rfl
            have U15 : UK p H12 H15 := U13.trans ((UK.same s14).trans (.upto u15))
            -- the pairs of the line
            refine ⟨_, rfl, _, rfl, _, rfl, _, rfl, p, g, d, ml, q, ms, AR, BR, rfl, B15, rigUK B12 U15 hK12, waysUK B12 U15 W12, hml, hms, fun H16 u16 B16 => ⟨_, rfl, iteF ?_⟩⟩
            have U16 := U15.trans u16
            have hml16 := u16 _ _ hml mlb (fun _ z => by cases z) (fun _ z => by cases z)
            have K16 := rigUK B12 U16 hK12
            refine ⟨_, rfl, _, rfl, _, rfl, g, q, ml, ms, AR, BR, rfl, K16, hml16, hms, fun H17 z17 AP k17 nz17 hA17 eA17 => ?_⟩
            have U17 := U16.trans (.keep k17)
            have B17 := bagK k17 B16
            have hml17 := k17 _ _ hml16 (fun _ z => by cases z) (fun _ z => by cases z)
            have hAl : AP.length ≤ 1640 := by
              have e : AP.length = (rowsOf AP).length := (List.length_map _).symm
              rw [e, eA17, List.length_map]
              exact prAllR_len hb.most
            refine ⟨g, q, z17, AP, AR, BR, rfl, rigUK B12 U17 hK12, hA17, hAl, fun H18 v18 s18 lu => ?_⟩
            unfold LineUp at lu
            rw [if_neg (by rw [eA17]; exact lin_noring hG hb hms)] at lu
            obtain ⟨t18, w18, rfl, l1, l2⟩ := lu
            refine ⟨t18, _, _, _, rfl, rfl, .inl (.inl l1), atI_nat (j := 0) rfl, rfl, _, rfl, ?_⟩
            refine iteF ?_
            have U18 := U17.trans (.same s18)
            have B18 := bagS s18 B17
            have hml18 := s18 _ _ hml17
            -- which is ahead
            refine ⟨_, rfl, _, rfl, _, rfl, _, rfl, _, rfl, _, rfl, p, d, ml, rowsOf AR, bOf BR, ms, rfl, B18, waysUK B12 U18 W12, hG, hb, hml18, hms, fun H19 z19 A19 u19 B19 nz19 z19b hA19 hT19 hl19 => ?_⟩
            have U19 := U18.trans (.upto u19)
            have R19 : RowsAt H19 l AR := RowsAt.uk B12 lp U19 hR12
            refine ⟨l, g, d, z19, q, AR, A19, AR, BR, rfl, R19, rfl, rigUK B12 U19 hK12, waysUK B12 U19 W12, hA19, hT19, hl19, fun H20 s20 => ⟨_, rfl, iteF ?_⟩⟩
            exact ⟨_, _, _, rfl, U19.trans (.same s20), bagS s20 B19⟩
          · rintro σ H13 ⟨v7', v8', v9', rfl, U13, B13⟩
            have K13 := rigUK B12 U13 hK12
            have hR13 : RowsAt H13 l AR := RowsAt.uk B12 lp U13 hR12
            have hB13 : BRows H13 z BR := BRows.uk B12 zp U13 hB12
            obtain ⟨dgx, tn, tr, dw, dl, dp, i1, i2, i3, i4, i5, i6, i7⟩ := id K13.at_.ex
            refine ⟨_, rfl, g, dgx, _, rfl, i1, rr6no _ _ _ _ _ _ (by decide +kernel), g, q, AR, BR, rfl, K13, fun l9 nl9 => ?_⟩
            have s14 : Same H13 (upd H13 l9 (.lst (BR.map fun q => V.ref q.1))) := same_upd nl9
            have hl9 : (upd H13 l9 (.lst (BR.map fun q => V.ref q.1))) l9 = some (.lst (BR.map fun q => V.ref q.1)) := upd_same
            generalize upd H13 l9 (.lst (BR.map fun q => V.ref q.1)) = H14 at s14 hl9
            have hB14 := hB13.same s14
            have shb := shaped_rr (rr_plain hG hb)
            have eqb : PyData.eqv (.list ((bOf BR).map rrD)) (.list ((bOf BR).map rrD)) = true := by
              simp only [PyData.eqv]
              exact eqv_rr _
            refine ⟨_, rfl, _, _, .lst (.inl (.inl hl9)) (dp_rr hB14.tup), .lst (.inl (.inl hB14.lst)) (dp_rr hB14.tup), shb, shb, _, rfl, ?_⟩
            rw [eqb]
            refine iteF ?_
            have K14 := K13.same s14
            have hR14 := hR13.same s14
            obtain ⟨dgx2, tn2, tr2, dw2, dl2, dp2, j1, R14, _⟩ := id K14.at_.ex
            obtain ⟨dx3, tw, tr3, db, dc, da3, du, o3, j2, _⟩ := id R14.ex
            refine ⟨_, rfl, g, Cg, dgx2, _, _, rfl, j1, TG.cl, TG.river, rr6r _ _ _ _ _ _, q, dx3, _, rfl, j2, g7no _ _ _ _ _ _ _ (by decide +kernel) (by decide +kernel) (by decide +kernel) (by decide +kernel) (by decide +kernel) (by decide +kernel) (by decide +kernel), q, AR, rfl, R14, fun l8 nl8 => ?_⟩
            have s15 : Same H14 (upd H14 l8 (.lst (AR.map fun q => V.ref q.1))) := same_upd nl8
            have hl8 : (upd H14 l8 (.lst (AR.map fun q => V.ref q.1))) l8 = some (.lst (AR.map fun q => V.ref q.1)) := upd_same
            generalize upd H14 l8 (.lst (AR.map fun q => V.ref q.1)) = H15 at s15 hl8
            have hR15 := hR14.same s15
            have shr := shaped_rows (good_plain hG)
            have eqr : PyData.eqv (.list ((rowsOf AR).map rowD)) (.list ((rowsOf AR).map rowD)) = true := by
              simp only [PyData.eqv]
              exact eqv_rows _
            refine ⟨_, rfl, _, _, .lst (.inl (.inl hl8)) (dp_rows hR15.tup), .lst (.inl (.inl hR15.lst)) (dp_rows hR15.tup), shr, shr, _, rfl, ?_⟩
            rw [eqr]
            refine iteF ?_
            exact ⟨_, _, _, _, _, _, _, _, _, rfl, sq _ (((UK.upto (u35.trans u58)).trans (.same s812)).trans (U13.trans (.same (s14.trans s15))))⟩
    · rintro σ H2 ⟨v1, v2, v3, v4, v5, v6, v7, v8, v9, rfl, _⟩
      exact k _
end
end K0
end
section
set_option Elab.async false
set_option linter.all false
set_option maxRecDepth 100000
set_option maxHeartbeats 0
namespace K0H
open PySem PySem.Spec PyProof.Rows L2 K0
open PySem.W (Frag)
/-! ### the defs, as data -/
def dD (x : Str) (st : Stmt) : He.DefD := ⟨(x, none), x, x, defArgs st, defBody st, defScope st, [], []⟩
def dA (al x : Str) (st : Stmt) : He.DefD := ⟨(al, none), x, x, defArgs st, defBody st, defScope st, [], []⟩
def dM (c m q : Str) (st : Stmt) : He.DefD := ⟨(c, some m), m, q, defArgs st, defBody st, defScope st, [], []⟩
def fn : List He.DefD := [dD "need_weir" sNeed, dD "need_right" sNeedR, dD "need_different" sNeedDiff, dD "meet" sMeet, dD "pairs" sPairsG, dD "line_pairs" sLinePairs, dD "_first_free" sFirstFree, dD "_line" sLine, dD "turned" sTurned, dD "_ring_at" sRingAt, dD "_first_ring" sFirstRing, dD "line_up" sLineUp, dD "is_name" sIsName, dD "_course" sCourse, dD "_find_courses" sFind, dD "_directly_above" sAbove, dD "_find_upstream" sUp, dD "_order_by_depth" sOrder, dA "is_row_rivers" "_is_row" sIsRow, dA "need_rows_rivers" "_need_rows" sNeedRows, dA "is_row_rights" "_is_row" sIsRowR, dA "need_rows_rights" "_need_rows" sNeedRowsR, dM "River" "__init__" "River.__init__" sInit, dM "River" "__contains__" "River.__contains__" sContains, dM "River" "is_down" "River.is_down" sIsDown, dM "River" "way" "River.way" sWay, dM "River" "rows" "River.rows" sRows, dM "Rights" "__init__" "Rights.__init__" sGInit, dM "Rights" "__contains__" "Rights.__contains__" sGContains, dM "Rights" "__len__" "Rights.__len__" sGLen, dM "Rights" "rows" "Rights.rows" sGRows, dM "Rights" "_those_over" "Rights._those_over" sThose, dM "Rights" "way" "Rights.way" sGWay, dM "Rights" "passing" "Rights.passing" sGPassing, dD "_law_bag" sBag, dD "_law_take" sTake, dD "_law_of" sOf, dD "_law_mixed" sMixed, dD "_law_names" sNames, dD "_law_river" sLRiver, dD "_law_course" sLCourse, dD "_law_right_names" sRNames, dD "_law_rights" sLRights, dD "_law_way" sLWay, dD "_law_pairs" sLPairs, dD "_law_ahead" sLAhead, dD "_law_ring" sLRing, dD "_law_line" sLLine, dD "_law_up_right" sLUp, dD "_law_refused" sLRefused, dD "_law_pairs_right" sLPairsR, dD "law" sLaw]
def fa0 : List He.Fa := [.glo "need_weir", .glo "need_right", .glo "need_different", .glo "meet", .glo "pairs", .glo "line_pairs", .glo "_first_free", .glo "_line", .glo "turned", .glo "_ring_at", .glo "_first_ring", .glo "line_up", .glo "is_name", .glo "is_row_rivers", .glo "need_rows_rivers", .glo "_course", .glo "_find_courses", .glo "_directly_above", .glo "_find_upstream", .glo "_order_by_depth", .glo "River", .glo "is_row_rights", .glo "need_rows_rights", .glo "Rights", .glo "NoRight", .glo "WeirError", .glo "_law_bag", .glo "_law_take", .glo "_law_of", .glo "_law_mixed"]
def fa1 : List He.Fa := [.glo "_law_names", .glo "_law_river", .glo "_law_course", .glo "_law_right_names", .glo "_law_rights", .glo "_law_way", .glo "_law_pairs", .glo "_law_ahead", .glo "_law_ring", .glo "_law_line", .glo "_law_up_right", .glo "_law_refused", .glo "_law_pairs_right", .glo "law", .free "len", .free "enumerate", .free "int", .free "abs", .free "list", .free "range", .free "dict", .free "tuple", .free "isinstance", .free "str", .free "all", .free "any", .free "bool", .free "sorted", .free "max", .free "min"]
def fa2 : List He.Fa := [.free "iter", .free "super", .free "ValueError", .str "SEA" "sea", .int "MOST_ROWS" 40, .int "LONGEST_NAME" 8, .cls "River", .mkr "River", .cls "Rights", .mkr "Rights", .exm "NoRight" "NoRight" true, .noat "NoRight" "name", .noat "River" "weirs", .noat "River" "_rows", .noat "River" "_below", .noat "River" "_courses", .noat "River" "_above", .noat "River" "_upstream", .noat "River" "_deepest_first", .noat "Rights" "river", .noat "Rights" "names", .noat "Rights" "_rows", .noat "Rights" "_ways", .noat "Rights" "_lasts", .noat "Rights" "_passing", .meth "River" "is_down", .meth "River" "way", .meth "River" "rows", .meth "Rights" "rows", .meth "Rights" "_those_over"]
def fa3 : List He.Fa := [.meth "Rights" "way", .meth "Rights" "passing"]
def fa : List He.Fa := fa0 ++ fa1 ++ fa2 ++ fa3
/-! ### more facts, as a Bool -/
def spB (K : Frag) (c m : Str) : Bool := He.eqO (PySem.W.findIn K (.ref (He.ga K c)) m) (some (some (.ref (He.ma K (He.ga K c) m)))) && PySem.W.isFn K (.ref (He.ma K (He.ga K c) m))
/-- an error's class is one over ValueError, its __init__ its own -/
def clsB (K : Frag) (c : Str) : Bool := match K.lookup (He.ga K c) with
  | some ⟨.type t, _, .cls cd, sl⟩ => decide (t = "type") && (match cd.mro, sl.toList with
    | .ref C' :: bm, [_, _, _, _, some (.builtin n), _] => decide (C' = He.ga K c) && (decide (n = "ValueError.__new__") && (cd.hasDict && (!cd.hasDel && PySem.HandSPX.refsVE bm)))
    | _, _ => false)
  | _ => false
def errB (K : Frag) (c : Str) : Bool := He.eqO (PySem.W.findIn K (.ref (He.ga K c)) "__setattr__") (some (some (.builtin "object.__setattr__"))) && (decide (PySem.W.subIn K (.ref (He.ga K c)) (.type "BaseException") = some true) && (decide (PySem.W.typeIn K (.ref (He.ga K c)) = some (.type "type")) && (PySem.W.keepIn K (.ref (He.ga K c)) &&
  (decide (PySem.W.mroIn K (He.ga K c) (.ref (He.ga K c)) = some true) && (decide (PySem.W.subIn K (.ref (He.ga K c)) (.type "ValueError") = some true) && (He.eqO (PySem.W.ks_superIn K (He.ga K c) (He.ga K c) "__init__") (some (some (.builtin "ValueError.__init__"))) &&
  (He.eqO (PySem.W.nsIn K cStatics "thirdparty.any") (some none) && (He.eqO (PySem.W.findIn K (.ref (He.ga K c)) "__init__") (some (some (.ref (He.ma K (He.ga K c) "__init__")))) && decide (PySem.W.typeIn K (.ref (He.ma K (He.ga K c) "__init__")) = some (.type "function"))))))))))
def xfB (K : Frag) (c : Str) : Bool := He.eqO (PySem.W.findIn K (.ref (He.ga K c)) "__getattribute__") (some (some (.builtin "BaseException.__getattribute__"))) && (He.eqO (PySem.W.findIn K (.ref (He.ga K c)) "__getattr__") (some none) && PySem.W.hasDictIn K (He.ga K c))
def iniB (K : Frag) (c qual : Str) : Bool := match K.lookup (He.fAd K (c, some "__init__")) with
  | some ⟨_, _, .func fd, _⟩ => (match fd.code, fd.closure with
    | .ref cda, [(x, cc)] => decide (x = "__class__") && (PySem.W.codeIn K (.ref cda) qual && ((match K.lookup cda with
      | some ⟨_, _, .fields vs, _⟩ => (match (vs[2]? : Option Value) with
        | some (.str file _) => (PySem.Challenge.pw_weirkeepers_k09_whole_line_or_ring.main.file == file)
        | _ => false)
      | _ => false) && (match K.lookup cc with
      | some ⟨_, _, .cell (some (.ref C)), _⟩ => decide (C = He.ga K c)
      | _ => false)))
    | _, _ => false)
  | _ => false
def ex (K : Frag) : Bool := spB K "River" "__contains__" && (spB K "Rights" "__contains__" && (spB K "Rights" "__len__" && (clsB K "NoRight" && (errB K "NoRight" && (iniB K "NoRight" "NoRight.__init__" && xfB K "NoRight")))))
abbrev FnY : Type := Option (Str × Str × Arguments × FuncBody × Scope × Addr × Value × Value × Option Addr × Addr)
def fnY (K : Frag) (c : Str) : FnY := match K.lookup (He.fAd K (c, some "__init__")) with
  | some ⟨_, _, .func fd, _⟩ => some (fd.name, fd.qualname, fd.params, fd.body, fd.scope, fd.globals, fd.defaults, fd.kwdefaults, fd.annotations, fd.builtins)
  | _ => none
def valY (qual : Str) (st : Stmt) : FnY := some ("__init__", qual, defArgs st, .stmts (defBody st), defScope st, mainGlobals, .none, .none, none, builtinsNs)
def vY : FnY := valY "NoRight.__init__" sNoR
abbrev AlY : Type := He.AlD × Bool × FnY
def frY (n : Nat) (g : Addr → Option Obj) : Frag := He.frT g (cStatics :: He.asD g n)
def obsY (n : Nat) (g : Addr → Option Obj) : AlY := (He.obsD fa fn (frY n g), ex (frY n g), fnY (frY n g) "NoRight")
abbrev R : PySem.W.OpenRow := PySem.W.OpenLaw.row PySem.Challenge.rw_weirkeepers_k09_whole_line_or_ring
structure SaysY (K : Frag) : Prop where
  d : He.SaysD fa fn K
  more : ex K = true
  y : fnY K "NoRight" = vY
theorem saysY_of {n : Nat} {h : Heap} (e : obsY n h.get? = (He.valD fn, true, vY)) : SaysY (frY n h.get?) :=
  ⟨congrArg (fun z : AlY => z.1) e, congrArg (fun z : AlY => z.2.1) e, congrArg (fun z : AlY => z.2.2) e⟩
def hk (n : Nat) : PySem.W.Hook where
  α := AlY
  obs := fun s => obsY n s.heap.get?
  val := fun _ => (He.valD fn, true, vY)
  says := fun _ h => ∃ K : Frag, K.In h ∧ SaysY K
  of := fun _ _ e => ⟨_, He.frT_in, saysY_of e⟩
  keeps := fun _ _ _ ⟨K, hK, c⟩ k => ⟨K, PySem.W.Frag.In.keeps hK k, c⟩
def ob (s : PySem.W.SharedT) : AlY := obsY 4 (HandSHeadRun.getT s)
theorem ob_eq (s : PySem.W.SharedT) : ob s = (hk 4).obs s.abs := by
  have e : HandSHeadRun.getT s = s.abs.heap.get? := funext (HandSHeadRun.getT_eq s)
  unfold ob
  rw [e] <;> rfl
end K0H
end
section
set_option Elab.async false
set_option linter.all false
set_option maxRecDepth 100000
set_option maxHeartbeats 0
namespace K0H
open PySem PySem.Spec PyProof.Rows L2 K0
def loose0 : List Str := ["_wall", "__name__", "WeirError", "NotRiver", "NotRights", "NoWeir", "NoRight", "NotDown", "need_weir", "need_right", "need_different", "meet", "pairs", "line_pairs", "_first_free", "_line", "turned", "_ring_at", "_first_ring", "line_up", "SEA", "MOST_ROWS", "LONGEST_NAME", "is_name", "_is_row", "is_row_rivers", "_need_rows", "need_rows_rivers", "_course", "_find_courses"]
def loose1 : List Str := ["_directly_above", "_find_upstream", "_order_by_depth", "River", "is_row_rights", "need_rows_rights", "Rights", "_law_bag", "_law_take", "_law_of", "_law_mixed", "_law_names", "_law_river", "_law_course", "_law_right_names", "_law_rights", "_law_way", "_law_pairs", "_law_ahead", "_law_ring", "_law_line", "_law_up_right", "_law_refused", "_law_pairs_right"]
def loose : List Str := loose0 ++ loose1
noncomputable def endR (w : World) (os : OsState) : Option PySem.W.SharedT := HandSHeadRun.endF (HandSHeadRun.stepQ (HandSHeadRun.denQ HandSHeadRun.tabQ) R.prog w) 6000 R.prog w os
theorem runA (w : World) (os : OsState) : (endR w os).map (fun s => HandSHeadRun.looksF R.prog (PySem.W.boot_heap w.params) s.abs) = some true := by
  kernel_rfl
theorem runB (w : World) (os : OsState) : (endR w os).map (fun s => HandSHeadRun.seenQ (PySem.W.view R.prog [62]) loose (importedModules R.prog.main.body) (fun s => PySem.W.xlAt (PySem.W.view R.prog [62]) [] s && PySem.W.recOk R.records s) s.abs) = some (PySem.W.openGood (PySem.W.view R.prog [62]) loose) := by
  kernel_rfl
theorem runC (w : World) (os : OsState) : (endR w os).map ob = some ((hk 4).val w) := by
  kernel_rfl
theorem three {S A B C : Type} {o : Option S} {f : S → A} {g : S → B} {h : S → C} {a : A} {b : B} {c : C} (x : o.map f = some a) (y : o.map g = some b) (z : o.map h = some c) : o.map (fun s => (f s, g s, h s)) = some (a, b, c) := by
  cases o with
  | none => cases x
  | some s =>
    cases x
    cases y
    cases z
    rfl
theorem run (w : World) : HandSHeadRun.RunEq R (PySem.W.view R.prog [62]) (hk 4) ob 6000 loose w := fun os => three (runA w os) (runB w os) (runC w os)
end K0H
end
section
set_option Elab.async false
set_option linter.all false
set_option maxRecDepth 100000
set_option maxHeartbeats 0
namespace K0H
open PySem PySem.Spec PyProof.Rows L2 K0
open PySem.W (Frag)
abbrev PP : Program := PySem.Challenge.pw_weirkeepers_k09_whole_line_or_ring
theorem sup_ok {K : Frag} {c qual : Str} {st : Stmt} (y : fnY K c = valY qual st) (hi : iniB K c qual = true) : ∃ (fd : FuncData) (oc : Value) (od : Option Addr) (doc pm : Value) (cda : Addr) (ct : Value) (cc : Addr) (osl : Array (Option Value)),
    fd = PySem.W.ksFn "__init__" qual (defArgs st) (defBody st) (defScope st) .none .none doc pm none (.ref cda) ct cc ∧ K.lookup (He.fAd K (c, some "__init__")) = some ⟨oc, od, .func fd, osl⟩ ∧ PySem.W.codeIn K (.ref cda) qual = true ∧
    (∃ (ccl : Value) (cdd : Option Addr) (vs : Array Value) (ccs : Array (Option Value)) (file : Str) (tf : Tok), K.lookup cda = some ⟨ccl, cdd, .fields vs, ccs⟩ ∧ vs[2]? = some (.str file tf) ∧ ((PP.main.file : Str) == file) = true) ∧
    ∃ (cl : Value) (cld : Option Addr) (csl : Array (Option Value)), K.lookup cc = some ⟨cl, cld, .cell (some (.ref (He.ga K c))), csl⟩ := by
  unfold fnY at y
  unfold iniB at hi
  split at y
  · rename_i oc od fd osl q
    rw [q] at hi
    obtain ⟨n1, n2, n3, n4, n5, n6, n7, n8, n9, n10, n11, n12, n13, n14, n15⟩ := fd
    have y2 : (some (n1, n2, n3, n4, n5, n6, n8, n9, n12, n15) : FnY) = valY qual st := y
    unfold valY at y2
    simp only [Option.some.injEq, Prod.mk.injEq] at y2
    obtain ⟨h1, h2, h3, h4, h5, h6, h7, h8, h9, h10⟩ := y2
    subst h1 h2 h3 h4 h5 h6 h7 h8 h9 h10
    dsimp only at hi
    split at hi
    · rename_i cda x cc
      obtain ⟨g1, hi⟩ := He.ba hi
      obtain ⟨g2, hi⟩ := He.ba hi
      obtain ⟨g3, g4⟩ := He.ba hi
      have g1 := of_decide_eq_true g1
      subst g1
      refine ⟨_, oc, od, n10, n11, cda, n14, cc, osl, rfl, q, g2, ?_, ?_⟩
      · split at g3
        · rename_i ccl cdd vs ccs qc
          split at g3
          · rename_i file tf qv
            exact ⟨_, _, _, _, file, tf, qc, qv, g3⟩
          · cases g3
        · cases g3
      · split at g4
        · rename_i cl cld C csl qc
          have e := of_decide_eq_true g4
          subst e
          exact ⟨_, _, _, qc⟩
        · cases g4
    · cases hi
  · cases y
theorem cls_ok2 {K : Frag} {c : Str} (h : clsB K c = true) : ∃ nm q N bs bm sn sub ab col dd k0 k1 k2 k3 k5, K.lookup (He.ga K c) = some (excClassObj nm q (He.ga K c) N bs bm true sn sub ab col dd k0 k1 k2 k3 k5 "ValueError.__new__") ∧ PySem.HandSPX.refsVE bm = true := by
  unfold clsB at h
  split at h
  · rename_i t dd cd sl q
    obtain ⟨g0, h⟩ := He.ba h
    have e0 := of_decide_eq_true g0
    clear g0
    split at h
    · rename_i C' bm k0 k1 k2 k3 n k5 e1 e2
      obtain ⟨g1, h⟩ := He.ba h
      obtain ⟨g2, h⟩ := He.ba h
      obtain ⟨g3, h⟩ := He.ba h
      obtain ⟨g4, g5⟩ := He.ba h
      have g1 := of_decide_eq_true g1
      have g2 := of_decide_eq_true g2
      subst g1 g2
      obtain ⟨c1, c2, c3, c4, c5, c6, c7, c8, c9, c10, c11⟩ := cd
      dsimp only at e1 g3 g4
      subst e1
      have g4 : c11 = false := by simpa using g4
      subst g3 g4
      have es : sl = #[k0, k1, k2, k3, some (.builtin "ValueError.__new__"), k5] := by
        apply Array.ext'
        rw [e2]
      subst es
      subst e0
      exact ⟨c1, c5, c4, c2, bm, c7, c8, c9, c10, dd, k0, k1, k2, k3, k5, q, g5⟩
    · cases h
  · cases h
theorem spB_ok {K : Frag} {c m : Str} (h : spB K c m = true) : PySem.W.findIn K (.ref (He.ga K c)) m = some (some (.ref (He.ma K (He.ga K c) m))) ∧ PySem.W.isFn K (.ref (He.ma K (He.ga K c) m)) = true := by
  obtain ⟨h1, h2⟩ := He.ba h
  exact ⟨He.eqO_ok h1, h2⟩
theorem all_ok {w : World} {K : Frag} {h base : Heap} {mg : Str → Option Value} (X : K.In h) (G : h.Ns mainGlobals mg) (c : SaysY K) :
    ∃ tS tM tL, All PP w K mg base tS tM tL (He.ga K "Rights") (He.ga K "River") (He.ga K "NoRight") (He.ga K "WeirError") := by
  obtain ⟨d0, f0⟩ := c.d.def_ 0 (d := dD "need_weir" sNeed) rfl
  have F0 : FnP K "need_weir" sNeed (He.ga K "need_weir") d0 := f0
  obtain ⟨d1, f1⟩ := c.d.def_ 1 (d := dD "need_right" sNeedR) rfl
  have F1 : FnP K "need_right" sNeedR (He.ga K "need_right") d1 := f1
  obtain ⟨d2, f2⟩ := c.d.def_ 2 (d := dD "need_different" sNeedDiff) rfl
  have F2 : FnP K "need_different" sNeedDiff (He.ga K "need_different") d2 := f2
  obtain ⟨d3, f3⟩ := c.d.def_ 3 (d := dD "meet" sMeet) rfl
  have F3 : FnP K "meet" sMeet (He.ga K "meet") d3 := f3
  obtain ⟨d4, f4⟩ := c.d.def_ 4 (d := dD "pairs" sPairsG) rfl
  have F4 : FnP K "pairs" sPairsG (He.ga K "pairs") d4 := f4
  obtain ⟨d5, f5⟩ := c.d.def_ 5 (d := dD "line_pairs" sLinePairs) rfl
  have F5 : FnP K "line_pairs" sLinePairs (He.ga K "line_pairs") d5 := f5
  obtain ⟨d6, f6⟩ := c.d.def_ 6 (d := dD "_first_free" sFirstFree) rfl
  have F6 : FnP K "_first_free" sFirstFree (He.ga K "_first_free") d6 := f6
  obtain ⟨d7, f7⟩ := c.d.def_ 7 (d := dD "_line" sLine) rfl
  have F7 : FnP K "_line" sLine (He.ga K "_line") d7 := f7
  obtain ⟨d8, f8⟩ := c.d.def_ 8 (d := dD "turned" sTurned) rfl
  have F8 : FnP K "turned" sTurned (He.ga K "turned") d8 := f8
  obtain ⟨d9, f9⟩ := c.d.def_ 9 (d := dD "_ring_at" sRingAt) rfl
  have F9 : FnP K "_ring_at" sRingAt (He.ga K "_ring_at") d9 := f9
  obtain ⟨d10, f10⟩ := c.d.def_ 10 (d := dD "_first_ring" sFirstRing) rfl
  have F10 : FnP K "_first_ring" sFirstRing (He.ga K "_first_ring") d10 := f10
  obtain ⟨d11, f11⟩ := c.d.def_ 11 (d := dD "line_up" sLineUp) rfl
  have F11 : FnP K "line_up" sLineUp (He.ga K "line_up") d11 := f11
  obtain ⟨d12, f12⟩ := c.d.def_ 12 (d := dD "is_name" sIsName) rfl
  have F12 : FnP K "is_name" sIsName (He.ga K "is_name") d12 := f12
  obtain ⟨d13, f13⟩ := c.d.def_ 13 (d := dD "_course" sCourse) rfl
  have F13 : FnP K "_course" sCourse (He.ga K "_course") d13 := f13
  obtain ⟨d14, f14⟩ := c.d.def_ 14 (d := dD "_find_courses" sFind) rfl
  have F14 : FnP K "_find_courses" sFind (He.ga K "_find_courses") d14 := f14
  obtain ⟨d15, f15⟩ := c.d.def_ 15 (d := dD "_directly_above" sAbove) rfl
  have F15 : FnP K "_directly_above" sAbove (He.ga K "_directly_above") d15 := f15
  obtain ⟨d16, f16⟩ := c.d.def_ 16 (d := dD "_find_upstream" sUp) rfl
  have F16 : FnP K "_find_upstream" sUp (He.ga K "_find_upstream") d16 := f16
  obtain ⟨d17, f17⟩ := c.d.def_ 17 (d := dD "_order_by_depth" sOrder) rfl
  have F17 : FnP K "_order_by_depth" sOrder (He.ga K "_order_by_depth") d17 := f17
  obtain ⟨d18, f18⟩ := c.d.def_ 18 (d := dA "is_row_rivers" "_is_row" sIsRow) rfl
  have F18 : FnP K "_is_row" sIsRow (He.ga K "is_row_rivers") d18 := f18
  obtain ⟨d19, f19⟩ := c.d.def_ 19 (d := dA "need_rows_rivers" "_need_rows" sNeedRows) rfl
  have F19 : FnP K "_need_rows" sNeedRows (He.ga K "need_rows_rivers") d19 := f19
  obtain ⟨d20, f20⟩ := c.d.def_ 20 (d := dA "is_row_rights" "_is_row" sIsRowR) rfl
  have F20 : FnP K "_is_row" sIsRowR (He.ga K "is_row_rights") d20 := f20
  obtain ⟨d21, f21⟩ := c.d.def_ 21 (d := dA "need_rows_rights" "_need_rows" sNeedRowsR) rfl
  have F21 : FnP K "_need_rows" sNeedRowsR (He.ga K "need_rows_rights") d21 := f21
  obtain ⟨d22, f22⟩ := c.d.def_ 22 (d := dM "River" "__init__" "River.__init__" sInit) rfl
  have F22 : FnM K "__init__" "River.__init__" sInit (He.ma K (He.ga K "River") "__init__") d22 := f22
  obtain ⟨d23, f23⟩ := c.d.def_ 23 (d := dM "River" "__contains__" "River.__contains__" sContains) rfl
  have F23 : FnM K "__contains__" "River.__contains__" sContains (He.ma K (He.ga K "River") "__contains__") d23 := f23
  obtain ⟨d24, f24⟩ := c.d.def_ 24 (d := dM "River" "is_down" "River.is_down" sIsDown) rfl
  have F24 : FnM K "is_down" "River.is_down" sIsDown (He.ma K (He.ga K "River") "is_down") d24 := f24
  obtain ⟨d25, f25⟩ := c.d.def_ 25 (d := dM "River" "way" "River.way" sWay) rfl
  have F25 : FnM K "way" "River.way" sWay (He.ma K (He.ga K "River") "way") d25 := f25
  obtain ⟨d26, f26⟩ := c.d.def_ 26 (d := dM "River" "rows" "River.rows" sRows) rfl
  have F26 : FnM K "rows" "River.rows" sRows (He.ma K (He.ga K "River") "rows") d26 := f26
  obtain ⟨d27, f27⟩ := c.d.def_ 27 (d := dM "Rights" "__init__" "Rights.__init__" sGInit) rfl
  have F27 : FnM K "__init__" "Rights.__init__" sGInit (He.ma K (He.ga K "Rights") "__init__") d27 := f27
  obtain ⟨d28, f28⟩ := c.d.def_ 28 (d := dM "Rights" "__contains__" "Rights.__contains__" sGContains) rfl
  have F28 : FnM K "__contains__" "Rights.__contains__" sGContains (He.ma K (He.ga K "Rights") "__contains__") d28 := f28
  obtain ⟨d29, f29⟩ := c.d.def_ 29 (d := dM "Rights" "__len__" "Rights.__len__" sGLen) rfl
  have F29 : FnM K "__len__" "Rights.__len__" sGLen (He.ma K (He.ga K "Rights") "__len__") d29 := f29
  obtain ⟨d30, f30⟩ := c.d.def_ 30 (d := dM "Rights" "rows" "Rights.rows" sGRows) rfl
  have F30 : FnM K "rows" "Rights.rows" sGRows (He.ma K (He.ga K "Rights") "rows") d30 := f30
  obtain ⟨d31, f31⟩ := c.d.def_ 31 (d := dM "Rights" "_those_over" "Rights._those_over" sThose) rfl
  have F31 : FnM K "_those_over" "Rights._those_over" sThose (He.ma K (He.ga K "Rights") "_those_over") d31 := f31
  obtain ⟨d32, f32⟩ := c.d.def_ 32 (d := dM "Rights" "way" "Rights.way" sGWay) rfl
  have F32 : FnM K "way" "Rights.way" sGWay (He.ma K (He.ga K "Rights") "way") d32 := f32
  obtain ⟨d33, f33⟩ := c.d.def_ 33 (d := dM "Rights" "passing" "Rights.passing" sGPassing) rfl
  have F33 : FnM K "passing" "Rights.passing" sGPassing (He.ma K (He.ga K "Rights") "passing") d33 := f33
  obtain ⟨d34, f34⟩ := c.d.def_ 34 (d := dD "_law_bag" sBag) rfl
  have F34 : FnP K "_law_bag" sBag (He.ga K "_law_bag") d34 := f34
  obtain ⟨d35, f35⟩ := c.d.def_ 35 (d := dD "_law_take" sTake) rfl
  have F35 : FnP K "_law_take" sTake (He.ga K "_law_take") d35 := f35
  obtain ⟨d36, f36⟩ := c.d.def_ 36 (d := dD "_law_of" sOf) rfl
  have F36 : FnP K "_law_of" sOf (He.ga K "_law_of") d36 := f36
  obtain ⟨d37, f37⟩ := c.d.def_ 37 (d := dD "_law_mixed" sMixed) rfl
  have F37 : FnP K "_law_mixed" sMixed (He.ga K "_law_mixed") d37 := f37
  obtain ⟨d38, f38⟩ := c.d.def_ 38 (d := dD "_law_names" sNames) rfl
  have F38 : FnP K "_law_names" sNames (He.ga K "_law_names") d38 := f38
  obtain ⟨d39, f39⟩ := c.d.def_ 39 (d := dD "_law_river" sLRiver) rfl
  have F39 : FnP K "_law_river" sLRiver (He.ga K "_law_river") d39 := f39
  obtain ⟨d40, f40⟩ := c.d.def_ 40 (d := dD "_law_course" sLCourse) rfl
  have F40 : FnP K "_law_course" sLCourse (He.ga K "_law_course") d40 := f40
  obtain ⟨d41, f41⟩ := c.d.def_ 41 (d := dD "_law_right_names" sRNames) rfl
  have F41 : FnP K "_law_right_names" sRNames (He.ga K "_law_right_names") d41 := f41
  obtain ⟨d42, f42⟩ := c.d.def_ 42 (d := dD "_law_rights" sLRights) rfl
  have F42 : FnP K "_law_rights" sLRights (He.ga K "_law_rights") d42 := f42
  obtain ⟨d43, f43⟩ := c.d.def_ 43 (d := dD "_law_way" sLWay) rfl
  have F43 : FnP K "_law_way" sLWay (He.ga K "_law_way") d43 := f43
  obtain ⟨d44, f44⟩ := c.d.def_ 44 (d := dD "_law_pairs" sLPairs) rfl
  have F44 : FnP K "_law_pairs" sLPairs (He.ga K "_law_pairs") d44 := f44
  obtain ⟨d45, f45⟩ := c.d.def_ 45 (d := dD "_law_ahead" sLAhead) rfl
  have F45 : FnP K "_law_ahead" sLAhead (He.ga K "_law_ahead") d45 := f45
  obtain ⟨d46, f46⟩ := c.d.def_ 46 (d := dD "_law_ring" sLRing) rfl
  have F46 : FnP K "_law_ring" sLRing (He.ga K "_law_ring") d46 := f46
  obtain ⟨d47, f47⟩ := c.d.def_ 47 (d := dD "_law_line" sLLine) rfl
  have F47 : FnP K "_law_line" sLLine (He.ga K "_law_line") d47 := f47
  obtain ⟨d48, f48⟩ := c.d.def_ 48 (d := dD "_law_up_right" sLUp) rfl
  have F48 : FnP K "_law_up_right" sLUp (He.ga K "_law_up_right") d48 := f48
  obtain ⟨d49, f49⟩ := c.d.def_ 49 (d := dD "_law_refused" sLRefused) rfl
  have F49 : FnP K "_law_refused" sLRefused (He.ga K "_law_refused") d49 := f49
  obtain ⟨d50, f50⟩ := c.d.def_ 50 (d := dD "_law_pairs_right" sLPairsR) rfl
  have F50 : FnP K "_law_pairs_right" sLPairsR (He.ga K "_law_pairs_right") d50 := f50
  obtain ⟨d51, f51⟩ := c.d.def_ 51 (d := dD "law" sLaw) rfl
  have F51 : FnP K "law" sLaw (He.ga K "law") d51 := f51
  obtain ⟨tS, eS⟩ := He.str_ok X G (c.d.fact 63 (f := .str "SEA" "sea") rfl)
  obtain ⟨tM, eM⟩ := He.int_ok X G (c.d.fact 64 (f := .int "MOST_ROWS" 40) rfl)
  obtain ⟨tL, eL⟩ := He.int_ok X G (c.d.fact 65 (f := .int "LONGEST_NAME" 8) rfl)
  obtain ⟨hR, hx⟩ := He.ba c.more
  obtain ⟨hG, hx⟩ := He.ba hx
  obtain ⟨hLn, hx⟩ := He.ba hx
  obtain ⟨hCl, hx⟩ := He.ba hx
  obtain ⟨e1, hx0⟩ := He.ba (He.ba hx).1
  obtain ⟨hIn, x1⟩ := He.ba (He.ba hx).2
  obtain ⟨e2, hx0⟩ := He.ba hx0
  obtain ⟨e3, hx0⟩ := He.ba hx0
  obtain ⟨e4, hx0⟩ := He.ba hx0
  obtain ⟨e5, hx0⟩ := He.ba hx0
  obtain ⟨e6, hx0⟩ := He.ba hx0
  obtain ⟨e7, hx0⟩ := He.ba hx0
  obtain ⟨e8, hx0⟩ := He.ba hx0
  obtain ⟨e9, e10⟩ := He.ba hx0
  obtain ⟨n1, n'⟩ := He.ba x1
  obtain ⟨n2, n3⟩ := He.ba n'
  obtain ⟨fdn, oc, od, doc, pm, cda, ct, cc, osl, en, lkn, cdn, fl, cl⟩ := sup_ok (c := "NoRight") (qual := "NoRight.__init__") (st := sNoR) c.y hIn
  obtain ⟨s1, s1'⟩ := spB_ok hR
  obtain ⟨s2, s2'⟩ := spB_ok hG
  obtain ⟨s3, s3'⟩ := spB_ok hLn
  have B : Bl mg := ⟨(He.free_ok X G (c.d.fact 44 (f := .free "len") rfl)), (He.free_ok X G (c.d.fact 45 (f := .free "enumerate") rfl)), (He.free_ok X G (c.d.fact 46 (f := .free "int") rfl)), (He.free_ok X G (c.d.fact 47 (f := .free "abs") rfl)), (He.free_ok X G (c.d.fact 48 (f := .free "list") rfl)), (He.free_ok X G (c.d.fact 49 (f := .free "range") rfl)), (He.free_ok X G (c.d.fact 50 (f := .free "dict") rfl)), (He.free_ok X G (c.d.fact 51 (f := .free "tuple") rfl)), (He.free_ok X G (c.d.fact 52 (f := .free "isinstance") rfl)), (He.free_ok X G (c.d.fact 53 (f := .free "str") rfl)), (He.free_ok X G (c.d.fact 54 (f := .free "all") rfl)), (He.free_ok X G (c.d.fact 55 (f := .free "any") rfl)), (He.free_ok X G (c.d.fact 56 (f := .free "bool") rfl)), (He.free_ok X G (c.d.fact 57 (f := .free "sorted") rfl)), (He.free_ok X G (c.d.fact 58 (f := .free "max") rfl)), (He.free_ok X G (c.d.fact 59 (f := .free "min") rfl)), (He.free_ok X G (c.d.fact 60 (f := .free "iter") rfl)), (He.free_ok X G (c.d.fact 61 (f := .free "super") rfl)), (He.free_ok X G (c.d.fact 62 (f := .free "ValueError") rfl))⟩
  have C : Gc mg tS tM tL := ⟨eS, eM, eL⟩
  have T : Rv K mg (He.ga K "River") := ⟨He.cls_ok (c.d.fact 66 (f := .cls "River") rfl), He.noat_ok (c.d.fact 72 (f := .noat "River" "weirs") rfl), He.noat_ok (c.d.fact 73 (f := .noat "River" "_rows") rfl), He.noat_ok (c.d.fact 74 (f := .noat "River" "_below") rfl), He.noat_ok (c.d.fact 75 (f := .noat "River" "_courses") rfl), He.noat_ok (c.d.fact 76 (f := .noat "River" "_above") rfl), He.noat_ok (c.d.fact 77 (f := .noat "River" "_upstream") rfl), He.noat_ok (c.d.fact 78 (f := .noat "River" "_deepest_first") rfl), (He.glo_ok X G (c.d.fact 20 (f := .glo "River") rfl))⟩
  have TG : Rg K mg (He.ga K "Rights") := ⟨He.cls_ok (c.d.fact 68 (f := .cls "Rights") rfl), He.noat_ok (c.d.fact 79 (f := .noat "Rights" "river") rfl), He.noat_ok (c.d.fact 80 (f := .noat "Rights" "names") rfl), He.noat_ok (c.d.fact 81 (f := .noat "Rights" "_rows") rfl), He.noat_ok (c.d.fact 82 (f := .noat "Rights" "_ways") rfl), He.noat_ok (c.d.fact 83 (f := .noat "Rights" "_lasts") rfl), He.noat_ok (c.d.fact 84 (f := .noat "Rights" "_passing") rfl), (He.glo_ok X G (c.d.fact 23 (f := .glo "Rights") rfl))⟩
  have S : Sc K (He.ga K "River") := ⟨⟨_, _, F23, s1, s1'⟩⟩
  have SG : Gm K (He.ga K "Rights") := ⟨⟨_, _, F28, s2, s2'⟩⟩
  have DW : NdS PP w K mg base (He.ga K "River") := ⟨⟨_, _, F0, (He.glo_ok X G (c.d.fact 0 (f := .glo "need_weir") rfl)), ok_needS F0 S T B⟩⟩
  have D : NdG PP w K mg base (He.ga K "Rights") (He.ga K "River") := ⟨⟨_, _, F1, (He.glo_ok X G (c.d.fact 1 (f := .glo "need_right") rfl)), ok_needG F1 SG TG B⟩⟩
  have Mfr : Mf K mg := ⟨⟨_, _, F12, (He.glo_ok X G (c.d.fact 12 (f := .glo "is_name") rfl))⟩, ⟨_, _, F18, (He.glo_ok X G (c.d.fact 13 (f := .glo "is_row_rivers") rfl))⟩, ⟨_, _, F19, (He.glo_ok X G (c.d.fact 14 (f := .glo "need_rows_rivers") rfl))⟩, ⟨_, _, F13, (He.glo_ok X G (c.d.fact 15 (f := .glo "_course") rfl))⟩, ⟨_, _, F14, (He.glo_ok X G (c.d.fact 16 (f := .glo "_find_courses") rfl))⟩, ⟨_, _, F15, (He.glo_ok X G (c.d.fact 17 (f := .glo "_directly_above") rfl))⟩, ⟨_, _, F16, (He.glo_ok X G (c.d.fact 18 (f := .glo "_find_upstream") rfl))⟩, ⟨_, _, F17, (He.glo_ok X G (c.d.fact 19 (f := .glo "_order_by_depth") rfl))⟩⟩
  have Gg : Mg PP w K mg base (He.ga K "Rights") (He.ga K "River") := ⟨⟨_, _, F12, (He.glo_ok X G (c.d.fact 12 (f := .glo "is_name") rfl))⟩, ⟨_, _, F20, (He.glo_ok X G (c.d.fact 21 (f := .glo "is_row_rights") rfl))⟩, ⟨_, _, F21, (He.glo_ok X G (c.d.fact 22 (f := .glo "need_rows_rights") rfl))⟩, ⟨_, _, F24, He.meth_ok (c.d.fact 85 (f := .meth "River" "is_down") rfl)⟩, ⟨_, _, F25, He.meth_ok (c.d.fact 86 (f := .meth "River" "way") rfl)⟩, ⟨_, _, F31, He.meth_ok (c.d.fact 89 (f := .meth "Rights" "_those_over") rfl)⟩, DW, S⟩
  have HH : Hf K mg := ⟨B, ⟨_, _, F35, (He.glo_ok X G (c.d.fact 27 (f := .glo "_law_take") rfl))⟩, ⟨_, _, F36, (He.glo_ok X G (c.d.fact 28 (f := .glo "_law_of") rfl))⟩, ⟨_, _, F37, (He.glo_ok X G (c.d.fact 29 (f := .glo "_law_mixed") rfl))⟩, ⟨_, _, F38, (He.glo_ok X G (c.d.fact 30 (f := .glo "_law_names") rfl))⟩⟩
  have hno := He.noat_ok (c.d.fact 71 (f := .noat "NoRight" "name") rfl)
  have O : OexC K (He.ga K "NoRight") := ⟨cls_ok2 hCl, He.eqO_ok e1, of_decide_eq_true e2, of_decide_eq_true e3, e4⟩
  have SF : SupF PP K mg (He.ga K "NoRight") "__init__" "NoRight.__init__" (defArgs sNoR) (defBody sNoR) (defScope sNoR) (He.ma K (He.ga K "NoRight") "__init__") fdn := ⟨⟨oc, od, doc, pm, cda, ct, cc, osl, en, lkn, cdn, fl, cl⟩, by decide +kernel, O, of_decide_eq_true e5, of_decide_eq_true e6, He.eqO_ok e7, He.eqO_ok e8, B.super⟩
  have NR : Nr PP K mg (He.ga K "NoRight") (He.ma K (He.ga K "NoRight") "__init__") fdn := ⟨SF, hno, He.eqO_ok e9, of_decide_eq_true e10, (He.glo_ok X G (c.d.fact 24 (f := .glo "NoRight") rfl))⟩
  have ER : Er K mg (He.ga K "NoRight") (He.ga K "WeirError") := ⟨⟨He.eqO_ok n1, He.eqO_ok n2, of_decide_eq_true e2, n3⟩, hno, (He.glo_ok X G (c.d.fact 25 (f := .glo "WeirError") rfl)), (He.glo_ok X G (c.d.fact 24 (f := .glo "NoRight") rfl)), He.exm_ok (c.d.fact 70 (f := .exm "NoRight" "NoRight" true) rfl)⟩
  have LN : Ln K (He.ga K "Rights") := ⟨⟨_, _, F29, s3, s3'⟩⟩
  exact ⟨tS, tM, tL, B, C, T, TG, ⟨_, _, F22, He.mkr_ok (c.d.fact 67 (f := .mkr "River") rfl)⟩, ⟨_, _, F27, He.mkr_ok (c.d.fact 69 (f := .mkr "Rights") rfl)⟩, ⟨_, _, F26, He.meth_ok (c.d.fact 87 (f := .meth "River" "rows") rfl)⟩, ⟨_, _, F30, He.meth_ok (c.d.fact 88 (f := .meth "Rights" "rows") rfl)⟩, ⟨_, _, F32, He.meth_ok (c.d.fact 90 (f := .meth "Rights" "way") rfl)⟩, ⟨_, _, F33, He.meth_ok (c.d.fact 91 (f := .meth "Rights" "passing") rfl)⟩, Mfr, Gg, LN, SG, D, ⟨_, _, NR⟩, ER, ⟨_, _, F2, (He.glo_ok X G (c.d.fact 2 (f := .glo "need_different") rfl))⟩, ⟨_, _, F3, (He.glo_ok X G (c.d.fact 3 (f := .glo "meet") rfl))⟩, ⟨_, _, F4, (He.glo_ok X G (c.d.fact 4 (f := .glo "pairs") rfl))⟩, ⟨_, _, F5, (He.glo_ok X G (c.d.fact 5 (f := .glo "line_pairs") rfl))⟩, ⟨_, _, F6, (He.glo_ok X G (c.d.fact 6 (f := .glo "_first_free") rfl))⟩, ⟨_, _, F7, (He.glo_ok X G (c.d.fact 7 (f := .glo "_line") rfl))⟩, ⟨_, _, F8, (He.glo_ok X G (c.d.fact 8 (f := .glo "turned") rfl))⟩, ⟨_, _, F9, (He.glo_ok X G (c.d.fact 9 (f := .glo "_ring_at") rfl))⟩, ⟨_, _, F10, (He.glo_ok X G (c.d.fact 10 (f := .glo "_first_ring") rfl))⟩, ⟨_, _, F11, (He.glo_ok X G (c.d.fact 11 (f := .glo "line_up") rfl))⟩, ⟨_, _, F34, (He.glo_ok X G (c.d.fact 26 (f := .glo "_law_bag") rfl))⟩, HH, ⟨_, _, F39, (He.glo_ok X G (c.d.fact 31 (f := .glo "_law_river") rfl))⟩, ⟨_, _, F40, (He.glo_ok X G (c.d.fact 32 (f := .glo "_law_course") rfl))⟩, ⟨_, _, F41, (He.glo_ok X G (c.d.fact 33 (f := .glo "_law_right_names") rfl))⟩, ⟨_, _, F42, (He.glo_ok X G (c.d.fact 34 (f := .glo "_law_rights") rfl))⟩, ⟨_, _, F43, (He.glo_ok X G (c.d.fact 35 (f := .glo "_law_way") rfl))⟩, ⟨_, _, F44, (He.glo_ok X G (c.d.fact 36 (f := .glo "_law_pairs") rfl))⟩, ⟨_, _, F45, (He.glo_ok X G (c.d.fact 37 (f := .glo "_law_ahead") rfl))⟩, ⟨_, _, F46, (He.glo_ok X G (c.d.fact 38 (f := .glo "_law_ring") rfl))⟩, ⟨_, _, F47, (He.glo_ok X G (c.d.fact 39 (f := .glo "_law_line") rfl))⟩, ⟨_, _, F48, (He.glo_ok X G (c.d.fact 40 (f := .glo "_law_up_right") rfl))⟩, ⟨_, _, F49, (He.glo_ok X G (c.d.fact 41 (f := .glo "_law_refused") rfl))⟩, ⟨_, _, F50, (He.glo_ok X G (c.d.fact 42 (f := .glo "_law_pairs_right") rfl))⟩⟩
theorem facts {w : World} {K : Frag} {h : Heap} {mg : Str → Option Value} {f : Addr} (X : K.In h) (G : h.Ns mainGlobals mg) (hfa : mg ("law" : Str) = some (.ref f)) (c : SaysY K) :
    ∃ fd : FuncData, (∀ (s : Shared) (v : Value), BindsTo s fd ⟨[v], []⟩ [("_law_script", v)]) ∧ ∀ base : Heap, K.In base → base.Ns mainGlobals mg → FnOk PP w K mg base CX0 12 f fd ["_law_script"] (spLaw K) := by
  obtain ⟨fd, fL⟩ := c.d.def_ 51 (d := dD "law" sLaw) rfl
  have e := hfa.symm.trans (He.glo_ok X G (c.d.fact 43 (f := .glo "law") rfl))
  cases e
  have F : FnP K "law" sLaw (He.ga K "law") fd := fL
  have b := FunD.bindsA (ps := ["_law_script"]) F fun _ _ _ _ _ _ us hl => match us, hl with | [_], _ => rfl
  exact ⟨fd, fun s v => b s [v] rfl, fun base _ _ => by
    obtain ⟨tS, tM, tL, hA⟩ := all_ok (w := w) (base := base) X G c
    exact ok_law F hA⟩
end K0H
open PySem PySem.W PySem.Calls PyProof.Rows
theorem PySem.Challenge.cw_weirkeepers_k09_whole_line_or_ring_holds : PySem.Challenge.rw_weirkeepers_k09_whole_line_or_ring.Holds := by
  w_on; o_law
  refine HandSHeadRun.head_any (r := OpenLaw.row PySem.Challenge.rw_weirkeepers_k09_whole_line_or_ring) (q := view (OpenLaw.row PySem.Challenge.rw_weirkeepers_k09_whole_line_or_ring).prog [62]) (H := K0H.hk 4) (ob := K0H.ob) (M := 6000) (loose := K0H.loose) (d := HandSHeadRun.topDef (OpenLaw.row PySem.Challenge.rw_weirkeepers_k09_whole_line_or_ring).prog 62) (kwd := []) K0H.ob_eq
    (by kernel_rfl) (fun s => by kernel_rfl) K0H.run (by kernel_rfl) (by kernel_rfl) (by kernel_rfl) (by rfl) (by first | assumption | decide +kernel) (by decide +kernel) ⟨rfl, rfl, rfl, rfl, rfl, by decide +kernel⟩ ?hw ?hc
  case hw => w_witness2
  case hc =>
    refine L2.walk_ofE (l := PySem.Challenge.rw_weirkeepers_k09_whole_line_or_ring) (n := 63) (k := 12) (x := "_law_script") (CX := L2.CX0) rfl (by decide) (by kernel_rfl) ⟨rfl, by decide, by decide⟩ ?F (fun _ _ _ _ z => z)
    intro w mg fa h Y G hmg0
    obtain ⟨K, KX, c⟩ := Y
    have hmg : mg ("law" : PySem.Str) = some (.ref fa) := by
      have e : (HandSHeadRun.topDef (OpenLaw.row PySem.Challenge.rw_weirkeepers_k09_whole_line_or_ring).prog 62).name = ("law" : PySem.Str) := by kernel_rfl
      rw [← e]
      exact hmg0
    obtain ⟨fd, hb, hF⟩ := K0H.facts (w := w) KX G hmg c
    exact ⟨K, fd, K0.spLaw K, KX, hb, fun H a ns hl _ hS => ⟨a, ns, rfl, hS, hl, fun _ => rfl⟩, hF⟩
end
