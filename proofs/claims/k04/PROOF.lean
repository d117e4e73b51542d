import PyProof.Rows.All
import Wide.All
import OpenK.AllK
import Wide.FinOn
import HandS.ForMost
import HandS.Defaults
import HandS.Walk
import PySem.Challenge.RW_weirkeepers_k04_whole_charts_read
import PySem.Str
import HandS.DictComp
import HandS.IsInst
import HandS.Flow
import KE.GoesEnum
import HandS.TupSets
import HandS.IterVal
import HandS.OwnEq
import KE.KOwnIter
import HandS.TupAny
import HandS.Strs
import KE.GoesMore
import PyProof.FString
import PyProof.FString4
import HandS.FStr
import HandS.FStrTup
import PyProof.ReprHeadsEmpty
import PyProof.ReprLen
import HandS.ExcInit
import HandS.Nested
import KE.KSuper
import KE.KExcSuper
import HandS.ExcIs
import HandS.ExcField
import HandS.TryOnly
import KE.KExcIs
import HandS.TryMany
import HandS.Deep
import HandS.StrMore
import HandS.Text
import PyProof.Rows.StrPins3
import PyProof.P3In
import PyProof.InstEq
import HandS.HeadHook3
import KE.KStateDown
import Lean
import HandS.Ends
import HandS.More
import HandS.Words
import HandS.WordsExc
import HandS.Head0
import HandS.Head1
import HandS.Head2
import HandS.HeadEnd
import HandS.HeadHook1
import HandS.HeadHook2
import HandS.HeadHook4
import HandS.HeadWalk

section
set_option Elab.async false
set_option linter.all false
set_option maxRecDepth 100000
namespace K0
open PySem PySem.Spec PyProof.Rows L2
/-! ### the text by places -/
def top (i : Nat) : Stmt := PySem.Challenge.pw_weirkeepers_k04_whole_charts_read.main.body.getD i (.Pass ⟨0, 0, 0, 0⟩)
abbrev sNeed : Stmt := top 10
abbrev sNeedR : Stmt := top 11
abbrev sIsName : Stmt := top 16
abbrev sIsRow : Stmt := top 17
abbrev sNeedRows : Stmt := top 19
abbrev sCourse : Stmt := top 21
abbrev sFind : Stmt := top 22
abbrev sAbove : Stmt := top 23
abbrev sUp : Stmt := top 24
abbrev sOrder : Stmt := top 25
abbrev sRiver : Stmt := top 26
abbrev sIsRowR : Stmt := top 28
abbrev sNeedRowsR : Stmt := top 30
abbrev sRights : Stmt := top 32
abbrev sBag : Stmt := top 43
abbrev sTake : Stmt := top 44
abbrev sOf : Stmt := top 45
abbrev sMixed : Stmt := top 46
abbrev sNames : Stmt := top 47
abbrev sLRiver : Stmt := top 48
abbrev sLCourse : Stmt := top 49
abbrev sRNames : Stmt := top 50
abbrev sLRights : Stmt := top 51
abbrev sLWay : Stmt := top 52
abbrev sLIsName : Stmt := top 53
abbrev sLIsPair : Stmt := top 54
abbrev sLWrongRiver : Stmt := top 55
abbrev sLIsRight : Stmt := top 56
abbrev sLWrongRights : Stmt := top 57
abbrev sLLines : Stmt := top 58
abbrev sLBent : Stmt := top 59
abbrev sLSpoilt : Stmt := top 60
abbrev sLDue : Stmt := top 61
abbrev sLTold : Stmt := top 62
abbrev sLTable : Stmt := top 63
abbrev sLChart : Stmt := top 64
abbrev sLaw : Stmt := top 65
abbrev sIsWritten : Stmt := top 36
abbrev sReadChart : Stmt := top 37
abbrev sWriteChart : Stmt := top 38
abbrev sMark : Stmt := top 39
abbrev sTableLine : Stmt := top 40
abbrev sChartTable : Stmt := top 41
abbrev FnP (K : PySem.W.Frag) (x : Str) (st : Stmt) (f : Addr) (fd : FuncData) : Prop := FunD K x x (defArgs st) (defBody st) (defScope st) [] [] f fd
abbrev FnM (K : PySem.W.Frag) (x q : Str) (st : Stmt) (f : Addr) (fd : FuncData) : Prop := FunD K x q (defArgs st) (defBody st) (defScope st) [] [] f fd
/-! ### heaps -/
/-- all that was tracked is as it was, but what stands at p -/
def Upto (p : Addr) (H H' : Hp) : Prop := ∀ b o, H b = some o → b ≠ p → H' b = some o
theorem Upto.refl {p : Addr} {H : Hp} : Upto p H H := fun _ _ h _ => h
theorem Upto.trans {p : Addr} {H H1 H2 : Hp} (a : Upto p H H1) (b : Upto p H1 H2) : Upto p H H2 := fun c o h n => b c o (a c o h n) n
theorem Upto.of {p : Addr} {H H' : Hp} (s : Same H H') : Upto p H H' := fun b o h _ => s b o h
theorem Upto.at_ {p : Addr} {H : Hp} {o : HO} : Upto p H (upd H p o) := fun b u h n => by rw [upd_ne n]; exact h
theorem same_upd {H : Hp} {p : Addr} {o : HO} (h : H p = none) : Same H (upd H p o) := fun b x e => by
  rw [upd_ne (ne_of_none e h)]
  exact e
theorem Upto.seq {K : PySem.W.Frag} {p : Addr} {H H' : Hp} {a : Addr} {xs : List V} (e : Upto p H H') (n : a ≠ p) (h : SqL K H a xs) : SqL K H' a xs := by
  rcases h with (h | ⟨o, h⟩) | h
  · exact .inl (.inl (e _ _ h n))
  · exact .inl (.inr ⟨o, e _ _ h n⟩)
  · exact .inr h
/-- the bag: two whole numbers from 0 on -/
def BagV (xs : List V) : Prop := ∃ x y : Int, xs = [.int x, .int y] ∧ 0 ≤ x ∧ 0 ≤ y ∧ y < 2147483648
def BagAt (H : Hp) (p : Addr) : Prop := ∃ xs, H p = some (.lst xs) ∧ BagV xs
/-! ### promises of the law's own helpers -/
def spBag (K : PySem.W.Frag) : Sp := fun vs H Q _ => ∃ (a : Addr) (ns : List Int) (i z : Int), vs = [.ref a, .int i, .int z] ∧ SqL K H a (ns.map V.int) ∧ ns.length ≤ 63 ∧ 0 ≤ i ∧ i ≤ 100 ∧ 0 ≤ z ∧ z ≤ 100000000 ∧
  ∀ H' p, Same H H' → H p = none → BagAt H' p → Q (.ref p) H'
def spTake : Sp := fun vs H Q _ => ∃ (p : Addr) (m : Int), vs = [.ref p, .int m] ∧ BagAt H p ∧ 0 < m ∧ m < 1000000 ∧
  ∀ (r : Int) (xs : List V), 0 ≤ r → r < m → BagV xs → Q (.int r) (upd H p (.lst xs))
def spOf (K : PySem.W.Frag) : Sp := fun vs H Q _ => ∃ (p a : Addr) (ys : List V), vs = [.ref p, .ref a] ∧ BagAt H p ∧ a ≠ p ∧ SqL K H a ys ∧ 0 < ys.length ∧ ys.length ≤ 1000 ∧
  ∀ (i : Nat) (v : V) (xs : List V), ys[i]? = some v → BagV xs → Q v (upd H p (.lst xs))
def spMixed (K : PySem.W.Frag) : Sp := fun vs H Q _ => ∃ (p a : Addr) (ys : List V), vs = [.ref p, .ref a] ∧ BagAt H p ∧ a ≠ p ∧ SqL K H a ys ∧ ys.length ≤ 1000 ∧
  ∀ (H' : Hp) (l : Addr) (zs : List V), Upto p H H' → BagAt H' p → H l = none → l ≠ p → H' l = some (.lst zs) → zs.Perm ys → Q (.ref l) H'
section
variable {P : Program} {w : World} {K : PySem.W.Frag} {mg : Str → Option Value} {base : Heap}
theorem scBag : FnScope ["_law_script", "_law_at", "_law_salt", "_law_cell", "_law_blend", "_law_k", "_law_each"] ["_law_script", "_law_at", "_law_salt"] (defScope sBag) := ⟨rfl, rfl, rfl, by decide +kernel, rfl, by decide +kernel, by decide +kernel⟩
theorem scTake : FnScope ["_law_bag_here", "_law_many", "_law_digit"] ["_law_bag_here", "_law_many"] (defScope sTake) := ⟨rfl, rfl, rfl, by decide +kernel, rfl, by decide +kernel, by decide +kernel⟩
theorem scOf : FnScope ["_law_bag_here", "_law_some"] ["_law_bag_here", "_law_some"] (defScope sOf) := ⟨rfl, rfl, rfl, by decide +kernel, rfl, by decide +kernel, by decide +kernel⟩
theorem scMixed : FnScope ["_law_bag_here", "_law_some", "_law_rest", "_law_found", "_law_k"] ["_law_bag_here", "_law_some"] (defScope sMixed) := ⟨rfl, rfl, rfl, by decide +kernel, rfl, by decide +kernel, by decide +kernel⟩
/-- built-in names that the module leaves alone -/
structure Bl (mg : Str → Option Value) : Prop where
  len : mg "len" = none
  enumerate : mg "enumerate" = none
  int : mg "int" = none
  abs : mg "abs" = none
  list : mg "list" = none
  range : mg "range" = none
  dict : mg "dict" = none
  tuple : mg "tuple" = none
  isinstance : mg "isinstance" = none
  str : mg "str" = none
  all : mg "all" = none
  any : mg "any" = none
  bool : mg "bool" = none
  sorted : mg "sorted" = none
  max : mg "max" = none
  min : mg "min" = none
  iter : mg "iter" = none
  super : mg "super" = none
  valueError : mg "ValueError" = none
end
end K0
end
section
set_option Elab.async false
set_option linter.all false
set_option maxRecDepth 100000
namespace K0
open PySem PySem.Spec PyProof.Rows L2
section
variable {P : Program} {w : World} {K : PySem.W.Frag} {mg : Str → Option Value} {base : Heap}
theorem mod_ok (x : Int) {m : Int} (h : 0 < m) : 0 ≤ x % m ∧ x % m < m := ⟨Int.emod_nonneg _ (by omega), Int.emod_lt_of_pos _ h⟩
theorem perm_move {α : Type} {rs fs : List α} {j : Nat} (hj : j < rs.length) : (rs.eraseIdx j ++ (fs ++ [rs[j]])).Perm (rs ++ fs) := by
  have h1 : (rs[j] :: rs.eraseIdx j).Perm rs := by
    have e : rs = rs.take j ++ rs[j] :: rs.drop (j + 1) := by
      rw [List.getElem_cons_drop, List.take_append_drop]
    rw [List.eraseIdx_eq_take_drop_succ]
    refine List.Perm.trans List.perm_middle.symm ?_
    rw [← e]
  have h2 : (rs.eraseIdx j ++ (fs ++ [rs[j]])).Perm ([rs[j]] ++ (rs.eraseIdx j ++ fs)) := by
    rw [← List.append_assoc]
    exact List.perm_append_comm
  exact h2.trans ((h1.append_right fs))
theorem ok_take {f : Addr} {fd : FuncData} (F : FnP K "_law_take" sTake f fd) (B : Bl mg) : FnOk P w K mg base CX0 1 f fd ["_law_bag_here", "_law_many"] spTake := by
  refine F.ok scTake (fun vs H Q E h => ?_) (fun cdv A outer s H vs Q E hr h => ?_)
  · obtain ⟨p, m, rfl, _⟩ := h
    rfl
  · obtain ⟨p, m, rfl, ⟨xs, hp, x, y, rfl, hx, hy, hy2⟩, hm, hm2, k⟩ := h
    refine ⟨_, PSs.nox (pss_cons (ps_if (pt_cmpR op_gt (pe_ix ix_list (pv 0) pe_int (fun _ _ => rfl)) pe_int (nomark _))
        (pss_cons (ps_set (i := 2) scTake.nd rfl (Or.inl rfl) (pe_op op_mod (pe_callTy call_int1 (by rfl) B.int (by decide +kernel) (pa_cons (pe_ix ix_list (pv 0) pe_int (fun _ _ => rfl)) pa_nil)) (pv 1)))
        (pss_cons (ps_asg (pe_op op_fdiv (pe_ix ix_list (pv 0) pe_int (fun _ _ => rfl)) (pv 1)) (pg_sub (pv 0) pe_int set_list))
        (pss_one (ps_ret (pv 2))))) pss_nil)
      (pss_cons (ps_asg (pe_op op_mod (pe_callTy call_int1 (by rfl) B.int (by decide +kernel) (pa_cons (pe_op op_add (pe_op op_mul (pe_ix ix_list (pv 0) pe_int (fun _ _ => rfl)) pe_int) pe_int) pa_nil)) pe_int) (pg_sub (pv 0) pe_int set_list))
      (pss_one (ps_ret (pe_op op_mod (pe_op op_fdiv (pe_op op_mod (pe_callTy call_int1 (by rfl) B.int (by decide +kernel) (pa_cons (pe_op op_mul (pe_op op_fdiv (pe_ix ix_list (pv 0) pe_int (fun _ _ => rfl)) pe_int) pe_int) pa_nil)) pe_int) pe_int) (pv 1)))))), ?_⟩
    have g0 : SqL K H p [.int x, .int y] := .inl (.inl hp)
    refine ⟨_, rfl, p, _, _, _, rfl, rfl, g0, atI_nat (j := 0) rfl, x, 0, rfl, rfl, _, rfl, ?_⟩
    refine ite2 (fun hx0 => ?_) (fun hx0 => ?_)
    · have r1 := mod_ok x hm
      refine ⟨_, rfl, p, _, _, _, rfl, rfl, g0, atI_nat (j := 0) rfl, .inl ⟨x, rfl, _, rfl, x, m, rfl, rfl, hm, ?_⟩⟩
      refine ⟨_, rfl, p, _, _, _, rfl, rfl, g0, atI_nat (j := 0) rfl, _, rfl, x, m, rfl, rfl, ⟨hm, by omega⟩, _, rfl, p, _, 0, 0, rfl, rfl, hp, rfl, ?_⟩
      refine ⟨_, rfl, ?_⟩
      exact k (x % m) [.int (x / m), .int y] r1.1 r1.2 ⟨x / m, y, rfl, Int.ediv_nonneg hx (by omega), hy, hy2⟩
    · have r1 := mod_ok (y * 38177 + 4001) (m := 2147483587) (by decide)
      refine ⟨_, rfl, p, _, _, _, rfl, rfl, g0, atI_nat (j := 1) rfl, y, 38177, rfl, rfl, .inl ⟨by omega, by omega⟩, _, _, rfl, rfl, .inl ⟨_, rfl, _, _, rfl, rfl, (by show (0 : Int) < 2147483587; decide), _, rfl, p, _, 1, 1, rfl, rfl, hp, rfl, ?_⟩⟩
      have gz : (upd H p (.lst (([V.int x, .int y] : List V).set 1 (.int ((y * 38177 + 4001) % 2147483587))))) p = some (.lst [.int x, .int ((y * 38177 + 4001) % 2147483587)]) := upd_same
      refine ⟨_, rfl, p, _, _, _, rfl, rfl, .inl (.inl gz), atI_nat (j := 1) rfl, _, 11, rfl, rfl, ⟨by decide, by decide⟩, _, 52817, rfl, rfl, .inl ⟨by omega, by omega⟩, .inl ⟨_, rfl, _, _, rfl, rfl, (by show (0 : Int) < 2147483629; decide), _, _, rfl, rfl, ⟨by decide, by decide⟩, _, rfl, _, m, rfl, rfl, hm, ?_⟩⟩
      have r2 := mod_ok ((y * 38177 + 4001) % 2147483587 / 11 * 52817 % 2147483629 / 32) hm
      exact k _ _ r2.1 r2.2 ⟨x, _, rfl, hx, r1.1, by omega⟩
theorem ok_of {f fT : Addr} {fd fdT : FuncData} (F : FnP K "_law_of" sOf f fd) (FT : FnP K "_law_take" sTake fT fdT) (B : Bl mg) (gT : mg "_law_take" = some (.ref fT)) : FnOk P w K mg base CX0 2 f fd ["_law_bag_here", "_law_some"] (spOf K) := by
  have GT : FnOk P w K mg base CX0 1 fT fdT ["_law_bag_here", "_law_many"] spTake := ok_take FT B
  have bT : Binds K fdT ["_law_bag_here", "_law_many"] [] := FT.bindsN fun _ _ _ _ _ _ us hl => match us, hl with | [_, _], _ => rfl
  refine F.ok scOf (fun vs H Q E h => ?_) (fun cdv A outer s H vs Q E hr h => ?_)
  · obtain ⟨p, a, ys, rfl, _⟩ := h
    rfl
  · obtain ⟨p, a, ys, rfl, hB, hne, hS, h0, h1, k⟩ := h
    refine ⟨_, PSs.nox (pss_one (ps_ret (pe_ix ix_list (pv 1) (pe_call GT hr (by rfl) gT FT.kp bT .nil pass0 (pa_cons (pv 0) (pa_cons (pe_callB call_len_seq (by rfl) B.len PySem.boot_len (pa_cons (pv 1) pa_nil)) pa_nil))) (fun _ _ => rfl)))), ?_⟩
    refine ⟨_, rfl, _, rfl, _, rfl, a, ys, rfl, .inl hS, p, (ys.length : Int), rfl, hB, by omega, by omega, fun r xs hr0 hr1 hx => ?_⟩
    obtain ⟨j, rfl⟩ : ∃ j : Nat, r = (j : Int) := ⟨r.toNat, by omega⟩
    have hj : j < ys.length := by omega
    refine ⟨a, ys, _, ys[j], rfl, rfl, ?_, atI_nat (j := j) (List.getElem?_eq_getElem hj), k j _ xs (List.getElem?_eq_getElem hj) hx⟩
    exact (Upto.at_ (p := p)).seq hne hS
theorem ok_mixed {f fT : Addr} {fd fdT : FuncData} (F : FnP K "_law_mixed" sMixed f fd) (FT : FnP K "_law_take" sTake fT fdT) (B : Bl mg) (gT : mg "_law_take" = some (.ref fT)) : FnOk P w K mg base CX0 2 f fd ["_law_bag_here", "_law_some"] (spMixed K) := by
  have GT : FnOk P w K mg base CX0 1 fT fdT ["_law_bag_here", "_law_many"] spTake := ok_take FT B
  have bT : Binds K fdT ["_law_bag_here", "_law_many"] [] := FT.bindsN fun _ _ _ _ _ _ us hl => match us, hl with | [_, _], _ => rfl
  refine F.ok scMixed (fun vs H Q E h => ?_) (fun cdv A outer s H vs Q E hr h => ?_)
  · obtain ⟨p, a, ys, rfl, _⟩ := h
    rfl
  · obtain ⟨p, a, ys, rfl, hB, hne, hS, h1, k⟩ := h
    refine ⟨_, PSs.nox (pss_cons (ps_par (i := 2) (j := 3) (by rfl) scMixed.nd rfl rfl (by decide) rfl rfl (pa_cons (pe_callTy call_list_of (by rfl) B.list (by decide +kernel) (pa_cons (pv 1) pa_nil)) (pa_cons (pe_lst pa_nil) pa_nil)) (by rfl))
      (pss_cons (ps_for PassesOwn.never rfl (pi_range1 (by rfl) B.range (pa_cons (pe_callB call_len_seq (by rfl) B.len PySem.boot_len (pa_cons (pv 1) pa_nil)) pa_nil)) (pg_name (i := 4) scMixed.nd rfl (Or.inl rfl))
        (pss_one (ps_expr (pe_bm PySem.F.plainAttrs_list PySem.F.slot_list_append PySem.F.type_list_append mt_append (pv 3)
          (pa_cons (pe_bm PySem.F.plainAttrs_list PySem.F.slot_list_pop PySem.F.type_list_pop mt_popAt (pv 2)
            (pa_cons (pe_call GT hr (by rfl) gT FT.kp bT .nil pass0 (pa_cons (pv 0) (pa_cons (pe_callB call_len_seq (by rfl) B.len PySem.boot_len (pa_cons (pv 2) pa_nil)) pa_nil))) pa_nil)) pa_nil)))))
      (pss_one (ps_ret (pv 3))))), ?_⟩
    refine ⟨_, rfl, a, ys, rfl, .inl hS, fun r nr => ⟨Nat.zero_le _, fun l nl => ?_⟩⟩
    have nrl : r ≠ l := ne_of_none upd_same nl
    have nl0 : H l = none := by
      rw [upd_ne nrl.symm] at nl
      exact nl
    obtain ⟨b0, hb0, hv0⟩ := id hB
    have npr : p ≠ r := ne_of_none hb0 nr
    have npl : p ≠ l := ne_of_none hb0 nl0
    have s1 : Same H (upd (upd H r (.lst ys)) l (.lst [])) := (same_upd nr).trans (same_upd nl)
    refine ⟨_, _, rfl, ?_⟩
    refine ⟨_, rfl, a, ys, rfl, .inl (s1.seq hS), (ys.length : Int), rfl, by omega, by omega, ?_⟩
    refine for_range (n := ys.length) (lo := 0) (fun i σ H2 => ∃ (v : Option V) (rs fs : List V), σ = [some (.ref p), some (.ref a), some (.ref r), some (.ref l), v] ∧ Upto p H H2 ∧ BagAt H2 p ∧ H2 r = some (.lst rs) ∧ H2 l = some (.lst fs) ∧ fs.length = i ∧ (rs ++ fs).Perm ys)
      ⟨none, ys, [], rfl, .of s1, ⟨b0, by rw [upd_ne npl, upd_ne npr]; exact hb0, hv0⟩, by rw [upd_ne nrl, upd_same], upd_same, rfl, by rw [List.append_nil]⟩ ?_ ?_
    · rintro i σ H2 hi ⟨v, rs, fs, rfl, u2, B2, hr2, hl2, hlen, hp⟩
      have hlr : rs.length + fs.length = ys.length := by
        have := hp.length_eq
        rw [List.length_append] at this
        exact this
      refine ⟨_, rfl, .inl ⟨rfl, _, .inl (.inl hl2)⟩, _, rfl, .inl ⟨rfl, _, .inl (.inl hr2)⟩, _, rfl, _, rfl, r, rs, rfl, .inl (.inl (.inl hr2)), p, (rs.length : Int), rfl, B2, by omega, by omega, fun d xs hd0 hd1 hx => ?_⟩
      obtain ⟨j, rfl⟩ : ∃ j : Nat, d = (j : Int) := ⟨d.toNat, by omega⟩
      have hj : j < rs.length := by omega
      refine ⟨r, rs, j, j, rs[j], rfl, rfl, by rw [upd_ne npr.symm]; exact hr2, by omega, by omega, ?_, List.getElem?_eq_getElem hj, ?_⟩
      · rw [seqIndex_of (by omega) (by omega)]
        rfl
      · refine ⟨l, fs, rs[j], rfl, rfl, by rw [upd_ne nrl.symm, upd_ne npl.symm]; exact hl2, small1000 (by omega), ?_⟩
        refine ⟨_, rs.eraseIdx j, fs ++ [rs[j]], rfl, ?_, ⟨xs, by rw [upd_ne npl, upd_ne npr, upd_same], hx⟩, by rw [upd_ne nrl, upd_same], upd_same, by simp [hlen], ?_⟩
        · intro b o hb hn
          rw [upd_ne (ne_of_none hb nl0), upd_ne (ne_of_none hb nr), upd_ne hn]
          exact u2 b o hb hn
        · refine List.Perm.trans ?_ hp
          exact perm_move hj
    · rintro σ H2 ⟨v, rs, fs, rfl, u2, B2, hr2, hl2, hlen, hp⟩
      have hlr : rs.length + fs.length = ys.length := by
        have := hp.length_eq
        rw [List.length_append] at this
        exact this
      have e : rs = [] := List.eq_nil_of_length_eq_zero (by omega)
      subst e
      exact ⟨_, rfl, k H2 l fs u2 B2 nl0 npl.symm hl2 hp⟩
end
end K0
end
section
set_option Elab.async false
set_option linter.all false
set_option maxRecDepth 100000
namespace K0
open PySem PySem.Spec PyProof.Rows L2
theorem split_if {α : Type} {C : α → Prop} {G : Prop} (use : (∀ c, C c) → G) (key : ∀ c, C c) : G := use key
section
variable {P : Program} {w : World} {K : PySem.W.Frag} {mg : Str → Option Value} {base : Heap}
theorem cutV_sub {xs : List V} {a b : Option Int} {v : V} (h : v ∈ cutV xs a b) : v ∈ xs := by
  unfold cutV at h
  exact List.mem_of_mem_drop (List.mem_of_mem_take h)
theorem cutV_len {xs : List V} {a b : Option Int} : (cutV xs a b).length ≤ xs.length := by
  unfold cutV
  rw [List.length_take, List.length_drop]
  omega
theorem ok_bag {f : Addr} {fd : FuncData} (F : FnP K "_law_bag" sBag f fd) (B : Bl mg) : FnOk P w K mg base CX0 1 f fd ["_law_script", "_law_at", "_law_salt"] (spBag K) := by
  refine F.ok scBag (fun vs H Q E h => ?_) (fun cdv A outer s H vs Q E hr h => ?_)
  · obtain ⟨a, ns, i, z, rfl, _⟩ := h
    rfl
  · obtain ⟨a, ns, i, z, rfl, hS, hl, hi, hi2, hz, hz2, k⟩ := h
    refine ⟨_, PSs.nox (pss_cons
      (ps_set (i := 3) scBag.nd rfl (Or.inl rfl) (pe_ifExp (pt_cmpR op_lt (pv 1) (pe_callB call_len_seq (by rfl) B.len PySem.boot_len (pa_cons (pv 0) pa_nil)) (nomark _)) (pe_ix ix_list (pv 0) (pv 1) (fun _ _ => rfl)) pe_int))
      (pss_cons
      (ps_set (i := 4) scBag.nd rfl (Or.inl rfl) (pe_op op_add (pv 2) (pe_op op_mul pe_int (pv 1))))
      (pss_cons
      (ps_for PassesOwn.never rfl (pi_enum (by rfl) B.enumerate (pa_cons (pe_slice sl_list (pv 0) po_none (po_some pe_int)) pa_nil)) (pg_tup (by rfl) (pgs_cons (pg_name (i := 5) scBag.nd rfl (Or.inl rfl)) (pgs_cons (pg_name (i := 6) scBag.nd rfl (Or.inl rfl)) pgs_nil))) (pss_one
      (ps_set (i := 4) scBag.nd rfl (Or.inl rfl) (pe_op op_mod (pe_callTy call_int1 (by rfl) B.int (by decide +kernel) (pa_cons (pe_op op_add (pe_op op_add (pe_op op_add (pe_op op_mul (pv 4) pe_int) (pe_op op_mod (pe_callTy call_int1 (by rfl) B.int (by decide +kernel) (pa_cons (pv 6) pa_nil)) pe_int)) (pe_op op_mul pe_int (pv 5))) pe_int) pa_nil)) pe_int))))
      (pss_one
      (ps_ret (pe_lst (pa_cons (pe_ifExp (pt_cmpR op_ge (pe_callB call_abs (by rfl) B.abs (by decide +kernel) (pa_cons (pv 3) pa_nil)) (pe_op op_pow pe_int pe_int) (nomark _)) (pe_callB call_abs (by rfl) B.abs (by decide +kernel) (pa_cons (pv 3) pa_nil)) pe_int) (pa_cons (pv 4) pa_nil)))))))), ?_⟩
    refine ⟨_, rfl, _, rfl, a, _, rfl, .inl hS, i, (((ns.map V.int).length : Nat) : Int), rfl, rfl, _, rfl, ?_⟩
    refine split_if (α := Int) (C := ?C) ?use ?key
    case use =>
      intro key
      refine ite2 (fun hc => ?_) (fun hc => ?_)
      · have hc := of_decide_eq_true hc
        obtain ⟨j, ej⟩ : ∃ j : Nat, i = (j : Int) := ⟨i.toNat, by omega⟩
        rw [List.length_map] at hc
        have hj : j < ns.length := by omega
        obtain ⟨c, hcv⟩ : ∃ c : Int, (ns.map V.int)[j]? = some (.int c) := ⟨ns[j], by rw [List.getElem?_map, List.getElem?_eq_getElem hj]; rfl⟩
        refine ⟨_, rfl, _, rfl, a, _, _, _, rfl, rfl, hS, at_of ej hcv, ?_⟩
        exact key c
      · exact key 0
    case key =>
      intro c
      refine ⟨_, rfl, _, rfl, 1009, i, rfl, rfl, .inl ⟨by decide, by decide⟩, z, _, rfl, rfl, ?_⟩
      refine ⟨_, rfl, 63, rfl, a, _, rfl, hS, fun q nq => ⟨q, _, rfl, .inl (.inl upd_same), ?_⟩⟩
      refine for_it (walk_enum (xs := cutV (ns.map V.int) none (some 63))) (fun t σ H2 => ∃ (b : Int) (v1 v2 : Option V), σ = [some (.ref a), some (.int i), some (.int z), some (.int c), some (.int b), v1, v2] ∧ 0 ≤ b ∧ b < 2147483648 ∧ Same H H2 ∧ H2 q = some (.lst (cutV (ns.map V.int) none (some 63))))
        ⟨_, none, none, rfl, by omega, by omega, same_upd nq, upd_same⟩ (fun _ _ _ _ h => by obtain ⟨_, _, _, _, _, _, _, e⟩ := h; exact .inl (.inl e)) ?_ ?_
      · rintro t x σ H2 H3 ht ⟨b, v1, v2, rfl, hb0, hb1, sm, hq⟩ ⟨T, x1, x2, rfl, hT, rfl, e1, e2⟩
        have nq2 : q ≠ T := ne_of_none hq hT
        have ex1 : x1 = .int (t : Int) := (Option.some.inj e1).symm
        have hx2 : ∃ y : Int, x2 = .int y := by
          obtain ⟨y, _, ey⟩ := List.mem_map.mp (cutV_sub (List.mem_of_getElem? e2))
          exact ⟨y, ey.symm⟩
        obtain ⟨y, rfl⟩ := hx2
        subst ex1
        have ht' : t < 63 := by
          have h1 := cutV_len (xs := ns.map V.int) (a := none) (b := some 63)
          rw [List.length_map] at h1
          omega
        have r1 := mod_ok y (m := 2147483549) (by decide)
        have r2 := mod_ok (b * 44497 + y % 2147483549 + 71 * (t : Int) + 9) (m := 2147483549) (by decide)
        refine ⟨T, _, rfl, .inl (.inl upd_same), rfl, _, _, rfl, _, _, rfl, rfl, ?_⟩
        refine ⟨_, rfl, b, 44497, rfl, rfl, .inl ⟨by omega, by omega⟩, _, rfl, .inl ⟨y, rfl, _, _, rfl, rfl, (by show (0 : Int) < 2147483549; decide), _, _, rfl, rfl, ?_⟩⟩
        refine ⟨_, rfl, 71, (t : Int), rfl, rfl, .inl ⟨by decide, by decide⟩, _, _, rfl, rfl, _, _, rfl, rfl, .inl ⟨_, rfl, _, _, rfl, rfl, (by show (0 : Int) < 2147483549; decide), ?_⟩⟩
        refine ⟨_, _, _, rfl, r2.1, by omega, sm.trans (same_upd hT), ?_⟩
        rw [upd_ne nq2]
        exact hq
      · rintro σ H2 ⟨b, v1, v2, rfl, hb0, hb1, sm, hq⟩
        refine ⟨_, rfl, c, rfl, 10, 18, rfl, rfl, ⟨by decide, by decide, by decide⟩, _, _, rfl, rfl, _, rfl, ?_⟩
        have fin : ∀ (g : Int) (p : Addr), 0 ≤ g → H2 p = none → Q (.ref p) (upd H2 p (.lst [.int g, .int b])) := fun g p hg np =>
          k _ p (sm.trans (same_upd np)) (sm.free np) ⟨_, upd_same, g, b, rfl, hg, hb0, hb1⟩
        refine ite2 (fun _ => ?_) (fun _ => ?_)
        · refine ⟨_, rfl, c, rfl, _, rfl, by show 2 ≤ sizeLine; decide, fun p np => ?_⟩
          exact fin _ p (by split <;> omega) np
        · refine ⟨_, rfl, by show 2 ≤ sizeLine; decide, fun p np => ?_⟩
          exact fin 0 p (by omega) np
end
end K0
end
section
set_option linter.all false
namespace K0
open PySem
/-! ### names -/
def Low (c : Nat) : Prop := 97 ≤ c ∧ c ≤ 122
structure NameOk (x : Str) : Prop where
  one : 1 ≤ x.cps.toList.length
  most : x.cps.toList.length ≤ 8
  low : ∀ c ∈ x.cps.toList, Low c
theorem str_ext {x y : Str} (h : x.cps.toList = y.cps.toList) : x = y := by
  cases x with | mk a => cases y with | mk b =>
  have e : a = b := Array.ext' h
  rw [e]
theorem app_list (x y : Str) : (x ++ y).cps.toList = x.cps.toList ++ y.cps.toList := Array.toList_append
/-- the k-th mark, many names being asked for -/
def markL (many start k : Nat) : List Nat := [97 + (start + 5 * k) % 26] ++ (if 26 < many then [97 + k / 26] else [])
def shapeL (base mark : List Nat) (k : Nat) : Nat → List Nat
  | 0 => base ++ mark
  | 1 => mark ++ base
  | 2 => mark ++ base.take (k % (base.length + 1))
  | _ => base.take 1 ++ mark ++ base.drop 1
def seaL : List Nat := [115, 101, 97]
def seasL : List Nat := [115, 101, 97, 115]
def fixL (l : List Nat) : List Nat := if l = seaL then seasL else l
theorem markL_len (many start k : Nat) : (markL many start k).length = if 26 < many then 2 else 1 := by
  unfold markL
  split <;> rfl
theorem markL_inj {many start k j : Nat} (hm : many ≤ 52) (hk : k < many) (hj : j < many) (h : markL many start k = markL many start j) : k = j := by
  unfold markL at h
  have h1 := (List.cons_eq_cons.mp h).1
  by_cases c : 26 < many
  · have h2 := (List.cons_eq_cons.mp h).2
    rw [if_pos c, if_pos c] at h2
    have h3 := (List.cons_eq_cons.mp h2).1
    omega
  · omega
theorem markL_low {many start k : Nat} (hm : many ≤ 52) (hk : k < many) : ∀ c ∈ markL many start k, Low c := by
  intro c hc
  unfold markL at hc
  rcases List.mem_append.mp hc with h | h
  · rw [List.mem_singleton.mp h]
    constructor <;> omega
  · split at h
    · rw [List.mem_singleton.mp h]
      constructor <;> omega
    · cases h
theorem shape_mark {base m1 m2 : List Nat} {k j : Nat} {s : Nat} (hl : m1.length = m2.length) (h : shapeL base m1 k s = shapeL base m2 j s) : m1 = m2 := by
  match s, h with
  | 0, h => exact List.append_cancel_left h
  | 1, h => exact List.append_cancel_right h
  | 2, h => exact List.append_inj_left h hl
  | s + 3, h =>
    have h : base.take 1 ++ m1 ++ base.drop 1 = base.take 1 ++ m2 ++ base.drop 1 := h
    exact List.append_cancel_left (List.append_cancel_right h)
theorem shape_len {base m1 m2 : List Nat} {k j : Nat} {s : Nat} (hl : m1.length = m2.length) (hs : s ≠ 2) : (shapeL base m1 k s).length = (shapeL base m2 j s).length := by
  match s, hs with
  | 0, _ => simp [shapeL, hl]
  | 1, _ => simp [shapeL, hl]
  | s + 3, _ => simp [shapeL, hl]
theorem fix_mark {base : List Nat} {many start k j s : Nat} (h : fixL (shapeL base (markL many start k) k s) = fixL (shapeL base (markL many start j) j s)) : markL many start k = markL many start j := by
  have hl : (markL many start k).length = (markL many start j).length := by rw [markL_len, markL_len]
  have mixed : ∀ {k j : Nat}, shapeL base (markL many start k) k s = seaL → shapeL base (markL many start j) j s = seasL → markL many start k = markL many start j := by
    intro k j e1 e2
    have hl : (markL many start k).length = (markL many start j).length := by rw [markL_len, markL_len]
    by_cases hs : s = 2
    · subst hs
      have e1 : markL many start k ++ base.take (k % (base.length + 1)) = seaL := e1
      have e2 : markL many start j ++ base.take (j % (base.length + 1)) = seasL := e2
      have t1 : markL many start k = seaL.take (markL many start k).length := by rw [← e1, List.take_left']; rfl
      have t2 : markL many start j = seasL.take (markL many start j).length := by rw [← e2, List.take_left']; rfl
      rw [t1, t2, ← hl, markL_len]
      split <;> rfl
    · have q := shape_len (base := base) (k := k) (j := j) hl hs
      rw [e1, e2] at q
      exact absurd q (by decide)
  unfold fixL at h
  by_cases c1 : shapeL base (markL many start k) k s = seaL
  · rw [if_pos c1] at h
    by_cases c2 : shapeL base (markL many start j) j s = seaL
    · exact shape_mark hl (c1.trans c2.symm)
    · rw [if_neg c2] at h
      exact mixed c1 h.symm
  · rw [if_neg c1] at h
    by_cases c2 : shapeL base (markL many start j) j s = seaL
    · rw [if_pos c2] at h
      exact (mixed c2 h).symm
    · rw [if_neg c2] at h
      exact shape_mark hl h
theorem fix_inj {base : List Nat} {many start k j s : Nat} (hm : many ≤ 52) (hk : k < many) (hj : j < many) (h : fixL (shapeL base (markL many start k) k s) = fixL (shapeL base (markL many start j) j s)) : k = j :=
  markL_inj hm hk hj (fix_mark h)
theorem fix_ne (l : List Nat) : fixL l ≠ seaL := by
  unfold fixL
  split
  · decide
  · assumption
theorem shape_low {base mark : List Nat} {k s : Nat} (hb : ∀ c ∈ base, Low c) (hm : ∀ c ∈ mark, Low c) : ∀ c ∈ shapeL base mark k s, Low c := by
  have app : ∀ {a b : List Nat}, (∀ c ∈ a, Low c) → (∀ c ∈ b, Low c) → ∀ c ∈ a ++ b, Low c := fun h1 h2 c hc => (List.mem_append.mp hc).elim (h1 c) (h2 c)
  match s with
  | 0 => exact app hb hm
  | 1 => exact app hm hb
  | 2 => exact app hm fun c hc => hb c (List.mem_of_mem_take hc)
  | s + 3 => exact app (app (fun c hc => hb c (List.mem_of_mem_take hc)) hm) fun c hc => hb c (List.mem_of_mem_drop hc)
theorem shape_size {base mark : List Nat} {k s : Nat} (hb : base.length ≤ 6) (hm : 1 ≤ mark.length ∧ mark.length ≤ 2) : 1 ≤ (shapeL base mark k s).length ∧ (shapeL base mark k s).length ≤ 8 := by
  match s with
  | 0 => simp only [shapeL, List.length_append]; omega
  | 1 => simp only [shapeL, List.length_append]; omega
  | 2 => simp only [shapeL, List.length_append, List.length_take]; omega
  | s + 3 => simp only [shapeL, List.length_append, List.length_take, List.length_drop]; omega
theorem fix_low {l : List Nat} (h : ∀ c ∈ l, Low c) : ∀ c ∈ fixL l, Low c := by
  unfold fixL
  split
  · intro c hc
    have : c = 115 ∨ c = 101 ∨ c = 97 ∨ c = 115 := by simpa [seasL] using hc
    constructor <;> omega
  · exact h
theorem fix_size {l : List Nat} (h : 1 ≤ l.length ∧ l.length ≤ 8) : 1 ≤ (fixL l).length ∧ (fixL l).length ≤ 8 := by
  unfold fixL
  split
  · decide
  · exact h
/-! ### no name goes on from another one -/
theorem fix_take {l : List Nat} {n : Nat} (h : n ≤ 2) : (fixL l).take n = l.take n := by
  unfold fixL
  split
  · rename_i e
    subst e
    match n, h with
    | 0, _ => rfl
    | 1, _ => rfl
    | 2, _ => rfl
  · rfl
theorem fix_len (l : List Nat) : l.length ≤ (fixL l).length := by
  unfold fixL
  split
  · rename_i e
    subst e
    decide
  · exact Nat.le_refl _
theorem fix_on {base t : List Nat} {many start i j s : Nat} (hm : many ≤ 52) (hi : i < many) (hj : j < many) (ht : t ≠ []) (h1 : ∀ l, seasL = l ++ t → l.length = 3 → False)
    (h : fixL (shapeL base (markL many start j) j s) = fixL (shapeL base (markL many start i) i s) ++ t) : False := by
  have hl : (markL many start i).length = (markL many start j).length := by rw [markL_len, markL_len]
  have hmu : 1 ≤ (markL many start i).length ∧ (markL many start i).length ≤ 2 := by
    rw [markL_len]
    split <;> omega
  by_cases hs : s = 2
  · subst hs
    have e1 : (fixL (shapeL base (markL many start j) j 2)).take (markL many start j).length = markL many start j := by
      rw [fix_take (by omega)]
      exact List.take_left
    have e2 : (fixL (shapeL base (markL many start i) i 2)).take (markL many start i).length = markL many start i := by
      rw [fix_take (by omega)]
      exact List.take_left
    have hz : (markL many start i).length ≤ (fixL (shapeL base (markL many start i) i 2)).length := by
      refine Nat.le_trans ?_ (fix_len _)
      show _ ≤ (markL many start i ++ base.take (i % (base.length + 1))).length
      rw [List.length_append]
      omega
    have e3 : markL many start j = markL many start i := by
      rw [← e1, h, ← hl, List.take_append_of_le_length hz, e2]
    have e4 := markL_inj hm hj hi e3
    subst e4
    have := congrArg List.length h
    rw [List.length_append] at this
    exact ht (List.eq_nil_of_length_eq_zero (by omega))
  · have q := shape_len (base := base) (k := i) (j := j) hl hs
    have ht1 : 1 ≤ t.length := by
      cases t with
      | nil => exact absurd rfl ht
      | cons _ _ => rw [List.length_cons]; omega
    have hL := congrArg List.length h
    rw [List.length_append] at hL
    have hi2 := fix_len (shapeL base (markL many start i) i s)
    by_cases c : shapeL base (markL many start j) j s = seaL
    · have e1 : fixL (shapeL base (markL many start j) j s) = seasL := by unfold fixL; rw [if_pos c]
      rw [c] at q
      rw [e1] at hL h
      have q3 : seaL.length = 3 := rfl
      have q4 : seasL.length = 4 := rfl
      exact h1 _ h (by omega)
    · have e1 : fixL (shapeL base (markL many start j) j s) = shapeL base (markL many start j) j s := by unfold fixL; rw [if_neg c]
      rw [e1] at hL
      omega
theorem fix_gen {base t : List Nat} {many start i j s : Nat} (hm : many ≤ 52) (hi : i < many) (hj : j < many) (ht : t ≠ []) (hl : t.getLast? ≠ some 115) : fixL (shapeL base (markL many start j) j s) ≠ fixL (shapeL base (markL many start i) i s) ++ t := fun h =>
  fix_on hm hi hj ht (fun l e _ => by
    have := congrArg List.getLast? e
    rw [List.getLast?_append] at this
    cases q : t.getLast? with
    | none => exact ht (List.getLast?_eq_none_iff.mp q)
    | some c =>
      rw [q] at this
      have h2 : seasL.getLast? = some c := this
      have h3 : seasL.getLast? = some 115 := rfl
      rw [h3] at h2
      exact hl (by rw [q, ← h2])) h
theorem fix_q {base : List Nat} {many start i j s : Nat} (hm : many ≤ 52) (hi : i < many) (hj : j < many) : fixL (shapeL base (markL many start j) j s) ≠ fixL (shapeL base (markL many start i) i s) ++ [113] := fun h =>
  fix_on hm hi hj (by decide) (fun l e _ => by
    have := congrArg List.getLast? e
    rw [List.getLast?_append] at this
    have h2 : seasL.getLast? = some 113 := by rw [this]; rfl
    exact absurd h2 (by decide)) h
theorem fix_dd {base : List Nat} {many start i j s : Nat} (hm : many ≤ 52) (hi : i < many) (hj : j < many) : fixL (shapeL base (markL many start j) j s) ≠ fixL (shapeL base (markL many start i) i s) ++ fixL (shapeL base (markL many start i) i s) := fun h => by
  have hmu : 1 ≤ (markL many start i).length := by
    rw [markL_len]
    split <;> omega
  have hge : ∀ k, 1 ≤ (markL many start k).length → 1 ≤ (shapeL base (markL many start k) k s).length := fun k hk => by
    match s with
    | 0 => simp only [shapeL, List.length_append]; omega
    | 1 => simp only [shapeL, List.length_append]; omega
    | 2 => simp only [shapeL, List.length_append, List.length_take]; omega
    | s + 3 => simp only [shapeL, List.length_append, List.length_take, List.length_drop]; omega
  have h1 := Nat.le_trans (hge i hmu) (fix_len _)
  refine fix_on hm hi hj (fun z => by rw [z] at h1; exact absurd h1 (by decide)) (fun l e hl => ?_) h
  have e1 := congrArg List.length e
  rw [List.length_append, hl] at e1
  have q4 : seasL.length = 4 := rfl
  rw [q4] at e1
  have e2 := congrArg List.length h
  rw [List.length_append] at e2
  have e3 : (fixL (shapeL base (markL many start i) i s)).length = 1 := by omega
  have e4 : (fixL (shapeL base (markL many start j) j s)).length = 2 := by omega
  have hl2 : (markL many start i).length = (markL many start j).length := by rw [markL_len, markL_len]
  by_cases hs : s = 2
  · subst hs
    have f1 : (fixL (shapeL base (markL many start j) j 2)).take (markL many start j).length = markL many start j := by
      rw [fix_take (by rw [markL_len]; split <;> omega)]
      exact List.take_left
    have f2 : (fixL (shapeL base (markL many start i) i 2)).take (markL many start i).length = markL many start i := by
      rw [fix_take (by rw [markL_len]; split <;> omega)]
      exact List.take_left
    have hz : (markL many start i).length ≤ (fixL (shapeL base (markL many start i) i 2)).length := by
      refine Nat.le_trans ?_ (fix_len _)
      show _ ≤ (markL many start i ++ base.take (i % (base.length + 1))).length
      rw [List.length_append]
      omega
    have f3 : markL many start j = markL many start i := by
      rw [← f1, h, ← hl2, List.take_append_of_le_length hz, f2]
    have f4 := markL_inj hm hj hi f3
    subst f4
    omega
  · have q := shape_len (base := base) (k := i) (j := j) hl2 hs
    have g1 := fix_len (shapeL base (markL many start i) i s)
    unfold fixL at e4
    split at e4
    · revert e4
      decide
    · omega
end K0
end
section
set_option Elab.async false
set_option linter.all false
set_option maxRecDepth 100000
namespace K0
open PySem PySem.Spec PyProof.Rows L2
abbrev scNames_N : List Str := ["_law_bag_here", "_law_many", "_law_letters", "_law_base", "_law_start", "_law_shape", "_law_found", "_law_k", "_law_mark", "_law_some"]
abbrev scNames_S : Stmt := sNames
theorem scNames : FnScope scNames_N ["_law_bag_here", "_law_many"] (defScope sNames) := ⟨rfl, rfl, rfl, by decide +kernel, rfl, by decide +kernel, by decide +kernel⟩
/-- a list of unlike good names -/
structure NamesOk (ns : List Str) : Prop where
  ok : ∀ x ∈ ns, NameOk x
  sea : ∀ x ∈ ns, x ≠ "sea"
  nd : ns.Nodup
def spNames : Sp := fun vs H Q _ => ∃ (p : Addr) (m : Nat), vs = [.ref p, .int (m : Int)] ∧ BagAt H p ∧ m ≤ 52 ∧
  ∀ (H' : Hp) (l : Addr) (ns : List Str), Upto p H H' → BagAt H' p → H l = none → l ≠ p → H' l = some (.lst (ns.map V.str)) → ns.length = m → NamesOk ns → Q (.ref l) H'
theorem split_if' {α : Type} {R C : α → Prop} {G : Prop} (use : (∀ c, R c → C c) → G) (key : ∀ c, R c → C c) : G := use key
/-! ### texts -/
abbrev lettersT : Str := "abcdefghijklmnopqrstuvwxyz"
theorem letters_at : ∀ i : Nat, i < 26 → lettersT.cps[i]? = some (97 + i) := by decide +kernel
theorem letters_len : lettersT.length = 26 := by decide +kernel
theorem sea_list : ("sea" : Str).cps.toList = seaL := by decide +kernel
theorem seas_list : ("seas" : Str).cps.toList = seasL := by decide +kernel
theorem empty_list : ("" : Str).cps.toList = [] := by decide +kernel
def ofL (l : List Nat) : Str := ⟨l.toArray⟩
theorem ofL_list (l : List Nat) : (ofL l).cps.toList = l := rfl
theorem len_list (x : Str) : x.length = x.cps.toList.length := Array.length_toList.symm
theorem ofL_of (x : Str) : ofL x.cps.toList = x := str_ext rfl
theorem join_empty : ∀ cs : List Nat, (Str.join "" (cs.map fun c => ofL [c])).cps.toList = cs
  | [] => by decide +kernel
  | [c] => rfl
  | c :: d :: r => by
    have ih := join_empty (d :: r)
    show (ofL [c] ++ ("" : Str) ++ Str.join "" ((d :: r).map fun c => ofL [c])).cps.toList = c :: d :: r
    rw [app_list, app_list, empty_list, ih]
    rfl
theorem sum_ones (cs : List Nat) : ((cs.map fun c => ofL [c]).map (·.length)).sum = cs.length := by
  induction cs with
  | nil => rfl
  | cons c r ih =>
    rw [List.map_cons, List.map_cons, List.sum_cons, ih, List.length_cons]
    show 1 + r.length = r.length + 1
    omega
theorem cutS_take (z : Str) (n : Nat) : (cutS z none (some (n : Int))).cps.toList = z.cps.toList.take n := by
  unfold cutS
  rw [HT.sIx_none, HT.sIx_nat]
  show (z.cps.toList.drop 0).take (min n z.length - 0) = z.cps.toList.take n
  rw [List.drop_zero, Nat.sub_zero, len_list]
  exact (List.take_eq_take_min ..).symm
theorem cutS_drop (z : Str) (n : Nat) : (cutS z (some (n : Int)) none).cps.toList = z.cps.toList.drop n := by
  unfold cutS
  rw [HT.sIx_none, HT.sIx_nat]
  show (z.cps.toList.drop (min n z.length)).take (z.length - min n z.length) = z.cps.toList.drop n
  rw [len_list]
  by_cases h : n ≤ z.cps.toList.length
  · rw [Nat.min_eq_left h]
    exact List.take_of_length_le (by rw [List.length_drop]; omega)
  · rw [Nat.min_eq_right (by omega), Nat.sub_self, List.drop_of_length_le (Nat.le_refl _), List.drop_of_length_le (by omega)]
    rfl
theorem nodup_range {α : Type} (f : Nat → α) (m : Nat) (h : ∀ i j, i < m → j < m → f i = f j → i = j) : ((List.range m).map f).Nodup := by
  rw [List.Nodup, List.pairwise_map]
  refine List.Pairwise.imp_of_mem (fun {a b} ha hb hab e => hab (h a b (List.mem_range.mp ha) (List.mem_range.mp hb) e)) (List.nodup_range (n := m))
theorem ofL_inj {a b : List Nat} (h : ofL a = ofL b) : a = b := by
  have := congrArg (fun z : Str => z.cps.toList) h
  exact this
theorem names_ok {base : List Nat} {m st sh : Nat} (hb1 : ∀ c ∈ base, Low c) (hb2 : base.length ≤ 6) (hm2 : m ≤ 52) : NamesOk ((List.range m).map fun k => ofL (fixL (shapeL base (markL m st k) k sh))) := by
  refine ⟨?_, ?_, ?_⟩
  · intro x hx
    obtain ⟨j, hj, rfl⟩ := List.mem_map.mp hx
    have hj := List.mem_range.mp hj
    have h1 := markL_low (start := st) hm2 hj
    have h2 : 1 ≤ (markL m st j).length ∧ (markL m st j).length ≤ 2 := by
      rw [markL_len]
      split <;> omega
    have h3 := fix_size (shape_size (k := j) (s := sh) hb2 h2)
    exact ⟨h3.1, h3.2, fix_low (shape_low hb1 h1)⟩
  · intro x hx e
    obtain ⟨j, hj, rfl⟩ := List.mem_map.mp hx
    have q : (ofL (fixL (shapeL base (markL m st j) j sh))).cps.toList = seaL := by rw [e]; exact sea_list
    exact fix_ne _ q
  · refine nodup_range _ _ fun i j hi hj e => ?_
    exact fix_inj hm2 hi hj (ofL_inj e)
section
variable {P : Program} {w : World} {K : PySem.W.Frag} {mg : Str → Option Value} {base : Heap}
theorem ok_names {f fT fO : Addr} {fd fdT fdO : FuncData} (F : FnP K "_law_names" sNames f fd) (F_law_take : FnP K "_law_take" sTake fT fdT) (F_law_of : FnP K "_law_of" sOf fO fdO) (B : Bl mg) (g_law_take : mg "_law_take" = some (.ref fT)) (g_law_of : mg "_law_of" = some (.ref fO)) :
    FnOk P w K mg base CX0 3 f fd ["_law_bag_here", "_law_many"] spNames := by
  have G_law_take : FnOk P w K mg base CX0 1 fT fdT ["_law_bag_here", "_law_many"] spTake := ok_take F_law_take B
  have b_law_take : Binds K fdT ["_law_bag_here", "_law_many"] [] := F_law_take.bindsN fun _ _ _ _ _ _ us hl => match us, hl with | [_, _], _ => rfl
  have G_law_of : FnOk P w K mg base CX0 2 fO fdO ["_law_bag_here", "_law_some"] (spOf K) := ok_of F_law_of F_law_take B g_law_take
  have b_law_of : Binds K fdO ["_law_bag_here", "_law_some"] [] := F_law_of.bindsN fun _ _ _ _ _ _ us hl => match us, hl with | [_, _], _ => rfl
  refine F.ok scNames (fun vs H Q E h => ?_) (fun cdv A outer s H vs Q E hr h => ?_)
  · obtain ⟨p, m, rfl, _⟩ := h
    rfl
  · obtain ⟨p, m, rfl, hB, hm2, k⟩ := h
    have hr_law_take : Room 1 _ := hr.mono (by decide)
    have hr_law_of : Room 2 _ := hr.mono (by decide)
    refine ⟨_, PSs.nox (pss_cons
      (ps_set (i := 2) scNames.nd rfl (Or.inr rfl) pe_str)
      (pss_cons
      (ps_set (i := 3) scNames.nd rfl (Or.inl rfl) (pe_join pe_str (pe_lc (own := [("_law_k", 7)]) (g := gName 7) (tt := tYes) (by rfl) scNames.nd (pi_range1 (by rfl) B.range (pa_cons (pe_call G_law_of hr_law_of (by rfl) g_law_of F_law_of.kp b_law_of .nil pass0 (pa_cons (pv 0) (pa_cons (pe_lst (pa_cons pe_int (pa_cons pe_int (pa_cons pe_int (pa_cons pe_int (pa_cons pe_int pa_nil)))))) pa_nil))) pa_nil)) (blkOk_by (own := [("_law_k", 7)]) (N := scNames_N) (sc := defScope scNames_S) (by decide +kernel)) (fun _ _ _ _ _ => (pg_name (i := 7) scNames.nd rfl (Or.inl rfl))) (fun _ _ _ _ _ => pts_nil) (fun _ _ _ _ _ => (pe_item_str (pv 2) (pe_call G_law_take hr_law_take (by rfl) g_law_take F_law_take.kp b_law_take .nil pass0 (pa_cons (pv 0) (pa_cons pe_int pa_nil))) (fun _ _ => rfl))))))
      (pss_cons
      (ps_par (i := 4) (j := 5) (by rfl) scNames.nd rfl rfl (by decide) rfl rfl (pa_cons (pe_call G_law_take hr_law_take (by rfl) g_law_take F_law_take.kp b_law_take .nil pass0 (pa_cons (pv 0) (pa_cons pe_int pa_nil))) (pa_cons (pe_call G_law_take hr_law_take (by rfl) g_law_take F_law_take.kp b_law_take .nil pass0 (pa_cons (pv 0) (pa_cons pe_int pa_nil))) pa_nil)) (by rfl))
      (pss_cons
      (ps_set (i := 6) scNames.nd rfl (Or.inl rfl) (pe_lst pa_nil))
      (pss_cons
      (ps_for PassesOwn.never rfl (pi_range1 (by rfl) B.range (pa_cons (pv 1) pa_nil)) (pg_name (i := 7) scNames.nd rfl (Or.inl rfl)) (pss_cons
      (ps_set (i := 8) scNames.nd rfl (Or.inl rfl) (pe_op op_add_str (pe_item_str (pv 2) (pe_op op_mod (pe_op op_add (pv 4) (pe_op op_mul pe_int (pv 7))) pe_int) (fun _ _ => rfl)) (pe_ifExp (pt_cmpR op_gt (pv 1) pe_int (nomark _)) (pe_item_str (pv 2) (pe_op op_fdiv (pv 7) pe_int) (fun _ _ => rfl)) pe_str)))
      (pss_cons
      (ps_set (i := 9) scNames.nd rfl (Or.inl rfl) (pe_lst (pa_cons (pe_op op_add_str (pv 3) (pv 8)) (pa_cons (pe_op op_add_str (pv 8) (pv 3)) (pa_cons (pe_op op_add_str (pv 8) (pe_slice sl_str (pv 3) po_none (po_some (pe_op op_mod (pv 7) (pe_op op_add (pe_callB call_len_str (by rfl) B.len PySem.boot_len (pa_cons (pv 3) pa_nil)) pe_int))))) (pa_cons (pe_op op_add_str (pe_op op_add_str (pe_slice sl_str (pv 3) po_none (po_some pe_int)) (pv 8)) (pe_slice sl_str (pv 3) (po_some pe_int) po_none)) pa_nil))))))
      (pss_one
      (ps_expr (pe_bm PySem.F.plainAttrs_list PySem.F.slot_list_append PySem.F.type_list_append mt_append (pv 6) (pa_cons (pe_ifExp (pt_cmpR op_eq (pe_ix ix_list (pv 9) (pv 5) (fun _ _ => rfl)) pe_str (nomark _)) pe_str (pe_ix ix_list (pv 9) (pv 5) (fun _ _ => rfl))) pa_nil)))))))
      (pss_one
      (ps_ret (pv 6)))))))), ?_⟩
    obtain ⟨b0, hb0, hv0⟩ := id hB
    refine ⟨⟨_, rfl⟩, _, rfl, by show 5 ≤ sizeLine; decide, fun q nq => ?_⟩
    have npq : p ≠ q := ne_of_none hb0 nq
    refine ⟨p, q, [.int 0, .int 0, .int 1, .int 2, .int 6], rfl, ⟨b0, by rw [upd_ne npq]; exact hb0, hv0⟩, npq.symm, .inl (.inl upd_same), by decide, by decide, fun i0 v b1 hv hx1 => ?_⟩
    obtain ⟨n, hn6, rfl⟩ : ∃ n : Nat, n ≤ 6 ∧ v = V.int (n : Int) := by
      have hm : v ∈ ([.int 0, .int 0, .int 1, .int 2, .int 6] : List V) := List.mem_of_getElem? hv
      simp only [List.mem_cons, List.not_mem_nil, or_false] at hm
      rcases hm with rfl | rfl | rfl | rfl | rfl
      · exact ⟨0, by omega, rfl⟩
      · exact ⟨0, by omega, rfl⟩
      · exact ⟨1, by omega, rfl⟩
      · exact ⟨2, by omega, rfl⟩
      · exact ⟨6, by omega, rfl⟩
    refine ⟨(n : Int), rfl, by omega, by omega, fun D hD => ?_⟩
    have u1 : Upto p H (upd (upd H q (.lst [.int 0, .int 0, .int 1, .int 2, .int 6])) p (.lst b1)) := (Upto.of (same_upd nq)).trans Upto.at_
    have npD : p ≠ D := fun e => by
      rw [← e, upd_same] at hD
      cases hD
    refine lc_range (lo := 0) (n := ((n : Int) - 0).toNat) (fun i H2 => Upto p H H2 ∧ BagAt H2 p ∧ ∃ cs : List Nat, cs.length = i ∧ (∀ c ∈ cs, Low c) ∧ H2 D = some (.lst (cs.map fun c => V.str (ofL [c])))) ?_ ?_ ?_
    · exact ⟨u1.trans (Upto.of (same_upd hD)), ⟨b1, by rw [upd_ne npD, upd_same], hx1⟩, [], rfl, (fun c hc => nomatch hc), upd_same⟩
    · rintro i H2 hi ⟨u2, B2, cs, hl, hlow, hD2⟩
      have nlp : p ≠ D := npD
      refine ⟨rfl, ?_⟩
      unfold tYes
      refine iteT ?_
      refine ⟨_, rfl, _, rfl, p, 26, rfl, B2, by decide, by decide, fun r xs hr0 hr1 hx => ?_⟩
      have hrn : r.toNat < 26 := by omega
      refine ⟨lettersT, r, 97 + r.toNat, rfl, rfl, hr0, by omega, by rw [letters_len]; omega, letters_at _ hrn, ?_⟩
      refine ⟨cs.map fun c => V.str (ofL [c]), by rw [upd_ne npD.symm]; exact hD2, ?_, ?_, ?_, cs ++ [97 + r.toNat], ?_, ?_, ?_⟩
      · rw [List.length_map]
        exact small1000 (by omega)
      · intro b o hb hn
        have hbD : b ≠ D := by
          intro e
          have hh : (upd (upd H q (.lst [.int 0, .int 0, .int 1, .int 2, .int 6])) p (.lst b1)) b = some o := u1 b o hb hn
          rw [e, hD] at hh
          cases hh
        rw [upd_ne hbD, upd_ne hn]
        exact u2 b o hb hn
      · exact ⟨xs, by rw [upd_ne npD, upd_same], hx⟩
      · rw [List.length_append, hl]
        rfl
      · intro c hc
        rcases List.mem_append.mp hc with h | h
        · exact hlow c h
        · rw [List.mem_singleton.mp h]
          constructor <;> omega
      · rw [upd_same, List.map_append]
        rfl
    · rintro H2 ⟨u2, B2, cs, hl, hlow, hD2⟩
      have hl6 : cs.length ≤ 6 := by omega
      have hmap : (cs.map fun c => V.str (ofL [c])) = (cs.map fun c => ofL [c]).map V.str := by
        rw [List.map_map]
        rfl
      refine ⟨"", D, cs.map fun c => ofL [c], rfl, rfl, .inl (.inl (.inl (by rw [← hmap]; exact hD2))), ?_, ?_⟩
      · rw [sum_ones, List.length_map, show ("" : Str).length = 0 from rfl]
        omega
      · rw [TL.join_eq]
        generalize hbase : Str.join "" (cs.map fun c => ofL [c]) = base
        have hbl : base.cps.toList = cs := by rw [← hbase]; exact join_empty cs
        have hb1 : ∀ c ∈ base.cps.toList, Low c := by rw [hbl]; exact hlow
        have hb2 : base.cps.toList.length ≤ 6 := by rw [hbl]; exact hl6
        have hbz : base.length ≤ 6 := by rw [len_list]; exact hb2
        clear hbase hmap hbl hl6 hlow hl hD2 cs
        -- start, shape
        refine ⟨_, rfl, p, 26, rfl, B2, by decide, by decide, fun r1 xs1 hr10 hr11 hx1 => ?_⟩
        refine ⟨_, rfl, p, 4, rfl, ⟨xs1, upd_same, hx1⟩, by decide, by decide, fun r2 xs2 hr20 hr21 hx2 => ?_⟩
        obtain ⟨st, rfl⟩ : ∃ st : Nat, r1 = (st : Int) := ⟨r1.toNat, by omega⟩
        obtain ⟨sh, rfl⟩ : ∃ sh : Nat, r2 = (sh : Int) := ⟨r2.toNat, by omega⟩
        have hsh : sh < 4 := by omega
        refine ⟨_, _, rfl, Nat.zero_le _, fun l nl => ?_⟩
        have npl : p ≠ l := fun e => by
          rw [← e, upd_same] at nl
          cases nl
        have u3 : Upto p H (upd (upd H2 p (.lst xs1)) p (.lst xs2)) := (u2.trans Upto.at_).trans Upto.at_
        have nlH : H l = none := by
          cases e : H l with
          | none => rfl
          | some o =>
            rw [u3 l o e npl.symm] at nl
            cases nl
        refine ⟨_, rfl, (m : Int), rfl, by omega, by omega, ?_⟩
        refine for_range (lo := 0) (n := ((m : Int) - 0).toNat) (fun i σ H3 => ∃ (v7 v8 v9 : Option V), σ = [some (.ref p), some (.int (m : Int)), some (.str lettersT), some (.str base), some (.int (st : Int)), some (.int (sh : Int)), some (.ref l), v7, v8, v9] ∧
            Upto p H H3 ∧ BagAt H3 p ∧ H3 l = some (.lst (((List.range i).map fun k => ofL (fixL (shapeL base.cps.toList (markL m st k) k sh))).map V.str))) ?_ ?_ ?_
        · refine ⟨_, _, _, rfl, u3.trans (Upto.of (same_upd nl)), ⟨xs2, by rw [upd_ne npl, upd_same], hx2⟩, upd_same⟩
        · rintro i σ H3 hi ⟨v7, v8, v9, rfl, u4, B4, hl4⟩
          have him : i < m := by omega
          have hmod : (st + 5 * i) % 26 < 26 := Nat.mod_lt _ (by decide)
          refine ⟨_, rfl, _, rfl, _, rfl, 5, _, rfl, rfl, .inl ⟨by decide, by decide⟩, _, _, rfl, rfl, _, _, rfl, rfl, (by show (0 : Int) < 26; decide), ?_⟩
          refine ⟨lettersT, _, 97 + (st + 5 * i) % 26, rfl, rfl, by omega, by omega, by rw [letters_len]; omega, ?_, ?_⟩
          · rw [show (((st : Int) + 5 * (0 + (i : Int))) % 26).toNat = (st + 5 * i) % 26 by omega]
            exact letters_at _ hmod
          refine ⟨_, rfl, (m : Int), 26, rfl, rfl, _, rfl, ?_⟩
          refine split_if' (α := Str) (R := fun t => t.cps.toList = if 26 < m then [97 + i / 26] else []) (C := ?C) ?use ?key
          case use =>
            intro key
            refine ite2 (fun hc => ?_) (fun hc => ?_)
            · have hc := of_decide_eq_true hc
              have hc' : 26 < m := by omega
              refine ⟨_, rfl, _, rfl, _, 26, rfl, rfl, ⟨by decide, by decide⟩, ?_⟩
              refine ⟨lettersT, _, 97 + i / 26, rfl, rfl, by omega, by omega, by rw [letters_len]; omega, ?_, ?_⟩
              · rw [show ((0 + (i : Int)) / 26).toNat = i / 26 by omega]
                exact letters_at _ (by omega)
              · have hh : (⟨#[97 + i / 26]⟩ : Str).cps.toList = if 26 < m then [97 + i / 26] else [] := by rw [if_pos hc']
                generalize (⟨#[97 + i / 26]⟩ : Str) = t at hh
                exact key t hh
            · have hc' : ¬ 26 < m := fun z => hc (decide_eq_true (by omega))
              exact key "" (by rw [if_neg hc', empty_list])
          case key =>
            intro t ht
            have hml : ((⟨#[97 + (st + 5 * i) % 26]⟩ : Str) ++ t).cps.toList = markL m st i := by
              rw [app_list, ht]
              rfl
            have htl : t.length ≤ 1 := by
              rw [len_list, ht]
              split <;> simp
            refine ⟨_, _, rfl, rfl, ?_, ?_⟩
            · show 1 + t.length ≤ sizeLine
              exact Nat.le_of_lt (small1000 (by omega))
            generalize (⟨#[97 + (st + 5 * i) % 26]⟩ : Str) ++ t = mark at hml
            have hmz : mark.length ≤ 2 := by
              rw [len_list, hml, markL_len]
              split <;> omega
            -- the four texts
            have z1 : base.length + mark.length ≤ sizeLine := Nat.le_of_lt (small1000 (by omega))
            have z2 : mark.length + base.length ≤ sizeLine := Nat.le_of_lt (small1000 (by omega))
            have ek : (0 + (i : Int)) % ((base.length : Int) + 1) = ((i % (base.length + 1) : Nat) : Int) := by
              rw [Int.zero_add]
              exact (Int.natCast_emod i (base.length + 1)).symm
            have zc : ∀ a b : Option Int, (cutS base a b).length ≤ 6 := fun a b => Nat.le_trans (cutS_length base a b) hbz
            refine ⟨_, rfl, _, rfl, _, _, rfl, rfl, z1, _, rfl, _, rfl, _, _, rfl, rfl, z2, ?_⟩
            refine ⟨_, rfl, _, rfl, _, rfl, _, rfl, _, rfl, Nat.le_of_lt (small1000 (by omega)), _, _, rfl, rfl, _, _, rfl, rfl, (by show (0 : Int) < (base.length : Int) + 1; omega), _, rfl, base, rfl, Nat.le_of_lt (small1000 (by omega)), _, _, rfl, rfl, ?_, ?_⟩
            · have := zc none (some ((0 + (i : Int)) % ((base.length : Int) + 1)))
              exact Nat.le_of_lt (small1000 (by omega))
            have c1 := zc none (some 1)
            have c2 := zc (some 1) none
            have c3 : (cutS base none (some 1) ++ mark).length ≤ 8 := by
              rw [strLen_append]
              omega
            refine ⟨_, rfl, 1, rfl, base, rfl, Nat.le_of_lt (small1000 (by omega)), _, rfl, _, _, rfl, rfl, Nat.le_of_lt (small1000 (by omega)), _, rfl, 1, rfl, base, rfl, Nat.le_of_lt (small1000 (by omega)), _, _, rfl, rfl, Nat.le_of_lt (small1000 (by omega)), by show 4 ≤ sizeLine; decide, fun q2 nq2 => ?_⟩
            have e0 : base ++ mark = ofL (shapeL base.cps.toList mark.cps.toList i 0) := str_ext (by rw [app_list, ofL_list]; rfl)
            have e1 : mark ++ base = ofL (shapeL base.cps.toList mark.cps.toList i 1) := str_ext (by rw [app_list, ofL_list]; rfl)
            have e2 : mark ++ cutS base none (some ((0 + (i : Int)) % ((base.length : Int) + 1))) = ofL (shapeL base.cps.toList mark.cps.toList i 2) := str_ext (by
              rw [app_list, ofL_list, ek, cutS_take, len_list]
              rfl)
            have e3 : cutS base none (some 1) ++ mark ++ cutS base (some 1) none = ofL (shapeL base.cps.toList mark.cps.toList i 3) := str_ext (by
              rw [app_list, app_list, ofL_list, show (1 : Int) = ((1 : Nat) : Int) from rfl, cutS_take, cutS_drop]
              rfl)
            have hat : ([V.str (base ++ mark), V.str (mark ++ base), V.str (mark ++ cutS base none (some ((0 + (i : Int)) % ((base.length : Int) + 1)))), V.str (cutS base none (some 1) ++ mark ++ cutS base (some 1) none)] : List V)[sh]? = some (V.str (ofL (shapeL base.cps.toList mark.cps.toList i sh))) := by
              rw [e0, e1, e2, e3]
              match sh, hsh with
              | 0, _ => rfl
              | 1, _ => rfl
              | 2, _ => rfl
              | 3, _ => rfl
            have nlq : l ≠ q2 := ne_of_none hl4 nq2
            generalize ([V.str (base ++ mark), V.str (mark ++ base), V.str (mark ++ cutS base none (some ((0 + (i : Int)) % ((base.length : Int) + 1)))), V.str (cutS base none (some 1) ++ mark ++ cutS base (some 1) none)] : List V) = four at hat
            rw [hml] at hat
            have hl5 : (upd H3 q2 (.lst four)) l = some (.lst (((List.range i).map fun k => ofL (fixL (shapeL base.cps.toList (markL m st k) k sh))).map V.str)) := by
              rw [upd_ne nlq]
              exact hl4
            have u5 : Upto p H (upd H3 q2 (.lst four)) := u4.trans (Upto.of (same_upd nq2))
            have B5 : BagAt (upd H3 q2 (.lst four)) p := by
              obtain ⟨b, hb, hv⟩ := B4
              exact ⟨b, by rw [upd_ne (ne_of_none hb nq2)]; exact hb, hv⟩
            refine ⟨_, rfl, .inl ⟨rfl, _, .inl (.inl hl5)⟩, ?_⟩
            refine ⟨_, rfl, _, rfl, q2, _, _, _, rfl, rfl, .inl (.inl upd_same), atI_nat hat, rfl, _, rfl, ?_⟩
            have more : (((List.range i).map fun k => ofL (fixL (shapeL base.cps.toList (markL m st k) k sh))).map V.str) ++ [V.str (ofL (fixL (shapeL base.cps.toList (markL m st i) i sh)))] = ((List.range (i + 1)).map fun k => ofL (fixL (shapeL base.cps.toList (markL m st k) k sh))).map V.str := by
              rw [List.range_succ, List.map_append, List.map_append]
              rfl
            have fin : ∀ y : Str, y = ofL (fixL (shapeL base.cps.toList (markL m st i) i sh)) → Upto p H (upd (upd H3 q2 (.lst four)) l (.lst ((((List.range i).map fun k => ofL (fixL (shapeL base.cps.toList (markL m st k) k sh))).map V.str) ++ [V.str y]))) ∧
                BagAt (upd (upd H3 q2 (.lst four)) l (.lst ((((List.range i).map fun k => ofL (fixL (shapeL base.cps.toList (markL m st k) k sh))).map V.str) ++ [V.str y]))) p ∧
                (upd (upd H3 q2 (.lst four)) l (.lst ((((List.range i).map fun k => ofL (fixL (shapeL base.cps.toList (markL m st k) k sh))).map V.str) ++ [V.str y]))) l = some (.lst (((List.range (i + 1)).map fun k => ofL (fixL (shapeL base.cps.toList (markL m st k) k sh))).map V.str)) := by
              rintro y rfl
              refine ⟨?_, ?_, ?_⟩
              · intro b o hb hn
                rw [upd_ne (ne_of_none hb nlH)]
                exact u5 b o hb hn
              · obtain ⟨b, hb, hv⟩ := B5
                exact ⟨b, by rw [upd_ne npl]; exact hb, hv⟩
              · rw [upd_same, more]
            have sz : (((List.range i).map fun k => ofL (fixL (shapeL base.cps.toList (markL m st k) k sh))).map V.str).length < sizeLine := by
              rw [List.length_map, List.length_map, List.length_range]
              exact small1000 (by omega)
            refine ite2 (fun hc => ?_) (fun hc => ?_)
            · have hc := of_decide_eq_true hc
              have hc : ofL (shapeL base.cps.toList (markL m st i) i sh) = "sea" := V.str.inj hc
              have hL : shapeL base.cps.toList (markL m st i) i sh = seaL := by
                rw [← sea_list, ← hc, ofL_list]
              have ey : ("seas" : Str) = ofL (fixL (shapeL base.cps.toList (markL m st i) i sh)) := str_ext (by
                rw [seas_list, ofL_list, fixL, if_pos hL])
              obtain ⟨f1, f2, f3⟩ := fin _ ey
              exact ⟨l, _, _, rfl, rfl, hl5, sz, _, _, _, rfl, f1, f2, f3⟩
            · have hL : ¬ shapeL base.cps.toList (markL m st i) i sh = seaL := fun z => hc (decide_eq_true (by rw [z]; exact congrArg V.str (str_ext (by rw [sea_list, ofL_list]))))
              have ey : ofL (shapeL base.cps.toList (markL m st i) i sh) = ofL (fixL (shapeL base.cps.toList (markL m st i) i sh)) := by
                rw [fixL, if_neg hL]
              obtain ⟨f1, f2, f3⟩ := fin _ ey
              refine ⟨_, rfl, _, rfl, q2, _, _, _, rfl, rfl, .inl (.inl upd_same), atI_nat hat, ?_⟩
              exact ⟨l, _, _, rfl, rfl, hl5, sz, _, _, _, rfl, f1, f2, f3⟩
        · rintro σ H3 ⟨v7, v8, v9, rfl, u4, B4, hl4⟩
          have em : ((m : Int) - 0).toNat = m := by omega
          rw [em] at hl4
          exact ⟨_, rfl, k H3 l _ u4 B4 nlH npl.symm hl4 (by simp) (names_ok hb1 hb2 hm2)⟩
end
end K0
end
section
set_option Elab.async false
set_option linter.all false
set_option maxRecDepth 100000
namespace K0
open PySem PySem.Spec PyProof.Rows L2
abbrev Row := Str × Str
/-- rows that make a river -/
structure GoodRows (R : List Row) : Prop where
  one : 1 ≤ R.length
  most : R.length ≤ 40
  nm : NamesOk (R.map (·.1))
  rank : ∃ rk : Str → Nat, ∀ r ∈ R, r.2 = "sea" ∨ (r.2 ∈ R.map (·.1) ∧ rk r.2 < rk r.1)
/-- rows that are good but for how many they are -/
structure Pre (R : List Row) : Prop where
  one : 1 ≤ R.length
  nm : NamesOk (R.map (·.1))
  rank : ∃ rk : Str → Nat, ∀ r ∈ R, r.2 = "sea" ∨ (r.2 ∈ R.map (·.1) ∧ rk r.2 < rk r.1)
theorem Pre.good {R : List Row} (h : Pre R) (m : R.length ≤ 40) : GoodRows R := ⟨h.one, m, h.nm, h.rank⟩
theorem NamesOk.perm {a b : List Str} (p : a.Perm b) (h : NamesOk b) : NamesOk a := ⟨fun x hx => h.ok x (p.mem_iff.mp hx), fun x hx => h.sea x (p.mem_iff.mp hx), p.nodup_iff.mpr h.nd⟩
theorem GoodRows.perm {a b : List Row} (p : a.Perm b) (h : GoodRows b) : GoodRows a := by
  obtain ⟨rk, hr⟩ := h.rank
  refine ⟨by rw [p.length_eq]; exact h.one, by rw [p.length_eq]; exact h.most, h.nm.perm (p.map _), rk, fun r hm => ?_⟩
  rcases hr r (p.mem_iff.mp hm) with e | ⟨e1, e2⟩
  · exact .inl e
  · exact .inr ⟨(p.map _).mem_iff.mpr e1, e2⟩
theorem Pre.perm {a b : List Row} (p : a.Perm b) (h : Pre b) : Pre a := by
  obtain ⟨rk, hr⟩ := h.rank
  refine ⟨by rw [p.length_eq]; exact h.one, h.nm.perm (p.map _), rk, fun r hm => ?_⟩
  rcases hr r (p.mem_iff.mp hm) with e | ⟨e1, e2⟩
  · exact .inl e
  · exact .inr ⟨(p.map _).mem_iff.mpr e1, e2⟩
theorem perm_lift {α β : Type} {f : α → β} {l1 l2 : List β} (p : l1.Perm l2) : ∀ xs : List α, l2 = xs.map f → ∃ xs' : List α, l1 = xs'.map f ∧ xs'.Perm xs := by
  induction p with
  | nil => intro xs e; cases xs with
    | nil => exact ⟨[], rfl, .nil⟩
    | cons a t => cases e
  | cons x _ ih => intro xs e; cases xs with
    | nil => cases e
    | cons a t =>
      injection e with e1 e2
      obtain ⟨t', h1, h2⟩ := ih t e2
      exact ⟨a :: t', by rw [List.map_cons, ← h1, e1], h2.cons a⟩
  | swap x y l => intro xs e; match xs, e with
    | a :: b :: t, e =>
      injection e with e1 e2
      injection e2 with e2 e3
      exact ⟨b :: a :: t, by rw [List.map_cons, List.map_cons, ← e1, ← e2, ← e3], .swap a b t⟩
  | trans _ _ ih1 ih2 =>
    intro xs e
    obtain ⟨ys, h1, h2⟩ := ih2 xs e
    obtain ⟨zs, h3, h4⟩ := ih1 ys h1
    exact ⟨zs, h3, h4.trans h2⟩
/-- a list of pairs of texts, each in a tuple of its own -/
structure RowsAt (H : Hp) (l : Addr) (AR : List (Addr × Row)) : Prop where
  lst : H l = some (.lst (AR.map fun q => V.ref q.1))
  tup : ∀ q ∈ AR, H q.1 = some (.tup [.str q.2.1, .str q.2.2])
abbrev rowsOf (AR : List (Addr × Row)) : List Row := AR.map (·.2)
theorem bag_ne {H : Hp} {p : Addr} {a : Addr} {xs : List V} (B : BagAt H p) (h : H a = some (.tup xs)) : a ≠ p := by
  obtain ⟨b, hb, _⟩ := B
  exact ne_of h hb (fun z => by cases z)
theorem RowsAt.upto {H H' : Hp} {p l : Addr} {AR : List (Addr × Row)} (r : RowsAt H l AR) (B : BagAt H p) (n : l ≠ p) (u : Upto p H H') : RowsAt H' l AR :=
  ⟨u _ _ r.lst n, fun q hq => u _ _ (r.tup q hq) (bag_ne B (r.tup q hq))⟩
theorem RowsAt.same {H H' : Hp} {l : Addr} {AR : List (Addr × Row)} (r : RowsAt H l AR) (u : Same H H') : RowsAt H' l AR :=
  ⟨u _ _ r.lst, fun q hq => u _ _ (r.tup q hq)⟩
def spLRiver : Sp := fun vs H Q _ => ∃ (p : Addr) (m : Nat), vs = [.ref p, .int (m : Int)] ∧ BagAt H p ∧ 1 ≤ m ∧ m ≤ 41 ∧
  ∀ (H' : Hp) (l : Addr) (AR : List (Addr × Row)), Upto p H H' → BagAt H' p → H l = none → l ≠ p → RowsAt H' l AR → Pre (rowsOf AR) → (rowsOf AR).length = m → Q (.ref l) H'
/-- rows built so far -/
structure Sofar (ns : List Str) (i : Nat) (R : List Row) : Prop where
  fst : R.map (·.1) = ns.take i
  snd : ∀ r ∈ R, r.2 = "sea" ∨ (r.2 ∈ ns ∧ ns.idxOf r.2 < ns.idxOf r.1)
theorem Sofar.good {ns : List Str} {R : List Row} (h : Sofar ns ns.length R) (hn : NamesOk ns) (h1 : 1 ≤ ns.length) : Pre R := by
  have e := h.fst
  rw [List.take_length] at e
  have el : R.length = ns.length := by rw [← e, List.length_map]
  refine ⟨by omega, by rw [e]; exact hn, fun x => ns.idxOf x, fun r hr => ?_⟩
  rw [e]
  exact h.snd r hr
theorem idx_at {ns : List Str} (hd : ns.Nodup) {i : Nat} {x : Str} (h : ns[i]? = some x) : ns.idxOf x = i := by
  obtain ⟨h1, h2⟩ := List.getElem?_eq_some_iff.mp h
  have h3 : ns.idxOf x < ns.length := List.idxOf_lt_length_iff.mpr (List.mem_of_getElem? h)
  have h4 : ns[ns.idxOf x]? = some x := by
    rw [List.getElem?_eq_getElem h3, List.getElem_idxOf h3]
  exact nd_ix hd h4 h
theorem Sofar.more {ns : List Str} {i : Nat} {R : List Row} (hd : ns.Nodup) (h : Sofar ns i R) {x y : Str} (hx : ns[i]? = some x) (hy : y = "sea" ∨ ∃ j, j < i ∧ ns[j]? = some y) : Sofar ns (i + 1) (R ++ [(x, y)]) := by
  refine ⟨?_, fun r hr => ?_⟩
  · rw [List.map_append, h.fst, List.take_add_one, hx]
    rfl
  · rcases List.mem_append.mp hr with hr | hr
    · exact h.snd r hr
    · rw [List.mem_singleton.mp hr]
      rcases hy with e | ⟨j, hj, e⟩
      · exact .inl e
      · refine .inr ⟨List.mem_of_getElem? e, ?_⟩
        show ns.idxOf y < ns.idxOf x
        rw [idx_at hd hx, idx_at hd e]
        exact hj
abbrev scLRiver_N : List Str := ["_law_bag_here", "_law_many", "_law_names_here", "_law_rows", "_law_k", "_law_way_here"]
theorem scLRiver : FnScope scLRiver_N ["_law_bag_here", "_law_many"] (defScope sLRiver) := ⟨rfl, rfl, rfl, by decide +kernel, rfl, by decide +kernel, by decide +kernel⟩
section
variable {P : Program} {w : World} {K : PySem.W.Frag} {mg : Str → Option Value} {base : Heap}
/-- the functions of the law's helpers, by their addresses -/
structure Hf (K : PySem.W.Frag) (mg : Str → Option Value) : Prop where
  B : Bl mg
  take : ∃ f fd, FnP K "_law_take" sTake f fd ∧ mg "_law_take" = some (.ref f)
  of : ∃ f fd, FnP K "_law_of" sOf f fd ∧ mg "_law_of" = some (.ref f)
  mixed : ∃ f fd, FnP K "_law_mixed" sMixed f fd ∧ mg "_law_mixed" = some (.ref f)
  names : ∃ f fd, FnP K "_law_names" sNames f fd ∧ mg "_law_names" = some (.ref f)
theorem ok_lriver {f : Addr} {fd : FuncData} (F : FnP K "_law_river" sLRiver f fd) (T : Hf K mg) : FnOk P w K mg base CX0 4 f fd ["_law_bag_here", "_law_many"] spLRiver := by
  obtain ⟨fT, fdT, F_law_take, g_law_take⟩ := T.take
  obtain ⟨fO, fdO, F_law_of, g_law_of⟩ := T.of
  obtain ⟨fM, fdM, F_law_mixed, g_law_mixed⟩ := T.mixed
  obtain ⟨fN, fdN, F_law_names, g_law_names⟩ := T.names
  have B := T.B
  have G_law_take : FnOk P w K mg base CX0 1 fT fdT ["_law_bag_here", "_law_many"] spTake := ok_take F_law_take B
  have b_law_take : Binds K fdT ["_law_bag_here", "_law_many"] [] := F_law_take.bindsN fun _ _ _ _ _ _ us hl => match us, hl with | [_, _], _ => rfl
  have G_law_mixed : FnOk P w K mg base CX0 2 fM fdM ["_law_bag_here", "_law_some"] (spMixed K) := ok_mixed F_law_mixed F_law_take B g_law_take
  have b_law_mixed : Binds K fdM ["_law_bag_here", "_law_some"] [] := F_law_mixed.bindsN fun _ _ _ _ _ _ us hl => match us, hl with | [_, _], _ => rfl
  have G_law_names : FnOk P w K mg base CX0 3 fN fdN ["_law_bag_here", "_law_many"] spNames := ok_names F_law_names F_law_take F_law_of B g_law_take g_law_of
  have b_law_names : Binds K fdN ["_law_bag_here", "_law_many"] [] := F_law_names.bindsN fun _ _ _ _ _ _ us hl => match us, hl with | [_, _], _ => rfl
  refine F.ok scLRiver (fun vs H Q E h => ?_) (fun cdv A outer s H vs Q E hr h => ?_)
  · obtain ⟨p, m, rfl, _⟩ := h
    rfl
  · obtain ⟨p, m, rfl, hB, hm1, hm2, k⟩ := h
    have hr_law_take : Room 1 _ := hr.mono (by decide)
    have hr_law_mixed : Room 2 _ := hr.mono (by decide)
    have hr_law_names : Room 3 _ := hr.mono (by decide)
    refine ⟨_, PSs.nox (pss_cons
      (ps_par (i := 2) (j := 3) (by rfl) scLRiver.nd rfl rfl (by decide) rfl rfl (pa_cons (pe_call G_law_names hr_law_names (by rfl) g_law_names F_law_names.kp b_law_names .nil pass0 (pa_cons (pv 0) (pa_cons (pv 1) pa_nil))) (pa_cons (pe_lst pa_nil) pa_nil)) (by rfl))
      (pss_cons
      (ps_for PassesOwn.never rfl (pi_range1 (by rfl) B.range (pa_cons (pv 1) pa_nil)) (pg_name (i := 4) scLRiver.nd rfl (Or.inl rfl)) (pss_cons
      (ps_set (i := 5) scLRiver.nd rfl (Or.inl rfl) (pe_call G_law_take hr_law_take (by rfl) g_law_take F_law_take.kp b_law_take .nil pass0 (pa_cons (pv 0) (pa_cons pe_int pa_nil))))
      (pss_one
      (ps_if (PW.pt (pw_or (pt_cmpR op_eq (pv 4) pe_int (nomark _)) (pw_or1 (pt_cmpR op_eq (pv 5) pe_int (nomark _))))) (pss_one
      (ps_expr (pe_bm PySem.F.plainAttrs_list PySem.F.slot_list_append PySem.F.type_list_append mt_append (pv 3) (pa_cons (pe_tup (pa_cons (pe_ix ix_list (pv 2) (pv 4) (fun _ _ => rfl)) (pa_cons pe_str pa_nil))) pa_nil)))) (pss_one
      (ps_expr (pe_bm PySem.F.plainAttrs_list PySem.F.slot_list_append PySem.F.type_list_append mt_append (pv 3) (pa_cons (pe_tup (pa_cons (pe_ix ix_list (pv 2) (pv 4) (fun _ _ => rfl)) (pa_cons (pe_ifExp (pt_cmpR op_lt (pv 5) pe_int (nomark _)) (pe_ix ix_list (pv 2) (pe_op op_sub (pv 4) pe_int) (fun _ _ => rfl)) (pe_ix ix_list (pv 2) (pe_call G_law_take hr_law_take (by rfl) g_law_take F_law_take.kp b_law_take .nil pass0 (pa_cons (pv 0) (pa_cons (pv 4) pa_nil))) (fun _ _ => rfl))) pa_nil))) pa_nil))))))))
      (pss_one
      (ps_ret (pe_call G_law_mixed hr_law_mixed (by rfl) g_law_mixed F_law_mixed.kp b_law_mixed .nil pass0 (pa_cons (pv 0) (pa_cons (pv 3) pa_nil))))))), ?_⟩
    refine ⟨_, rfl, _, rfl, p, m, rfl, hB, by omega, fun H1 n ns u1 B1 nn nnp hn hlen hok => ?_⟩
    refine ⟨Nat.zero_le _, fun l nl => ⟨_, _, rfl, ?_⟩⟩
    have nln : n ≠ l := ne_of_none hn nl
    obtain ⟨b1, hb1, hv1⟩ := id B1
    have npl : p ≠ l := ne_of_none hb1 nl
    have nlH : H l = none := by
      cases e : H l with
      | none => rfl
      | some o =>
        rw [u1 l o e npl.symm] at nl
        cases nl
    refine ⟨_, rfl, (m : Int), rfl, by omega, by omega, ?_⟩
    refine for_range (lo := 0) (n := ((m : Int) - 0).toNat) (fun i σ H3 => ∃ (v4 v5 : Option V) (AR : List (Addr × Row)), σ = [some (.ref p), some (.int (m : Int)), some (.ref n), some (.ref l), v4, v5] ∧ Upto p H H3 ∧ BagAt H3 p ∧ H3 n = some (.lst (ns.map V.str)) ∧ RowsAt H3 l AR ∧ Sofar ns i (rowsOf AR))
      ⟨none, none, [], rfl, u1.trans (Upto.of (same_upd nl)), ⟨b1, by rw [upd_ne npl]; exact hb1, hv1⟩, by rw [upd_ne nln]; exact hn, ⟨upd_same, fun q hq => nomatch hq⟩, ⟨by rw [List.take_zero]; rfl, fun r hr => nomatch hr⟩⟩ ?_ ?_
    · rintro i σ H3 hi ⟨v4, v5, AR, rfl, u3, B3, hn3, hR, hS⟩
      have him : i < ns.length := by omega
      have hnx : ns[i]? = some ns[i] := List.getElem?_eq_getElem him
      have hat : (ns.map V.str)[i]? = some (.str ns[i]) := by
        rw [List.getElem?_map, hnx]
        rfl
      have hARl : AR.length = i := by
        have := congrArg List.length hS.fst
        rw [List.length_map, List.length_map, List.length_take] at this
        omega
      have fin : ∀ (H4 : Hp) (t : Addr) (y : Str), Upto p H H4 → BagAt H4 p → H4 n = some (.lst (ns.map V.str)) → RowsAt H4 l AR → H4 t = none → (y = "sea" ∨ ∃ j, j < i ∧ ns[j]? = some y) →
          (upd H4 t (.tup [.str ns[i], .str y])) l = some (.lst (AR.map fun q => V.ref q.1)) ∧ (AR.map fun q => V.ref q.1).length < sizeLine ∧ ∃ AR' : List (Addr × Row),
          Upto p H (upd (upd H4 t (.tup [.str ns[i], .str y])) l (.lst ((AR.map fun q => V.ref q.1) ++ [.ref t]))) ∧ BagAt (upd (upd H4 t (.tup [.str ns[i], .str y])) l (.lst ((AR.map fun q => V.ref q.1) ++ [.ref t]))) p ∧
          (upd (upd H4 t (.tup [.str ns[i], .str y])) l (.lst ((AR.map fun q => V.ref q.1) ++ [.ref t]))) n = some (.lst (ns.map V.str)) ∧ RowsAt (upd (upd H4 t (.tup [.str ns[i], .str y])) l (.lst ((AR.map fun q => V.ref q.1) ++ [.ref t]))) l AR' ∧ Sofar ns (i + 1) (rowsOf AR') := by
        intro H4 t y u4 B4 hn4 hR4 ht hy
        have nlt : l ≠ t := ne_of_none hR4.lst ht
        have nnt : n ≠ t := ne_of_none hn4 ht
        obtain ⟨b4, hb4, hv4⟩ := B4
        have npt : p ≠ t := ne_of_none hb4 ht
        refine ⟨by rw [upd_ne nlt]; exact hR4.lst, by rw [List.length_map]; exact small1000 (by omega), AR ++ [(t, (ns[i], y))], ?_, ⟨b4, by rw [upd_ne npl, upd_ne npt]; exact hb4, hv4⟩, by rw [upd_ne nln, upd_ne nnt]; exact hn4, ⟨?_, ?_⟩, ?_⟩
        · intro b o hb hne
          have h4 := u4 b o hb hne
          rw [upd_ne (ne_of_none hb nlH), upd_ne (ne_of_none h4 ht)]
          exact h4
        · rw [upd_same, List.map_append]
          rfl
        · intro q hq
          rcases List.mem_append.mp hq with hq | hq
          · have h4 := hR4.tup q hq
            rw [upd_ne (ne_of h4 hR4.lst (fun z => by cases z)), upd_ne (ne_of_none h4 ht)]
            exact h4
          · rw [List.mem_singleton.mp hq, upd_ne nlt.symm, upd_same]
        · show Sofar ns (i + 1) ((AR ++ [(t, (ns[i], y))]).map (·.2))
          rw [List.map_append]
          exact hS.more hok.nd hnx hy
      have nlp : l ≠ p := npl.symm
      have nnp : n ≠ p := nnp
      have step : ∀ xs, BagV xs → Upto p H (upd H3 p (.lst xs)) ∧ BagAt (upd H3 p (.lst xs)) p ∧ (upd H3 p (.lst xs)) n = some (.lst (ns.map V.str)) ∧ RowsAt (upd H3 p (.lst xs)) l AR := fun xs hx =>
        ⟨u3.trans Upto.at_, ⟨xs, upd_same, hx⟩, by rw [upd_ne nnp]; exact hn3, hR.upto B3 nlp Upto.at_⟩
      refine ⟨_, rfl, p, 6, rfl, B3, by decide, by decide, fun r xs hr0 hr1 hx => ?_⟩
      obtain ⟨u4, B4, hn4, hR4⟩ := step xs hx
      refine ⟨_, rfl, rfl, _, rfl, ?_⟩
      refine split_if' (α := Unit) (R := fun _ => True) (C := fun _ => ?C) ?use ?key
      case use =>
        intro key
        refine ite2 (fun hc => ?_) (fun hc => ?_)
        · exact key () trivial
        · refine ⟨_, rfl, rfl, _, rfl, ?_⟩
          refine ite2 (fun hd => ?_) (fun hd => ?_)
          · exact key () trivial
          · have hi0 : 0 < i := by
              rcases Nat.eq_zero_or_pos i with e | e
              · subst e
                exact absurd (decide_eq_true rfl) hc
              · exact e
            refine ⟨_, rfl, .inl ⟨rfl, _, .inl (.inl hR4.lst)⟩, _, rfl, _, rfl, n, _, _, _, rfl, rfl, .inl (.inl hn4), at_of (by omega) hat, ?_⟩
            refine ⟨_, rfl, r, 4, rfl, rfl, _, rfl, ?_⟩
            refine ite2 (fun he => ?_) (fun he => ?_)
            · have hat2 : (ns.map V.str)[i - 1]? = some (.str ns[i - 1]) := by
                rw [List.getElem?_map, List.getElem?_eq_getElem (by omega)]
                rfl
              refine ⟨_, rfl, _, rfl, _, _, rfl, rfl, n, _, _, _, rfl, rfl, .inl (.inl hn4), at_of (j := i - 1) (by omega) hat2, ?_⟩
              refine ⟨by show 2 ≤ sizeLine; decide, fun t nt => ?_⟩
              obtain ⟨f1, f2, AR', f3, f4, f5, f6, f7⟩ := fin _ t ns[i - 1] u4 B4 hn4 hR4 nt (.inr ⟨i - 1, by omega, List.getElem?_eq_getElem (by omega)⟩)
              exact ⟨l, _, _, rfl, rfl, f1, f2, _, _, AR', rfl, f3, f4, f5, f6, f7⟩
            · refine ⟨_, rfl, _, rfl, _, rfl, p, _, rfl, B4, by omega, by omega, fun r2 xs2 hr20 hr21 hx2 => ?_⟩
              have hj : r2.toNat < i := by omega
              have hat2 : (ns.map V.str)[r2.toNat]? = some (.str ns[r2.toNat]) := by
                rw [List.getElem?_map, List.getElem?_eq_getElem (by omega)]
                rfl
              have u5 : Upto p H (upd (upd H3 p (.lst xs)) p (.lst xs2)) := u4.trans Upto.at_
              have hn5 : (upd (upd H3 p (.lst xs)) p (.lst xs2)) n = some (.lst (ns.map V.str)) := by
                rw [upd_ne nnp]
                exact hn4
              refine ⟨n, _, _, _, rfl, rfl, .inl (.inl hn5), at_of (j := r2.toNat) (by omega) hat2, ?_⟩
              refine ⟨by show 2 ≤ sizeLine; decide, fun t nt => ?_⟩
              obtain ⟨f1, f2, AR', f3, f4, f5, f6, f7⟩ := fin _ t ns[r2.toNat] u5 ⟨xs2, upd_same, hx2⟩ hn5 (hR4.upto B4 nlp Upto.at_) nt (.inr ⟨r2.toNat, hj, List.getElem?_eq_getElem (by omega)⟩)
              exact ⟨l, _, _, rfl, rfl, f1, f2, _, _, AR', rfl, f3, f4, f5, f6, f7⟩
      case key =>
        intro _ _
        refine ⟨_, rfl, .inl ⟨rfl, _, .inl (.inl hR4.lst)⟩, _, rfl, _, rfl, n, _, _, _, rfl, rfl, .inl (.inl hn4), at_of (by omega) hat, ?_⟩
        refine ⟨by show 2 ≤ sizeLine; decide, fun t nt => ?_⟩
        obtain ⟨f1, f2, AR', f3, f4, f5, f6, f7⟩ := fin _ t "sea" u4 B4 hn4 hR4 nt (.inl rfl)
        exact ⟨l, _, _, rfl, rfl, f1, f2, _, _, AR', rfl, f3, f4, f5, f6, f7⟩
    · rintro σ H3 ⟨v4, v5, AR, rfl, u3, B3, hn3, hR, hS⟩
      have em : ((m : Int) - 0).toNat = ns.length := by omega
      rw [em] at hS
      have hG : Pre (rowsOf AR) := hS.good hok (by omega)
      have hlA : (rowsOf AR).length = AR.length := List.length_map _
      have hG1 : (rowsOf AR).length ≤ 41 := by
        have := congrArg List.length hS.fst
        rw [List.length_map, List.take_length] at this
        omega
      refine ⟨_, rfl, _, rfl, p, l, _, rfl, B3, npl.symm, .inl (.inl hR.lst), by rw [List.length_map]; omega, fun H5 l5 zs u5 B5 nl5 nl5p hl5 hp => ?_⟩
      obtain ⟨AR', e1, hp'⟩ := perm_lift hp AR rfl
      subst e1
      have nl5H : H l5 = none := by
        cases e : H l5 with
        | none => rfl
        | some o =>
          rw [u3 l5 o e nl5p] at nl5
          cases nl5
      refine k H5 l5 AR' (u3.trans u5) B5 nl5H nl5p ⟨hl5, fun q hq => ?_⟩ (hG.perm (hp'.map _)) ?_
      · have h3 := hR.tup q (hp'.mem_iff.mp hq)
        exact u5 _ _ h3 (bag_ne B3 h3)
      · rw [(hp'.map (·.2)).length_eq]
        have := congrArg List.length hS.fst
        rw [List.length_map, List.take_length] at this
        show (rowsOf AR).length = m
        omega
end
end K0
end
section
set_option Elab.async false
set_option linter.all false
set_option maxRecDepth 100000
namespace L2
open PySem PySem.Spec PyProof.Rows
section
variable {X : Cx}
/-- name = {..} on one line, the name a local -/
theorem k0_setDc {i : Nat} {y : Str} {py : Pos} {kx vx tg iter : Expr} {ifs : List Expr} {scope : Scope} {own : List (Str × Nat)} {pos spos : Pos} {wi : TI} {g : TG} {tt : TT} {tk tv : TE} (hc : X.calm = true) (hN : X.N.Nodup) (hy : X.N[i]? = some y) (hyl : X.env.scope.names.lookup y = some .local)
    (hsw : swapsWith (.DictComp kx vx [⟨tg, iter, ifs, 0⟩] scope pos) (some (.Name y py)) spos.line X.env = pure true) (hi : PI X tg iter wi) (ok : BlkOk X.N X.env.scope scope own)
    (hg : ∀ (s : Shared) (H : Hp) (C : Addr) (cl : List (Str × Addr)) (fp : List Addr), PG (X.blk s H scope (compEnvC scope cl C X.env) fp) tg g) (ht : ∀ (s : Shared) (H : Hp) (C : Addr) (cl : List (Str × Addr)) (fp : List Addr), PTs (X.blk s H scope (compEnvC scope cl C X.env) fp) ifs tt)
    (hk : ∀ (s : Shared) (H : Hp) (C : Addr) (cl : List (Str × Addr)) (fp : List Addr), PE (X.blk s H scope (compEnvC scope cl C X.env) fp) kx tk)
    (he : ∀ (s : Shared) (H : Hp) (C : Addr) (cl : List (Str × Addr)) (fp : List Addr), PE (X.blk s H scope (compEnvC scope cl C X.env) fp) vx tv) (hs : ∀ x, foldedSetIterable iter X.env x = pure x := by intro _; rfl) :
    PS X (.Assign [.Name y py] (.DictComp kx vx [⟨tg, iter, ifs, 0⟩] scope pos) spos) (tAsg (tDc wi g tt tk tv (own.map (·.2))) (gName i)) := by
  refine ⟨fun pins s σ H D I h => ?_⟩
  rw [exec_Assign_Name_used _ _ _ _ hsw]
  refine wpAny_bind (wpAny_standAt (wpAny_bind ?_))
  show wpAny _ X.A (do let _ ← comprehension (.DictComp kx vx [⟨tg, iter, ifs, 0⟩] scope pos) scope X.env (firstIterPos [⟨tg, iter, ifs, 0⟩] pos) newDict false (eval iter X.env) (some (assign (.Name y py) X.env))) _ _ s
  have h : tDc wi g tt tk tv (own.map (·.2)) σ H (fun x H1 => gName i x σ H1 D.nx) := h
  refine wpAny_bind (thn (dc_core (Qf := fun _ s' => SP X pins D .next s') hc hN I hi ok hg ht hk he hs h fun L C s' m H' I' q hn f => ?_) fun _ s' hq => wpAny_pure (wpAny_pure hq))
  show wpAny _ _ (assign (.Name y py) X.env (.ref L)) _ _ _
  refine wpAny_assign_Name (store_ok2 (v := V.ref L) I' hN hy (.inl hyl) rfl (fun s2 I2 ⟨a, sb, ha⟩ => ?_) (.inr hyl))
  obtain ⟨f0, f1, f2, f3, f4, f5⟩ := f
  have haC : C ≠ a := by
    rcases ha with z | z
    · rw [z]; exact f1
    · exact fun e => f4 y a z e.symm
  refine ⟨m, hn.sameBut sb haC, fun h3 sb3 => ?_⟩
  exact ⟨_, H', I2.turned (t' := s2.toks) (fun b o hb e => (sb3.2 b hb).trans e) f0 f1 f3 f4 f5, q⟩
theorem k0_sw {kx vx : Expr} {gs : List Comprehension} {scope : Scope} {pos py : Pos} {y : Str} {l : Nat} {env : Env} (hk : env.scope.kind = .function) (hy : env.scope.names.lookup y = some .local) (hl : (py.line == pos.line) = true)
    (ha : (scope.names.any fun (n, k) => n == y && (k == .local || k == .cell)) = false) : swapsWith (.DictComp kx vx gs scope pos) (some (.Name y py)) l env = pure true := by
  have ky : env.kindOf y = some .local := hy
  have hb : env.blockKind = .function := by unfold Env.blockKind; rw [hk]; rfl
  unfold swapsWith
  simp only [hb, ky, ha, Expr.pos, hl]
  rfl
/-- len of a dict, locked or not -/
theorem k0_lenD : CallR X (.builtin "len") (fun xs H Q => ∃ a kvs, xs = [V.ref a] ∧ Rd H a (.dK kvs) ∧ Q (.int kvs.length) H) := by
  intro pins s σ H xs us Q I r h
  obtain ⟨a, kvs, rfl, ha, q⟩ := h
  obtain ⟨u, rfl, ru⟩ := vals1 r
  cases ru
  exact d_len I ha fun t s' I' => ⟨.int kvs.length, H, I', ⟨t, rfl⟩, q⟩
end
end L2
namespace K0
open PySem PySem.Spec PyProof.Rows L2
theorem iteD {c A B : Prop} [Decidable c] (hc : c) (h : A) : if decide c = true then A else B := by
  rw [decide_eq_true hc]
  exact iteT h
theorem iteDn {c A B : Prop} [Decidable c] (hc : ¬ c) (h : B) : if decide c = true then A else B := by
  rw [decide_eq_false hc]
  exact iteF h
/-- the module's constants -/
structure Gc (mg : Str → Option Value) (tS tM tL : Tok) : Prop where
  SEA : mg "SEA" = some (.str "sea" tS)
  MOST_ROWS : mg "MOST_ROWS" = some (.int 40 tM)
  LONGEST_NAME : mg "LONGEST_NAME" = some (.int 8 tL)
abbrev scIsName_N : List Str := ["value", "letter"]
abbrev scIsName_S : Stmt := sIsName
theorem scIsName : FnScope scIsName_N ["value"] (defScope sIsName) := ⟨rfl, rfl, rfl, by decide +kernel, rfl, by decide +kernel, by decide +kernel⟩
theorem scIsRow : FnScope ["entry"] ["entry"] (defScope sIsRow) := ⟨rfl, rfl, rfl, by decide +kernel, rfl, by decide +kernel, by decide +kernel⟩
def spIsName : Sp := fun vs H Q _ => ∃ x : Str, vs = [.str x] ∧ NameOk x ∧ ∀ H', Same H H' → Q (.bl true) H'
/-- a row: a name that is not the sea's, and a name -/
structure RowOk (r : Row) : Prop where
  a : NameOk r.1
  b : NameOk r.2
  s : r.1 ≠ "sea"
def spIsRow (K : PySem.W.Frag) : Sp := fun vs H Q _ => ∃ (t : Addr) (r : Row), vs = [.ref t] ∧ H t = some (.tup [.str r.1, .str r.2]) ∧ RowOk r ∧ ∀ H', Same H H' → Q (.bl true) H'
theorem le_low1 {c : Nat} (h : Low c) : (!decide (([c] : List Nat) < [97])) = true := by
  have : ¬ ([c] : List Nat) < [97] := by
    intro z
    rw [List.cons_lt_cons_iff] at z
    rcases z with z | ⟨_, z⟩
    · have := h.1; omega
    · exact absurd z (List.not_lt_nil _)
  rw [decide_eq_false this]
  rfl
theorem le_low2 {c : Nat} (h : Low c) : (!decide (([122] : List Nat) < [c])) = true := by
  have : ¬ ([122] : List Nat) < [c] := by
    intro z
    rw [List.cons_lt_cons_iff] at z
    rcases z with z | ⟨_, z⟩
    · have := h.2; omega
    · exact absurd z (List.not_lt_nil _)
  rw [decide_eq_false this]
  rfl
theorem sea_ok : NameOk "sea" := ⟨by rw [sea_list]; decide, by rw [sea_list]; decide, by
  rw [sea_list]
  intro c hc
  have : c = 115 ∨ c = 101 ∨ c = 97 := by simpa [seaL] using hc
  constructor <;> omega⟩
section
variable {P : Program} {w : World} {K : PySem.W.Frag} {mg : Str → Option Value} {base : Heap} {tS tM tL : Tok}
theorem ok_isname {f : Addr} {fd : FuncData} (F : FnP K "is_name" sIsName f fd) (B : Bl mg) (C : Gc mg tS tM tL) : FnOk P w K mg base CX0 1 f fd ["value"] spIsName := by
  refine F.ok scIsName (fun vs H Q E h => ?_) (fun cdv A outer s H vs Q E hr h => ?_)
  · obtain ⟨x, rfl, _⟩ := h
    rfl
  · obtain ⟨x, rfl, hx, k⟩ := h
    refine ⟨_, PSs.nox (pss_cons
      (ps_if (pt_not (pt_val (pe_callB call_isi (by rfl) B.isinstance (by decide +kernel) (pa_cons (pv 0) (pa_cons (pe_bltn (v := .ty "str") (by rfl) B.str (by decide +kernel) rfl) pa_nil))))) (pss_one
      (ps_ret pe_bl)) pss_nil)
      (pss_one
      (ps_ret (pe_and (pe_chain op_le op_le pe_int (pe_callB call_len_str (by rfl) B.len PySem.boot_len (pa_cons (pv 0) pa_nil)) (pe_glob (v := .int 8) (by rfl) C.LONGEST_NAME ⟨_, rfl⟩)) (pe_one (pe_callB (cr_all rfl) (by rfl) B.all (by decide +kernel) (pa_cons (pe_lc (own := [("letter", 1)]) (g := gName 1) (tt := tYes) (by rfl) scIsName.nd (pi_str (pv 0)) (blkOk_by (own := [("letter", 1)]) (N := scIsName_N) (sc := defScope scIsName_S) (by decide +kernel)) (fun _ _ _ _ _ => (pg_name (i := 1) scIsName.nd rfl (Or.inl rfl))) (fun _ _ _ _ _ => pts_nil) (fun _ _ _ _ _ => (pe_chain op_le_str op_le_str pe_str (pv 1) pe_str))) pa_nil))))))), ?_⟩
    refine ⟨_, rfl, .str x, .ty "str", _, _, true, rfl, .ty "str", .base (.str x), kit_ty (by decide +kernel), _, rfl, ?_⟩
    refine iteF ?_
    have hz : x.length ≤ sizeLine := Nat.le_of_lt (small1000 (by have := hx.most; rw [len_list]; omega))
    have hz1 : 1 ≤ x.length := by rw [len_list]; exact hx.one
    have hz2 : x.length ≤ 8 := by rw [len_list]; exact hx.most
    refine ⟨_, rfl, x, rfl, hz, 1, (x.length : Int), rfl, rfl, _, rfl, ?_⟩
    refine iteD (by omega) ?_
    refine ⟨_, _, rfl, rfl, _, rfl, ?_⟩
    refine iteD (by omega) ?_
    refine ⟨_, rfl, x, rfl, fun D hD => ?_⟩
    refine lc_it (walk_str (z := x)) (fun i H2 => Same H H2 ∧ H2 D = some (.lst ((List.replicate i true).map V.bl))) ⟨same_upd hD, upd_same⟩ (fun _ _ _ _ => trivial) ?_ ?_
    · rintro i v H2 H3 hi ⟨s2, hD2⟩ ⟨e, c, hc, ev⟩
      subst e
      subst ev
      have hlow : Low c := hx.low c (by
        rw [← Array.getElem?_toList] at hc
        exact List.mem_of_getElem? hc)
      refine ⟨rfl, ?_⟩
      unfold tYes
      refine iteT ?_
      refine ⟨_, rfl, "a", ⟨#[c]⟩, rfl, rfl, _, rfl, ?_⟩
      have q1 := le_low1 hlow
      have q2 := le_low2 hlow
      refine Eq.mpr (if_pos q1) ?_
      refine ⟨⟨#[c]⟩, "z", rfl, rfl, _, hD2, ?_, fun b o hb => ?_, ?_⟩
      · rw [List.length_map, List.length_replicate]
        have h8 := hx.most
        rw [Array.length_toList] at h8
        exact small1000 (by omega)
      · rw [upd_ne (ne_of_none hb hD)]
        exact s2 b o hb
      · rw [upd_same, List.replicate_succ', List.map_append]
        have q3 : (!decide ((("z" : Str)).cps.toList < (⟨#[c]⟩ : Str).cps.toList)) = true := q2
        rw [q3]
        rfl
    · rintro H2 ⟨s2, hD2⟩
      refine ⟨D, List.replicate x.cps.size true, rfl, .inl (.inl hD2), ?_⟩
      have e : ((List.replicate x.cps.size true).all id) = true := by
        rw [List.all_eq_true]
        intro b hb
        exact (List.mem_replicate.mp hb).2
      rw [e]
      exact k H2 s2
theorem ok_isrow {f fN : Addr} {fd fdN : FuncData} (F : FnP K "_is_row" sIsRow f fd) (F_is_name : FnP K "is_name" sIsName fN fdN) (gis_name : mg "is_name" = some (.ref fN)) (B : Bl mg) (C : Gc mg tS tM tL) : FnOk P w K mg base CX0 2 f fd ["entry"] (spIsRow K) := by
  have Gis_name : FnOk P w K mg base CX0 1 fN fdN ["value"] spIsName := ok_isname F_is_name B C
  have bis_name : Binds K fdN ["value"] [] := F_is_name.bindsN fun _ _ _ _ _ _ us hl => match us, hl with | [_], _ => rfl
  refine F.ok scIsRow (fun vs H Q E h => ?_) (fun cdv A outer s H vs Q E hr h => ?_)
  · obtain ⟨t, r, rfl, _⟩ := h
    rfl
  · obtain ⟨t, r, rfl, ht, hR, k⟩ := h
    have hris_name : Room 1 _ := hr.mono (by decide)
    have Fis_name := F_is_name
    refine ⟨_, PSs.nox (pss_cons
      (ps_if (PW.pt (pw_or (pt_not (pt_val (pe_callB call_isi (by rfl) B.isinstance (by decide +kernel) (pa_cons (pv 0) (pa_cons (pe_bltn (v := .ty "tuple") (by rfl) B.tuple (by decide +kernel) rfl) pa_nil))))) (pw_or1 (pt_cmpR op_ne (pe_callB call_len_seq (by rfl) B.len PySem.boot_len (pa_cons (pv 0) pa_nil)) pe_int (nomark _))))) (pss_one
      (ps_ret pe_bl)) pss_nil)
      (pss_one
      (ps_ret (pe_and (pe_call Gis_name hris_name (by rfl) gis_name Fis_name.kp bis_name .nil pass0 (pa_cons (pe_ix ix_tup (pv 0) pe_int (fun _ _ => rfl)) pa_nil)) (pe_and (pe_call Gis_name hris_name (by rfl) gis_name Fis_name.kp bis_name .nil pass0 (pa_cons (pe_ix ix_tup (pv 0) pe_int (fun _ _ => rfl)) pa_nil)) (pe_one (pe_cmpR op_ne (pe_ix ix_tup (pv 0) pe_int (fun _ _ => rfl)) (pe_glob (v := .str "sea") (by rfl) C.SEA ⟨_, rfl⟩) (nomark _)))))))), ?_⟩
    have g : ∀ H', Same H H' → SqT K H' t [.str r.1, .str r.2] := fun H' s => .inl (.inl (s _ _ ht))
    refine ⟨_, rfl, .ref t, .ty "tuple", _, _, true, rfl, .ty "tuple", .base (.tup ht), kit_ty (by decide +kernel), _, rfl, ?_⟩
    refine iteF ?_
    refine ⟨_, rfl, t, _, rfl, .inr (g _ (.refl _)), rfl, _, rfl, ?_⟩
    refine iteNS rfl ?_
    refine ⟨_, rfl, t, _, _, _, rfl, rfl, g _ (.refl _), atI_nat (j := 0) rfl, r.1, rfl, hR.a, fun H1 s1 => ⟨_, rfl, iteT ?_⟩⟩
    refine ⟨_, rfl, t, _, _, _, rfl, rfl, g _ s1, atI_nat (j := 1) rfl, r.2, rfl, hR.b, fun H2 s2 => ⟨_, rfl, iteT ?_⟩⟩
    refine ⟨_, rfl, t, _, _, _, rfl, rfl, g _ (s1.trans s2), atI_nat (j := 0) rfl, rfl, ?_⟩
    have e : (!decide (V.str r.1 = V.str "sea")) = true := by
      rw [decide_eq_false (fun z => hR.s (V.str.inj z))]
      rfl
    show Q (.bl (!decide (V.str r.1 = V.str "sea"))) H2
    rw [e]
    exact k H2 (s1.trans s2)
end
end K0
end
section
set_option Elab.async false
set_option linter.all false
set_option maxRecDepth 100000
namespace K0
open PySem PySem.Spec PyProof.Rows L2
/-! ### dicts by names -/
def kmap (f : Str → V) (ns : List Str) : List (Key × V) := ns.map fun n => ((Sum.inr n : Key), f n)
theorem kmap_len (f : Str → V) (ns : List Str) : (kmap f ns).length = ns.length := List.length_map _
theorem kmap_keys (f : Str → V) (ns : List Str) : (kmap f ns).map (·.1) = ns.map Sum.inr := by
  unfold kmap
  rw [List.map_map]
  rfl
theorem kmap_not {f : Str → V} {ns : List Str} {x : Str} (h : x ∉ ns) : valV (kmap f ns) (Sum.inr x) = none := by
  cases e : valV (kmap f ns) (Sum.inr x) with
  | none => rfl
  | some v =>
    have m := valV_in e
    rw [kmap_keys] at m
    obtain ⟨y, hy, ey⟩ := List.mem_map.mp m
    rw [Sum.inr.inj ey] at hy
    exact absurd hy h
theorem kmap_at {f : Str → V} : ∀ {ns : List Str} {x : Str}, x ∈ ns → valV (kmap f ns) (Sum.inr x) = some (f x)
  | n :: r, x, h => by
    by_cases e : n = x
    · subst e
      unfold kmap valV
      rw [List.map_cons, List.find?_cons_of_pos (by simp)]
      rfl
    · have h' : x ∈ r := (List.mem_cons.mp h).resolve_left fun z => e z.symm
      have ih := kmap_at (f := f) h'
      unfold kmap valV at ih ⊢
      rw [List.map_cons, List.find?_cons_of_neg (by simp [e])]
      exact ih
theorem kmap_put {f : Str → V} {ns : List Str} {x : Str} (h : x ∉ ns) : putK (kmap f ns) (Sum.inr x) (f x) = kmap f (ns ++ [x]) := by
  rw [putK_new _ (kmap_not h)]
  unfold kmap
  rw [List.map_append]
  rfl
theorem GoodRows.row {R : List Row} (g : GoodRows R) {r : Row} (h : r ∈ R) : RowOk r := by
  have h1 : r.1 ∈ R.map (·.1) := List.mem_map.mpr ⟨r, h, rfl⟩
  obtain ⟨rk, hr⟩ := g.rank
  refine ⟨g.nm.ok _ h1, ?_, g.nm.sea _ h1⟩
  rcases hr r h with e | ⟨e, _⟩
  · rw [e]
    exact sea_ok
  · exact g.nm.ok _ e
theorem row_at {AR : List (Addr × Row)} {i : Nat} {x : V} (e : (AR.map fun q => V.ref q.1)[i]? = some x) (hi : i < AR.length) : x = .ref AR[i].1 := by
  rw [List.getElem?_map, List.getElem?_eq_getElem hi] at e
  exact (Option.some.inj e).symm
theorem nmlen (AR : List (Addr × Row)) : ((rowsOf AR).map (·.1)).length = AR.length := by rw [List.length_map, List.length_map]
abbrev scNeedRows_N : List Str := ["rows", "weirs", "place", "entry", "_", "low"]
theorem scNeedRows : FnScope scNeedRows_N ["rows"] (defScope sNeedRows) := ⟨rfl, rfl, rfl, by decide +kernel, rfl, by decide +kernel, by decide +kernel⟩
def spNeedRows (K : PySem.W.Frag) : Sp := fun vs H Q _ => ∃ (l : Addr) (AR : List (Addr × Row)), vs = [.ref l] ∧ RowsAt H l AR ∧ GoodRows (rowsOf AR) ∧ ∀ H', Same H H' → Q .non H'
section
variable {P : Program} {w : World} {K : PySem.W.Frag} {mg : Str → Option Value} {base : Heap} {tS tM tL : Tok}
theorem ok_needrows {f fN fR : Addr} {fd fdN fdR : FuncData} (F : FnP K "_need_rows" sNeedRows f fd) (F_is_name : FnP K "is_name" sIsName fN fdN) (gis_name : mg "is_name" = some (.ref fN))
    (F_is_row : FnP K "_is_row" sIsRow fR fdR) (g_is_row : mg "is_row_rivers" = some (.ref fR)) (B : Bl mg) (C : Gc mg tS tM tL) : FnOk P w K mg base CX0 3 f fd ["rows"] (spNeedRows K) := by
  have G_is_row : FnOk P w K mg base CX0 2 fR fdR ["entry"] (spIsRow K) := ok_isrow F_is_row F_is_name gis_name B C
  have b_is_row : Binds K fdR ["entry"] [] := F_is_row.bindsN fun _ _ _ _ _ _ us hl => match us, hl with | [_], _ => rfl
  refine F.ok scNeedRows (fun vs H Q E h => ?_) (fun cdv A outer s H vs Q E hr h => ?_)
  · obtain ⟨l, AR, rfl, _⟩ := h
    rfl
  · obtain ⟨l, AR, rfl, hR, hG, k⟩ := h
    have hu := hu_of hr
    have hr_is_row : Room 2 _ := hr.mono (by decide)
    refine ⟨_, PSs.nox (pss_cons
      (ps_if (PW.pt (pw_or (pt_not (pt_val (pe_callB call_isi (by rfl) B.isinstance (by decide +kernel) (pa_cons (pv 0) (pa_cons (pe_bltn (v := .ty "list") (by rfl) B.list (by decide +kernel) rfl) pa_nil))))) (pw_or1 (pt_not (pt_chain op_le op_le pe_int (pe_callB call_len_seq (by rfl) B.len PySem.boot_len (pa_cons (pv 0) pa_nil)) (pe_glob (v := .int 40) (by rfl) C.MOST_ROWS ⟨_, rfl⟩)))))) (pss_one
      ps_never) pss_nil)
      (pss_cons
      (ps_set (i := 1) scNeedRows.nd rfl (Or.inl rfl) pe_dnewK)
      (pss_cons
      (ps_for PassesOwn.never rfl (pi_enum (by rfl) B.enumerate (pa_cons (pv 0) pa_nil)) (pg_tup (by rfl) (pgs_cons (pg_name (i := 2) scNeedRows.nd rfl (Or.inl rfl)) (pgs_cons (pg_name (i := 3) scNeedRows.nd rfl (Or.inl rfl)) pgs_nil))) (pss_cons
      (ps_if (PW.pt (pw_or (pt_not (pt_val (pe_call G_is_row hr_is_row (by rfl) g_is_row F_is_row.kp b_is_row .nil pass0 (pa_cons (pv 3) pa_nil)))) (pw_or1 (pt_cmp (pc_din hu (pe_ix ix_tup (pv 3) pe_int (fun _ _ => rfl)) (pv 1)))))) (pss_one
      ps_never) pss_nil)
      (pss_one
      (ps_dput hu (pv 1) (pe_ix ix_tup (pv 3) pe_int (fun _ _ => rfl)) pe_bl rfl))))
      (pss_one
      (ps_for PassesOwn.never rfl (pi_enum (by rfl) B.enumerate (pa_cons (pv 0) pa_nil)) (pg_tup (by rfl) (pgs_cons (pg_name (i := 2) scNeedRows.nd rfl (Or.inl rfl)) (pgs_cons (pg_tup (by rfl) (pgs_cons (pg_name (i := 4) scNeedRows.nd rfl (Or.inl rfl)) (pgs_cons (pg_name (i := 5) scNeedRows.nd rfl (Or.inl rfl)) pgs_nil))) pgs_nil))) (pss_one
      (ps_if (PW.pt (pw_and (pt_cmpR op_ne (pv 5) (pe_glob (v := .str "sea") (by rfl) C.SEA ⟨_, rfl⟩) (nomark _)) (pw_and1 (pt_cmp (pc_dnotin hu (pv 5) (pv 1)))))) (pss_one
      ps_never) pss_nil))))))), ?_⟩
    refine ⟨_, rfl, .ref l, .ty "list", _, _, true, rfl, .ty "list", .base (.lst hR.lst), kit_ty (by decide +kernel), _, rfl, ?_⟩
    refine iteF ?_
    have hlen : (AR.map fun q => V.ref q.1).length = (rowsOf AR).length := by rw [List.length_map, List.length_map]
    have ho := hG.one
    have hm := hG.most
    refine ⟨_, rfl, l, _, rfl, .inl (.inl (.inl hR.lst)), 1, _, rfl, rfl, _, rfl, ?_⟩
    refine iteD (by omega) ?_
    refine ⟨_, _, rfl, rfl, _, rfl, ?_⟩
    refine iteNS (by omega) ?_
    intro D hD
    have s0 : Same H (upd H D (.dK [])) := same_upd hD
    have hnd := hG.nm.nd
    -- the first loop
    refine ⟨_, rfl, l, _, rfl, s0.seq (.inl (.inl hR.lst)), ?_⟩
    refine for_it (walk_enum (xs := AR.map fun q => V.ref q.1)) (fun i σ H2 => ∃ (v2 v3 v4 v5 : Option V), σ = [some (.ref l), some (.ref D), v2, v3, v4, v5] ∧ Same H H2 ∧ H2 D = some (.dK (kmap (fun _ => .bl true) (((rowsOf AR).map (·.1)).take i))))
      ⟨_, _, _, _, rfl, s0, by rw [upd_same, List.take_zero]; rfl⟩ (fun _ _ _ _ h => by obtain ⟨_, _, _, _, _, s, _⟩ := h; exact s.seq (.inl (.inl hR.lst))) ?_ ?_
    · rintro i x σ H2 H3 hi ⟨v2, v3, v4, v5, rfl, s2, hD2⟩ ⟨T, x1, x2, rfl, hT, rfl, e1, e2⟩
      rw [List.length_map] at hi
      have hx1 : x1 = .int (i : Int) := (Option.some.inj e1).symm
      subst hx1
      have hx2 : x2 = .ref AR[i].1 := row_at e2 hi
      subst hx2
      have hmem : AR[i] ∈ AR := List.getElem_mem hi
      have hrow : AR[i].2 ∈ rowsOf AR := List.mem_map.mpr ⟨_, hmem, rfl⟩
      have hok := hG.row hrow
      have s3 : Same H (upd H2 T (.tup [.int (i : Int), .ref AR[i].1])) := s2.trans (same_upd hT)
      have hD3 : (upd H2 T (.tup [.int (i : Int), .ref AR[i].1])) D = some (.dK (kmap (fun _ => .bl true) (((rowsOf AR).map (·.1)).take i))) := by
        rw [upd_ne (ne_of_none hD2 hT)]
        exact hD2
      have hni : ((rowsOf AR).map (·.1))[i]? = some AR[i].2.1 := by
        rw [List.getElem?_map, List.getElem?_map, List.getElem?_eq_getElem hi]
        rfl
      have hnot : AR[i].2.1 ∉ ((rowsOf AR).map (·.1)).take i := by
        intro hm2
        obtain ⟨j, hj⟩ := List.getElem?_of_mem hm2
        have hji : j < i := by
          have := (List.getElem?_eq_some_iff.mp hj).1
          rw [List.length_take] at this
          omega
        rw [List.getElem?_take_of_lt hji] at hj
        have := nd_ix hnd hj hni
        omega
      refine ⟨T, _, rfl, .inl (.inl upd_same), rfl, _, _, rfl, _, _, rfl, rfl, ?_⟩
      refine ⟨_, rfl, AR[i].1, AR[i].2, rfl, s3 _ _ (hR.tup _ hmem), hok, fun H4 s4 => ⟨_, rfl, ?_⟩⟩
      refine iteF ?_
      have s5 : Same H H4 := s3.trans s4
      have hD4 := s4 _ _ hD3
      have ht4 : SqT K H4 AR[i].1 [.str AR[i].2.1, .str AR[i].2.2] := .inl (.inl (s5 _ _ (hR.tup _ hmem)))
      refine ⟨_, rfl, AR[i].1, _, _, _, rfl, rfl, ht4, atI_nat (j := 0) rfl, _, rfl, D, _, rfl, DGet.k (k := Sum.inr AR[i].2.1) hD4, _, rfl, ?_⟩
      rw [kmap_not hnot]
      refine iteF ?_
      refine ⟨_, rfl, _, rfl, AR[i].1, _, _, _, rfl, rfl, ht4, atI_nat (j := 0) rfl, D, _, rfl, DPut.k (k := Sum.inr AR[i].2.1) hD4 ?_, ?_⟩
      · rw [kmap_len, List.length_take, nmlen]
        rw [List.length_map] at hm
        exact small1000 (by omega)
      · refine ⟨_, _, _, _, rfl, fun b o hb => ?_, ?_⟩
        · rw [upd_ne (ne_of_none hb hD)]
          exact s5 b o hb
        · have := kmap_put (f := fun _ => .bl true) hnot
          rw [upd_same, this, List.take_add_one, hni]
          rfl
    · rintro σ H2 ⟨v2, v3, v4, v5, rfl, s2, hD2⟩
      rw [List.take_of_length_le (by rw [List.length_map, List.length_map, List.length_map]; exact Nat.le_refl _)] at hD2
      obtain ⟨rk, hrk⟩ := hG.rank
      refine ⟨_, rfl, l, _, rfl, s2.seq (.inl (.inl hR.lst)), ?_⟩
      refine for_it (walk_enum (xs := AR.map fun q => V.ref q.1)) (fun i σ H3 => ∃ (v2 v3 v4 v5 : Option V), σ = [some (.ref l), some (.ref D), v2, v3, v4, v5] ∧ Same H2 H3)
        ⟨_, _, _, _, rfl, .refl _⟩ (fun _ _ _ _ h => by obtain ⟨_, _, _, _, _, s⟩ := h; exact (s2.trans s).seq (.inl (.inl hR.lst))) ?_ ?_
      · rintro i x σ H3 H4 hi ⟨v2, v3, v4, v5, rfl, s3⟩ ⟨T, x1, x2, rfl, hT, rfl, e1, e2⟩
        rw [List.length_map] at hi
        have hx2 : x2 = .ref AR[i].1 := row_at e2 hi
        subst hx2
        have hmem : AR[i] ∈ AR := List.getElem_mem hi
        have hrow : AR[i].2 ∈ rowsOf AR := List.mem_map.mpr ⟨_, hmem, rfl⟩
        have s4 : Same H2 (upd H3 T (.tup [x1, .ref AR[i].1])) := s3.trans (same_upd hT)
        have ht4 : SqT K (upd H3 T (.tup [x1, .ref AR[i].1])) AR[i].1 [.str AR[i].2.1, .str AR[i].2.2] := .inl (.inl (s4 _ _ (s2 _ _ (hR.tup _ hmem))))
        refine ⟨T, _, rfl, .inl (.inl upd_same), rfl, _, _, rfl, _, _, rfl, _, _, rfl, ht4, rfl, _, _, rfl, _, _, rfl, rfl, rfl, ?_⟩
        have hc : AR[i].2.2 = "sea" ∨ AR[i].2.2 ∈ (rowsOf AR).map (·.1) := by
          rcases hrk _ hrow with e | ⟨e, _⟩
          · exact .inl e
          · exact .inr e
        refine ⟨_, rfl, rfl, _, rfl, ?_⟩
        refine ite2 (fun h1 => ?_) (fun h1 => ?_)
        · have hmm : AR[i].2.2 ∈ (rowsOf AR).map (·.1) := by
            rcases hc with e | e
            · rw [decide_eq_true (congrArg V.str e)] at h1
              cases h1
            · exact e
          refine ⟨_, rfl, _, rfl, D, _, rfl, DGet.k (k := Sum.inr AR[i].2.2) (s4 _ _ hD2), _, rfl, ?_⟩
          rw [kmap_at hmm]
          refine iteF ?_
          exact ⟨_, _, _, _, rfl, s4⟩
        · exact ⟨_, _, _, _, rfl, s4⟩
      · rintro σ H3 ⟨v2, v3, v4, v5, rfl, s3⟩
        exact k H3 (s2.trans s3)
end
end K0
end
section
set_option Elab.async false
set_option linter.all false
set_option maxRecDepth 100000
namespace K0
open PySem PySem.Spec PyProof.Rows L2
/-! ### courses -/
def lowR (R : List Row) (x : Str) : Str := ((R.find? fun r => decide (r.1 = x)).map (·.2)).getD "sea"
def itr (low : Str → Str) : Nat → Str → Str
  | 0, x => x
  | n + 1, x => low (itr low n x)
theorem itr_shift (low : Str → Str) : ∀ (n : Nat) (x : Str), itr low (n + 1) x = itr low n (low x)
  | 0, _ => rfl
  | n + 1, x => by
    show low (itr low (n + 1) x) = low (itr low n (low x))
    rw [itr_shift low n x]
def crs (low : Str → Str) : Nat → Str → List Str
  | 0, _ => []
  | n + 1, x => if x = "sea" then [] else x :: crs low n (low x)
def course (R : List Row) (x : Str) : List Str := crs (lowR R) R.length x
theorem low_row {R : List Row} {x : Str} (h : x ∈ R.map (·.1)) : ∃ r ∈ R, r.1 = x ∧ r.2 = lowR R x := by
  unfold lowR
  cases e : R.find? (fun r => decide (r.1 = x)) with
  | none =>
    obtain ⟨r, hr, er⟩ := List.mem_map.mp h
    have := List.find?_eq_none.mp e r hr
    exact absurd (decide_eq_true er) this
  | some r =>
    have h1 := List.mem_of_find?_eq_some e
    have h2 := List.find?_some e
    exact ⟨r, h1, of_decide_eq_true h2, rfl⟩
theorem low_at {R : List Row} (hd : (R.map (·.1)).Nodup) {r : Row} (h : r ∈ R) : lowR R r.1 = r.2 := by
  obtain ⟨q, hq, e1, e2⟩ := low_row (List.mem_map.mpr ⟨r, h, rfl⟩)
  obtain ⟨i, hi⟩ := List.getElem?_of_mem h
  obtain ⟨j, hj⟩ := List.getElem?_of_mem hq
  have g1 : (R.map (·.1))[i]? = some r.1 := by rw [List.getElem?_map, hi]; rfl
  have g2 : (R.map (·.1))[j]? = some r.1 := by rw [List.getElem?_map, hj, ← e1]; rfl
  have : i = j := nd_ix hd g1 g2
  subst this
  rw [hi] at hj
  rw [← e2, Option.some.inj hj]
theorem sub_length : ∀ {c ns : List Str}, c.Nodup → (∀ x ∈ c, x ∈ ns) → c.length ≤ ns.length
  | [], _, _, _ => Nat.zero_le _
  | a :: r, ns, h, hs => by
    obtain ⟨h1, h2⟩ := List.nodup_cons.mp h
    have ha : a ∈ ns := hs a List.mem_cons_self
    have ih := sub_length (ns := ns.erase a) h2 fun x hx => (List.mem_erase_of_ne (fun e => h1 (by rw [← e]; exact hx))).mpr (hs x (List.mem_cons_of_mem _ hx))
    rw [List.length_erase_of_mem ha] at ih
    have : 0 < ns.length := List.length_pos_of_mem ha
    rw [List.length_cons]
    omega
theorem crs_full (low : Str → Str) : ∀ (m n : Nat) (x : Str), m ≤ n → (∀ i, i < m → itr low i x ≠ "sea") → itr low m x = "sea" → crs low n x = (List.range m).map fun i => itr low i x
  | 0, n, x, _, _, h => by
    have h : x = "sea" := h
    subst h
    cases n with
    | zero => rfl
    | succ n => rfl
  | m + 1, 0, _, h, _, _ => absurd h (by omega)
  | m + 1, n + 1, x, h, h1, h2 => by
    have h0 : x ≠ "sea" := h1 0 (by omega)
    have ih := crs_full low m n (low x) (by omega) (fun i hi => by rw [← itr_shift]; exact h1 (i + 1) (by omega)) (by rw [← itr_shift]; exact h2)
    show (if x = "sea" then [] else x :: crs low n (low x)) = _
    rw [if_neg h0, ih, List.range_succ_eq_map, List.map_cons, List.map_map]
    refine congrArg (x :: ·) (List.map_congr_left fun i _ => ?_)
    exact (itr_shift low i x).symm
theorem reach {R : List Row} {rk : Str → Nat} (hr : ∀ r ∈ R, r.2 = "sea" ∨ (r.2 ∈ R.map (·.1) ∧ rk r.2 < rk r.1)) : ∀ (k : Nat) (x : Str), rk x ≤ k → x ∈ R.map (·.1) →
    ∃ m, 1 ≤ m ∧ (∀ i, i < m → itr (lowR R) i x ∈ R.map (·.1)) ∧ (∀ i j, i < j → j < m → rk (itr (lowR R) j x) < rk (itr (lowR R) i x)) ∧ itr (lowR R) m x = "sea" := by
  intro k
  induction k with
  | zero =>
    intro x hk hx
    obtain ⟨r, hrm, e1, e2⟩ := low_row hx
    rcases hr r hrm with e | ⟨e, h⟩
    · refine ⟨1, Nat.le_refl _, fun i hi => ?_, fun i j hij hj => by omega, ?_⟩
      · have : i = 0 := by omega
        subst this
        exact hx
      · show lowR R x = "sea"
        rw [← e2, e]
    · rw [e1] at h
      omega
  | succ k ih =>
    intro x hk hx
    obtain ⟨r, hrm, e1, e2⟩ := low_row hx
    rcases hr r hrm with e | ⟨e, h⟩
    · refine ⟨1, Nat.le_refl _, fun i hi => ?_, fun i j hij hj => by omega, ?_⟩
      · have : i = 0 := by omega
        subst this
        exact hx
      · show lowR R x = "sea"
        rw [← e2, e]
    · rw [e1, e2] at h
      rw [e2] at e
      obtain ⟨m, h1, h2, h3, h4⟩ := ih (lowR R x) (by omega) e
      have first : ∀ j, j < m → rk (itr (lowR R) j (lowR R x)) < rk x := by
        intro j hj
        rcases Nat.eq_zero_or_pos j with z | z
        · subst z
          exact h
        · exact Nat.lt_trans (h3 0 j z hj) h
      refine ⟨m + 1, by omega, fun i hi => ?_, fun i j hij hj => ?_, by rw [itr_shift]; exact h4⟩
      · cases i with
        | zero => exact hx
        | succ i =>
          rw [itr_shift]
          exact h2 i (by omega)
      · cases j with
        | zero => omega
        | succ j =>
          rw [itr_shift]
          cases i with
          | zero => exact first j (by omega)
          | succ i =>
            rw [itr_shift]
            exact h3 i j (by omega) (by omega)
/-- the course of a weir, and how long it is -/
structure CourseIs (R : List Row) (x : Str) (m : Nat) : Prop where
  one : 1 ≤ m
  most : m ≤ R.length
  eq : course R x = (List.range m).map fun i => itr (lowR R) i x
  mem : ∀ i, i < m → itr (lowR R) i x ∈ R.map (·.1)
  sea : itr (lowR R) m x = "sea"
theorem course_is {R : List Row} (g : GoodRows R) {x : Str} (hx : x ∈ R.map (·.1)) : ∃ m, CourseIs R x m := by
  obtain ⟨rk, hr⟩ := g.rank
  obtain ⟨m, h1, h2, h3, h4⟩ := reach hr (rk x) x (Nat.le_refl _) hx
  have hm : m ≤ R.length := by
    have nd : ((List.range m).map fun i => itr (lowR R) i x).Nodup := nodup_range _ _ fun i j hi hj e => by
      rcases Nat.lt_trichotomy i j with z | z | z
      · have := h3 i j z hj
        rw [e] at this
        omega
      · exact z
      · have := h3 j i z hi
        rw [e] at this
        omega
    have := sub_length nd fun y hy => by
      obtain ⟨i, hi, e⟩ := List.mem_map.mp hy
      rw [← e]
      exact h2 i (List.mem_range.mp hi)
    rw [List.length_map, List.length_range, List.length_map] at this
    exact this
  exact ⟨m, h1, hm, crs_full _ _ _ _ hm (fun i hi => g.nm.sea _ (h2 i hi)) h4, h2, h4⟩
theorem CourseIs.len {R : List Row} {x : Str} {m : Nat} (c : CourseIs R x m) : (course R x).length = m := by
  rw [c.eq, List.length_map, List.length_range]
end K0
end
section
set_option Elab.async false
set_option linter.all false
set_option maxRecDepth 100000
namespace L2
open PySem PySem.Spec PyProof.Rows
/-! ### rules with the text's part named, for the blocks of comprehensions -/
section
variable {X : Cx} {K : PySem.W.Frag}
theorem inK (e : X.K = K := by rfl) : OpR X (compareOp .In) (rIn K false) := e ▸ op_in_seq
theorem notInK (e : X.K = K := by rfl) : OpR X (compareOp .NotIn) (rIn K true) := e ▸ op_notIn_seq
theorem ixLK (e : X.K = K := by rfl) : IxR X (rIxL K) := e ▸ ix_list
theorem ixTK (e : X.K = K := by rfl) : IxR X (rIxT K) := e ▸ ix_tup
theorem lenK (e : X.K = K := by rfl) : CallR X (.builtin "len") (fun xs H Q => ∃ p ys, xs = [.ref p] ∧ (SqL K H p ys ∨ SqT K H p ys) ∧ Q (.int ys.length) H) := e ▸ call_len_seq
theorem listK (e : X.K = K := by rfl) : CallR X (.type "list") (fun xs H Q => ∃ p ys, xs = [.ref p] ∧ (SqL K H p ys ∨ SqT K H p ys) ∧ ∀ l, H l = none → Q (.ref l) (upd H l (.lst ys))) := e ▸ call_list_of
theorem tupleK (e : X.K = K := by rfl) : CallR X (.type "tuple") (fun xs H Q => ∃ p ys, xs = [.ref p] ∧ ((SqL K H p ys ∧ ∀ l, H l = none → Q (.ref l) (upd H l (.tup ys))) ∨ (SqT K H p ys ∧ Q (.ref p) H))) := e ▸ call_tuple_of
theorem fldK {o : Expr} {f : Str} {pos : Pos} {ta : TE} (he : PE X o ta) (hb : attributeBase o f X.env (eval o X.env) = eval o X.env) (e : X.K = K := by rfl) : PE X (.Attribute o f pos) (tFld K ta f) := e ▸ pe_fld he hb
theorem tgK {es : List Expr} {k : Nat} {pos : Pos} {t : TGs} {n : Nat} (hc : X.calm = true) (h : PGs X es t)
    (hn : (assignEach es X.env).length = n := by rfl) (hst : (assignEach es X.env).findIdx? (·.1) = none := by rfl) (e : X.K = K := by rfl) : PG X (.Tuple es k pos) (gTup K n t) := e ▸ pg_tup hc h hn hst
end
end L2
namespace L2
open PySem PySem.Spec PyProof.Rows
/-! ### tuples whose methods are called: the object is known to be plain -/
structure PlainT (o : Obj) : Prop where
  cls : o.cls = .type "tuple"
  dict : o.dict = none
section
variable {X : Cx} {K : PySem.W.Frag}
theorem k0_tupleF : CallR X (.type "tuple") (fun xs H Q => ∃ p ys, xs = [.ref p] ∧ SqL X.K H p ys ∧ ∀ l o, H l = none → PlainT o → Q (.ref l) (upd H l (.frz o (.tup ys)))) := by
  intro pins s σ H xs us Q I r h
  obtain ⟨p, ys, rfl, hq, q⟩ := h
  obtain ⟨u, rfl, rx⟩ := vals1 r
  cases rx
  obtain ⟨its, r', pl, hz⟩ := I.list hq
  have hlen := r'.length
  refine call_tuple_list pl.isList (fun h' kp => ?_) (by simp only [List.size_toArray] <;> omega)
  have I1 : Inv X pins σ H { s with heap := h' } := I.kept (t' := s.toks) kp
  have I2 : Inv X pins σ (upd H h'.objs.size (.frz { cls := .type "tuple", data := .seq its.toArray } (.tup ys))) { s with heap := h'.push { cls := .type "tuple", data := .seq its.toArray } } :=
    I1.laid (t' := s.toks) (fun b o e => Heap.get?_push_of_some _ e) (Nat.le_refl _) (show ObjOk X.prog X.w _ _ _ (.frz _ (.tup ys)) from ⟨Heap.get?_push_size _ rfl, hz, its, r', IsTup.new _ _⟩)
  exact ⟨.ref h'.objs.size, _, I2, rfl, q _ _ (I1.hok.fresh (Nat.le_refl _)) ⟨rfl, rfl⟩⟩
theorem tupleF (e : X.K = K := by rfl) : CallR X (.type "tuple") (fun xs H Q => ∃ p ys, xs = [.ref p] ∧ SqL K H p ys ∧ ∀ l o, H l = none → PlainT o → Q (.ref l) (upd H l (.frz o (.tup ys)))) := e ▸ k0_tupleF
/-- t.m(e, ..), t such a tuple -/
def tBMT (r : V → List V → Hp → VK → Prop) (to : TE) (t : TA) : TE := fun σ H Q => to σ H fun x H1 => (∃ p o xs, x = .ref p ∧ H1 p = some (.frz o (.tup xs)) ∧ PlainT o) ∧ t σ H1 fun xs H2 => r x xs H2 Q
variable {o e : Expr} {es : List Expr} {to : TE} {t : TA} {name : Str} {apos cpos : Pos} {id : String} {r : V → List V → Hp → VK → Prop}
theorem k0_bmT (slot : Slot "tuple" name id) (hty : typeOf (.builtin id) = pure (.type "method_descriptor")) (hm : MtR X id r) (ho : PE X o to) (ha : PA X (e :: es) t)
    (hbase : attributeBase o name X.env (eval o X.env) = eval o X.env := by rfl)
    (hfew : ((backTo cpos (starEach (e :: es) X.env)).all (fun x => !x.1) && (backToKw cpos (keywordEach [] X.env)).all (fun x => x.1.isSome)
      && decide ((e :: es).length + ([] : List Keyword).length + (if ([] : List Keyword).isEmpty then 0 else 1) < 30)) = true := by rfl)
    (hline : (apos.endLine == cpos.line) = true := by rfl) (hs : starEach (e :: es) X.env = (false, eval e X.env) :: starEach es X.env := by rfl) (hplain : (backTo cpos (starEach es X.env)).any (·.1) = false := by rfl) :
    PE X (.Call (.Attribute o name apos) (e :: es) [] cpos) (tBMT r to t) := by
  refine ⟨fun pins s σ H Q I h => ?_⟩
  refine wpAny_Call_method_late hbase hfew hline rfl (thn (ho.run pins s σ H _ I h) fun v s1 ⟨x, H1, I1, r1, ⟨p, ob, xs, ex, hp, pl⟩, q1⟩ => ?_)
  subst ex
  obtain rfl : v = Value.ref p := r1
  obtain ⟨hob, _⟩ := I1.hok p _ hp
  refine ⟨"tuple", id, PySem.F.plainAttrs_tuple, slot, hty, ⟨ob, hob, pl.cls⟩, fun a e => ?_, ?_⟩
  · cases e
    exact ⟨ob, hob, pl.dict⟩
  have hA := ha.run cpos pins s1 σ H1 _ I1 q1
  rw [hs] at hA ⊢
  refine Calls.callWith_builtin (by show (false || (backTo cpos (starEach es X.env)).any (·.1)) = false; rw [hplain] <;> rfl) (Calls.evalArgs_plain ?_)
  exact thn hA fun us s2 ⟨vs, H2, I2, r2, q2⟩ => hm pins s2 σ H2 (.ref p) vs (.ref p) us Q I2 rfl r2 q2
end
end L2
namespace K0
open PySem PySem.Spec PyProof.Rows L2
/-- such a tuple of texts -/
def FT (H : Hp) (t : Addr) (l : List Str) : Prop := ∃ o, PlainT o ∧ H t = some (.frz o (.tup (l.map V.str)))
theorem FT.rd {H : Hp} {t : Addr} {l : List Str} (h : FT H t l) : Rd H t (.tup (l.map V.str)) := by
  obtain ⟨o, _, e⟩ := h
  exact .inr ⟨o, e⟩
theorem FT.to {H H' : Hp} {t : Addr} {l : List Str} (h : FT H t l) (k : ∀ u, H t = some u → (∀ xs, u ≠ .lst xs) → (∀ xs, u ≠ .tup xs) → (∀ kvs, u ≠ .dK kvs) → (∀ a b c, u ≠ .ins a b c) → (∀ ps, u ≠ .tbl ps) → H' t = some u) : FT H' t l := by
  obtain ⟨o, p, e⟩ := h
  exact ⟨o, p, k _ e (fun _ z => by cases z) (fun _ z => by cases z) (fun _ z => by cases z) (fun _ _ _ z => by cases z) (fun _ z => by cases z)⟩
theorem FT.same {H H' : Hp} {t : Addr} {l : List Str} (h : FT H t l) (s : Same H H') : FT H' t l := h.to fun _ e _ _ _ _ _ => s _ _ e
theorem FT.upd {H : Hp} {t a : Addr} {l : List Str} {u : HO} (h : FT H t l) (n : t ≠ a) : FT (upd H a u) t l := h.to fun _ e _ _ _ _ _ => (upd_ne n).trans e
theorem FT.ne {H : Hp} {t a : Addr} {l : List Str} {u : HO} (h : FT H t l) (e : H a = some u) (n : ∀ o l, u ≠ .frz o (.tup l)) : t ≠ a := by
  obtain ⟨o, p, q⟩ := h
  intro z
  rw [z, e] at q
  exact n _ _ (Option.some.inj q)
theorem FT.new {H : Hp} {t a : Addr} {l : List Str} (h : FT H t l) (e : H a = none) : t ≠ a := by
  obtain ⟨o, p, q⟩ := h
  exact ne_of_none q e
end K0
end
section
set_option Elab.async false
set_option linter.all false
set_option maxRecDepth 100000
namespace K0
open PySem PySem.Spec PyProof.Rows L2
abbrev nmsOf (R : List Row) : List Str := R.map (·.1)
abbrev belowK (R : List Row) : List (Key × V) := kmap (fun y => .str (lowR R y)) (nmsOf R)
abbrev scCourse_N : List Str := ["below", "weir", "course"]
theorem scCourse : FnScope scCourse_N ["below", "weir"] (defScope sCourse) := ⟨rfl, rfl, rfl, by decide +kernel, rfl, by decide +kernel, by decide +kernel⟩
def spCourse (K : PySem.W.Frag) : Sp := fun vs H Q _ => ∃ (d : Addr) (R : List Row) (x : Str), vs = [.ref d, .str x] ∧ Rd H d (.dK (belowK R)) ∧ GoodRows R ∧ x ∈ nmsOf R ∧
  ∀ (H' : Hp) (t : Addr), Same H H' → H t = none → FT H' t (course R x) → Q (.ref t) H'
theorem same_rd {H H' : Hp} {a : Addr} {u : HO} (s : Same H H') (r : Rd H a u) : Rd H' a u := r.elim (fun h => .inl (s _ _ h)) fun ⟨o, h⟩ => .inr ⟨o, s _ _ h⟩
theorem dget_rk {H : Hp} {a : Addr} {kvs : List (Key × V)} {k : Key} (e : Rd H a (.dK kvs)) : DGet H a (kV k) (valV kvs k) := .inl ⟨kvs, k, e, rfl, rfl⟩
theorem dget_rn {H : Hp} {a : Addr} {f : Str → V} {ns : List Str} {x : Str} (e : Rd H a (.dK (kmap f ns))) (h : x ∈ ns) : DGet H a (.str x) (some (f x)) := by
  have := dget_rk (k := Sum.inr x) e
  rw [kmap_at h] at this
  exact this
theorem last_of {m : Nat} {f : Nat → Str} (h : 1 ≤ m) : atI (((List.range m).map f).map V.str) (-1) = some (.str (f (m - 1))) := by
  unfold atI ixN
  rw [List.length_map, List.length_map, List.length_range, if_neg (by omega), if_pos (by omega)]
  show (((List.range m).map f).map V.str)[((-1 : Int) + (m : Int)).toNat]? = _
  rw [show ((-1 : Int) + (m : Int)).toNat = m - 1 by omega, List.getElem?_map, List.getElem?_map, List.getElem?_range (by omega)]
  rfl
section
variable {P : Program} {w : World} {K : PySem.W.Frag} {mg : Str → Option Value} {base : Heap} {tS tM tL : Tok}
theorem ok_course {f : Addr} {fd : FuncData} (F : FnP K "_course" sCourse f fd) (B : Bl mg) (C : Gc mg tS tM tL) : FnOk P w K mg base CX0 1 f fd ["below", "weir"] (spCourse K) := by
  refine F.ok scCourse (fun vs H Q E h => ?_) (fun cdv A outer s H vs Q E hr h => ?_)
  · obtain ⟨d, R, x, rfl, _⟩ := h
    rfl
  · obtain ⟨d, R, x, rfl, hd, hG, hx, k⟩ := h
    have hu := hu_of hr
    obtain ⟨m, hC⟩ := course_is hG hx
    refine ⟨_, PSs.nox (pss_cons
      (ps_set (i := 2) scCourse.nd rfl (Or.inl rfl) (pe_lst (pa_cons (pv 1) pa_nil)))
      (pss_cons
      (ps_while PassesOwn.never (PW.pt (pw_and (pt_cmpR op_ne (pe_dget hu (pv 0) (pe_ix (ixLK (K := K)) (pv 2) (pe_un un_neg pe_int) (fun _ _ => rfl)) (fun _ _ => rfl)) (pe_glob (v := .str "sea") (by rfl) C.SEA ⟨_, rfl⟩) (nomark _)) (pw_and1 (pt_cmpR op_le (pe_callB (lenK (K := K)) (by rfl) B.len PySem.boot_len (pa_cons (pv 2) pa_nil)) (pe_callB k0_lenD (by rfl) B.len PySem.boot_len (pa_cons (pv 0) pa_nil)) (nomark _))))) (pss_one
      (ps_expr (pe_bm PySem.F.plainAttrs_list PySem.F.slot_list_append PySem.F.type_list_append mt_append (pv 2) (pa_cons (pe_dget hu (pv 0) (pe_ix (ixLK (K := K)) (pv 2) (pe_un un_neg pe_int) (fun _ _ => rfl)) (fun _ _ => rfl)) pa_nil)))))
      (pss_one
      (ps_ret (pe_callTy (tupleF (K := K)) (by rfl) B.tuple (by decide +kernel) (pa_cons (pv 2) pa_nil)))))), ?_⟩
    refine ⟨_, rfl, by show 1 ≤ sizeLine; decide, fun c nc => ?_⟩
    have s0 : Same H (upd H c (.lst [.str x])) := same_upd nc
    refine while_by (fun σ H2 => ∃ i, 1 ≤ i ∧ i ≤ m ∧ σ = [some (.ref d), some (.str x), some (.ref c)] ∧ Same H H2 ∧ H2 c = some (.lst (((List.range i).map fun j => itr (lowR R) j x).map V.str)))
      (fun _ H2 => match H2 c with | some (.lst xs) => m - xs.length | _ => 0) ⟨1, Nat.le_refl _, hC.one, rfl, s0, upd_same⟩ ?_ ?_
    · rintro σ H2 ⟨i, h1, h2, rfl, s2, hc⟩
      have hmem : itr (lowR R) (i - 1) x ∈ nmsOf R := hC.mem _ (by omega)
      refine ⟨_, rfl, _, rfl, 1, rfl, c, _, _, _, rfl, rfl, .inl (.inl hc), last_of h1, d, _, rfl, dget_rn (same_rd s2 hd) hmem, rfl, _, rfl, ?_⟩
      have enext : lowR R (itr (lowR R) (i - 1) x) = itr (lowR R) i x := by
        have e : i = i - 1 + 1 := by omega
        exact (congrArg (fun j => itr (lowR R) j x) e).symm
      have hl0 : (((List.range i).map fun j => itr (lowR R) j x).map V.str).length = i := by
        rw [List.length_map, List.length_map, List.length_range]
      have hn0 : (belowK R).length = R.length := by
        rw [kmap_len, List.length_map]
      have hmost := hC.most
      have hRm := hG.most
      refine ite2 (fun h => ?_) (fun h => ?_)
      · have him : i < m := by
          rcases Nat.lt_or_ge i m with z | z
          · exact z
          · have e : i = m := by omega
            have e2 : V.str (lowR R (itr (lowR R) (i - 1) x)) = V.str "sea" := by rw [enext, e, hC.sea]
            rw [decide_eq_true e2] at h
            cases h
        refine ⟨_, rfl, c, _, rfl, .inl (.inl (.inl hc)), _, rfl, d, _, rfl, same_rd s2 hd, _, _, rfl, rfl, _, rfl, ?_⟩
        refine iteD (by omega) ?_
        refine ⟨_, rfl, .inl ⟨rfl, _, .inl (.inl hc)⟩, _, rfl, _, rfl, 1, rfl, c, _, _, _, rfl, rfl, .inl (.inl hc), last_of h1, d, _, rfl, dget_rn (same_rd s2 hd) hmem, ?_⟩
        refine ⟨c, _, _, rfl, rfl, hc, by rw [hl0]; exact small1000 (by omega), ?_⟩
        have ecat : (((List.range i).map fun j => itr (lowR R) j x).map V.str) ++ [V.str (lowR R (itr (lowR R) (i - 1) x))] = ((List.range (i + 1)).map fun j => itr (lowR R) j x).map V.str := by
          rw [List.range_succ, List.map_append, List.map_append, enext]
          rfl
        rw [ecat]
        refine ⟨⟨i + 1, by omega, by omega, rfl, fun b o hb => ?_, upd_same⟩, ?_⟩
        · rw [upd_ne (ne_of_none hb nc)]
          exact s2 b o hb
        · show (match upd H2 c (.lst (((List.range (i + 1)).map fun j => itr (lowR R) j x).map V.str)) c with | some (.lst xs) => m - xs.length | _ => 0) < (match H2 c with | some (.lst xs) => m - xs.length | _ => 0)
          rw [upd_same, hc]
          show m - (((List.range (i + 1)).map fun j => itr (lowR R) j x).map V.str).length < m - (((List.range i).map fun j => itr (lowR R) j x).map V.str).length
          rw [hl0, List.length_map, List.length_map, List.length_range]
          omega
      · have him : i = m := by
          rcases Nat.lt_or_ge i m with z | z
          · exfalso
            have hne := hG.nm.sea _ (hC.mem i z)
            refine h ?_
            rw [enext, decide_eq_false (fun q => hne (V.str.inj q))]
            rfl
          · omega
        subst him
        refine ⟨_, rfl, c, _, rfl, .inl (.inl hc), fun t ot nt pt => ?_⟩
        rw [← hC.eq]
        exact k _ t (s2.trans (same_upd nt)) (s2.free nt) ⟨ot, pt, upd_same⟩
    · intro σ H2 Q1 Q2 hQ h
      obtain ⟨v1, e1, v2, e2, i, e3, p, xs, j, v, e4, e5, h6, h7, a, u, e8, g, hs, b, e9, h⟩ := h
      refine ⟨v1, e1, v2, e2, i, e3, p, xs, j, v, e4, e5, h6, h7, a, u, e8, g, hs, b, e9, ?_⟩
      cases b with
      | false => exact hQ _ _ h
      | true =>
        obtain ⟨w1, f1, q, ys, f2, f3, w2, f4, q2, kv, f5, f6, n1, n2, f7, f8, b2, f9, h⟩ := h
        exact ⟨w1, f1, q, ys, f2, f3, w2, f4, q2, kv, f5, f6, n1, n2, f7, f8, b2, f9, hQ _ _ h⟩
end
end K0
end
section
set_option Elab.async false
set_option linter.all false
set_option maxRecDepth 100000
namespace L2
open PySem PySem.Spec PyProof.Rows
/-! ### enumerate of a dict -/
section
variable {prog : Program} {w : World} {A : Around} {E : Value → Shared → Prop} {s : Shared}
theorem k0_key_item {it d : Addr} {i n ep : Nat} {od : Obj} {es : Array DictEntry} {en : DictEntry} {Q : Value → Shared → Prop} (hit : s.heap.IsKeyIter it d i n ep) (hod : s.heap.get? d = some od) (hdd : od.data = .dict es ep)
    (hsz : es.size = n) (hx : es[i]? = some en) (hQ : ∀ h', h'.IsKeyIter it d (i + 1) n ep → Heap.SameBut it s.heap h' → Q en.key { s with heap := h' }) : wpAny (model prog w) A (Builtin.SmallTypes.nextOf (.ref it)) Q E s := by
  obtain ⟨o, ho, hc, hd⟩ := id hit
  unfold Builtin.SmallTypes.nextOf
  refine wpAny_bind (wpAny_callSpecial?_slot (name := Str.ofString "__next__") hit.typeIs F.slot_dict_keyiterator_next
    (wpAny_call_entry F.slot_dict_keyiterator_next hit.typeIs F.entry_dict_keyiterator_next ?_ (F.args_dict_keyiterator_next_1 _)))
  refine wpAny_bind (wpAny_pure ?_)
  refine wpAny_bind ?_
  refine wpAny_bind ?_
  first | refine wpAny_bind (wpAny_typeNameOfWhole_keyiter hit.typeIs (wpAny_pure ?_)) | refine wpAny_bind (wpAny_typeNameOf_keyiter hit.typeIs (wpAny_pure ?_))
  refine wpAny_bind (wpAny_fieldsOf ho hd ?_)
  have hown : Builtin.Dict_items.ownsTuple "dict_keyiterator" = false := by decide
  simp only [hown, Bool.false_eq_true, if_false]
  show wpAny _ _ (if (Value.ref d == Value.none) = true then _ else _) _ _ s
  rw [if_neg (show ¬ ((Value.ref d == Value.none) = true) from Bool.false_ne_true)]
  refine wpAny_bind (wpAny_pure ?_)
  refine wpAny_bind (wpAny_dictEntries hod hdd ?_)
  rw [if_neg (by rw [hsz]; simp)]
  refine wpAny_bind (wpAny_pure ?_)
  refine wpAny_bind (wpAny_dictEpoch hod hdd ?_)
  rw [if_neg (by simp)]
  refine wpAny_pure ?_
  obtain ⟨hlt', hen⟩ := Array.getElem?_eq_some_iff.mp hx
  simp only [show ¬ ((i : Int) < 0) from by omega, if_false, Int.toNat_natCast, Array.getElem?_eq_getElem hlt']
  refine wpAny_bind ?_
  first | refine wpAny_bind (wpAny_typeNameOfWhole_keyiter hit.typeIs (wpAny_pure ?_)) | refine wpAny_bind (wpAny_typeNameOf_keyiter hit.typeIs (wpAny_pure ?_))
  refine wpAny_bind (wpAny_isOneOf_keyiter hit.typeIs ?_)
  show wpAny _ _ (setField (.ref it) 1 (rawInt ((i : Int) + 1)) >>= _) _ _ s
  refine wpAny_bind (wpAny_setField ho hd (by simp) ?_)
  have hit' : (s.heap.update it (Obj.mapFields (·.setIfInBounds 1 (rawInt ((i : Int) + 1))))).IsKeyIter it d (i + 1) n ep :=
    ⟨_, Heap.get?_update_self _ ho (Obj.isFreed_of_fields (Obj.data_mapFields hd _)), (Obj.cls_mapFields ..).trans hc, by rw [Obj.data_mapFields hd]; simp [rawInt]⟩
  refine wpAny_bind (wpAny_holding ?_)
  refine wpAny_bind (wpAny_isOneOf_keyiter (s := { s with heap := s.heap.update it (Obj.mapFields (·.setIfInBounds 1 (rawInt ((i : Int) + 1)))) }) hit'.typeIs ?_)
  show wpAny _ _ (pure es[i].key) _ _ _
  rw [hen]
  exact wpAny_pure (wpAny_pure ⟨_, rfl, wpAny_pure (hQ _ hit' (Heap.SameBut.update ..))⟩)
theorem k0_key_end {it d : Addr} {i n ep : Nat} {od : Obj} {es : Array DictEntry} {Q : Value → Shared → Prop} (hh : A.handled = none) (hit : s.heap.IsKeyIter it d i n ep) (hod : s.heap.get? d = some od) (hdd : od.data = .dict es ep)
    (hsz : es.size = n) (hge : n ≤ i) (hE : ∀ h' e, Heap.ExtBut it s.heap h' → (∃ o, h'.get? e = some o ∧ o.cls = .type "StopIteration") → E (.ref e) { s with heap := h' }) : wpAny (model prog w) A (Builtin.SmallTypes.nextOf (.ref it)) Q E s := by
  obtain ⟨o, ho, hc, hd⟩ := id hit
  unfold Builtin.SmallTypes.nextOf
  refine wpAny_bind (wpAny_callSpecial?_slot (name := Str.ofString "__next__") hit.typeIs F.slot_dict_keyiterator_next
    (wpAny_call_entry F.slot_dict_keyiterator_next hit.typeIs F.entry_dict_keyiterator_next ?_ (F.args_dict_keyiterator_next_1 _)))
  refine wpAny_bind (wpAny_pure ?_)
  refine wpAny_bind ?_
  refine wpAny_bind ?_
  first | refine wpAny_bind (wpAny_typeNameOfWhole_keyiter hit.typeIs (wpAny_pure ?_)) | refine wpAny_bind (wpAny_typeNameOf_keyiter hit.typeIs (wpAny_pure ?_))
  refine wpAny_bind (wpAny_fieldsOf ho hd ?_)
  have hown : Builtin.Dict_items.ownsTuple "dict_keyiterator" = false := by decide
  simp only [hown, Bool.false_eq_true, if_false]
  show wpAny _ _ (if (Value.ref d == Value.none) = true then _ else _) _ _ s
  rw [if_neg (show ¬ ((Value.ref d == Value.none) = true) from Bool.false_ne_true)]
  refine wpAny_bind (wpAny_pure ?_)
  refine wpAny_bind (wpAny_dictEntries hod hdd ?_)
  rw [if_neg (by rw [hsz]; simp)]
  refine wpAny_bind (wpAny_pure ?_)
  refine wpAny_bind (wpAny_dictEpoch hod hdd ?_)
  rw [if_neg (by simp)]
  refine wpAny_pure ?_
  have hge' : es.size ≤ i := by rw [hsz]; exact hge
  simp only [show ¬ ((i : Int) < 0) from by omega, if_false, Int.toNat_natCast, Array.getElem?_eq_none hge']
  refine wpAny_bind ?_
  first | refine wpAny_bind (wpAny_typeNameOfWhole_keyiter hit.typeIs (wpAny_pure ?_)) | refine wpAny_bind (wpAny_typeNameOf_keyiter hit.typeIs (wpAny_pure ?_))
  show wpAny _ _ (setField (.ref it) 0 .none >>= _) _ _ s
  refine wpAny_bind (wpAny_setField ho hd (by simp) ?_)
  show wpAny _ _ (newExc (.type "StopIteration") [] >>= _) _ _ _
  refine wpAny_bind ?_
  simp only [newExc, newTuple]
  refine wpAny_bind (wpAny_newObj_type ?_ (by size_fits))
  refine wpAny_bind (m := firstArgMember _ _) (wpAny_of_eq (a := Value.none) (by first | rfl | (simp only [firstArgMember]; rfl)) ?_)
  refine wpAny_newObj_type ?_ (by size_fits)
  simp only [raiseNew]
  refine wpAny_bind (wpAny_handled ?_)
  first | rw [show A.in1.handled = none from hh] | rw [hh]
  refine wpAny_bind (wpAny_pure (wpAny_throw ?_))
  exact hE _ _ (((Heap.SameBut.update ..).extBut.push _).push _) ⟨_, Heap.get?_push_size _ rfl, rfl⟩
end
theorem k0_draws {prog : Program} {w : World} {A : Around} (hh : A.handled = none) (it d : Addr) (hne : d ≠ it) (od : Obj) (es : Array DictEntry) (ep : Nat) (hdd : od.data = .dict es ep) :
    Draws prog w A it [it, d] es.size (fun i v => ∃ en, es[i]? = some en ∧ v = en.key) (fun i h => h.IsKeyIter it d i es.size ep ∧ h.get? d = some od) where
  live := fun _ _ st => let ⟨o, ho, _⟩ := st.1; ⟨o, ho⟩
  frame := fun _ _ _ st hk => ⟨st.1.at fun o e => hk it (by simp) o e, hk d (by simp) _ st.2⟩
  item := fun i s Q E hi st hQ => by
    refine k0_key_item st.1 st.2 hdd rfl (en := es[i]) (by simp [hi]) fun h' hit' hs' => ?_
    exact hQ _ h' s.toks ⟨_, by simp [hi], rfl⟩ ⟨hit', (hs'.2 d hne).trans st.2⟩ hs'
  done := fun s Q E st hE => k0_key_end hh st.1 st.2 hdd rfl (Nat.le_refl _) hE
theorem k0_begins {d : Addr} {o : Obj} {es : Array DictEntry} {ep : Nat} (hd : (d == sysModules) = false) (hc : o.ExactDict) (hdat : o.data = .dict es ep) :
    PySem.Begins (.ref d) { cls := .type "dict_keyiterator", data := .fields #[.ref d, .int 0 0, .int es.size 0, .int ep 0] } fun h => h.get? d = some o where
  iter := fun prog w A E s Q ho h => iter_keys hd ho hc hdat h
  keeps := fun h h' x hk => hk d _ x
  free := rfl
set_option maxHeartbeats 1000000 in
theorem k0_meets {v : Value} {o : Obj} {H : Heap → Prop} (B : PySem.Begins v o H) :
    Meets (Builtin.«enumerate.__new__» ⟨[.type "enumerate", v], []⟩) (fun _ R s => H s.heap ∧
      R (.ok (.ret (.ref (s.heap.push o).objs.size))) { s with heap := (s.heap.push o).push { cls := .type "enumerate", data := .fields #[.none, .bool false, .ref s.heap.objs.size, rawInt 0, .none, .none] } }) :=
  .of_wp fun prog w A R s h => by
    obtain ⟨hp, g, d, tk, os⟩ := s; obtain ⟨h1, h⟩ := h
    have hsub := sub_enumerate
    have q1 : ∀ {A' : Around} {E : Value → Shared → Prop} {Q : Value → Shared → Prop}, Q (.ref hp.objs.size) ⟨hp.push o, g, d, tk, os⟩ → wpAny (model prog w) A' (pyIter v) Q E ⟨hp, g, d, tk, os⟩ :=
      fun q => B.iter prog w _ _ ⟨hp, g, d, tk, os⟩ _ h1 q
    wp_walk using q1
    refine wpAny_stack_any fun st => wpAny_pure ?_
    split
    · rename_i c _ _ _ _ _
      cases (c == Value.type "enumerate")
      · wp_walk using q1
        exact ⟨_, rfl, h⟩
      · wp_walk using q1
        exact ⟨_, rfl, h⟩
    · wp_walk using q1
      exact ⟨_, rfl, h⟩
section
variable {prog : Program} {w : World} {A : Around} {E : Value → Shared → Prop} {s : Shared}
theorem k0_enum_call {v : Value} {o : Obj} {H : Heap → Prop} {Q : Value → Shared → Prop} (B : PySem.Begins v o H) (h1 : H s.heap)
    (h : ∀ h', IsEnum h' (s.heap.objs.size + 1) s.heap.objs.size 0 .none → h'.get? s.heap.objs.size = some o → h'.objs.size = s.heap.objs.size + 2 →
      (∀ b o, s.heap.get? b = some o → h'.get? b = some o) → Q (.ref (s.heap.objs.size + 1)) { s with heap := h' }) :
    wpAny (model prog w) A (call (.type "enumerate") [v]) Q E s := by
  refine callType_new F.called_enumerate (by decide) (F.typeCall_enumerate_1 _) (F.newCall_enumerate_1 _) (fun obj => F.args_object_init_2 obj _) F.entry_enumerate_new
    (k0_meets B) ⟨h1, ?_⟩
  have hz : (s.heap.push o).objs.size = s.heap.objs.size + 1 := Heap.size_push ..
  show _ ∧ _
  rw [hz]
  have he : IsEnum ((s.heap.push o).push { cls := .type "enumerate", data := .fields #[.none, .bool false, .ref s.heap.objs.size, rawInt 0, .none, .none] }) (s.heap.objs.size + 1) s.heap.objs.size 0 .none := by
    have := Heap.get?_push_size (s.heap.push o) (o := { cls := .type "enumerate", data := .fields #[.none, .bool false, .ref s.heap.objs.size, rawInt 0, .none, .none] }) rfl
    rw [hz] at this; exact this
  refine ⟨⟨_, he, rfl⟩, h _ he (Heap.get?_push_of_some _ (Heap.get?_push_size _ B.free)) (by rw [Heap.size_push, hz]) fun b o x => Heap.get?_push_of_some _ (Heap.get?_push_of_some _ x)⟩
end
/-- the keys of the locked dict at d, each with its number in a new pair -/
def ItEd (d : Addr) (o : Obj) (kvs : List (Key × V)) : It :=
  ⟨fun i H => H d = some (.frz o (.dK kvs)) ∧ i < kvs.length, fun i H v H' => ∃ T k u, v = .ref T ∧ H T = none ∧ H' = upd H T (.tup [.int (i : Nat), kV k]) ∧ kvs[i]? = some (k, u), fun i H => H d = some (.frz o (.dK kvs)) ∧ kvs.length ≤ i⟩
theorem turn_enumD {P : Program} {w : World} {K : PySem.W.Frag} {elts : List Expr} {kk : Nat} {tpos : Pos} {d : Addr} {o : Obj} {es : Array DictEntry} {ep : Nat} {kvs : List (Key × V)} (e it : Addr) (hod : o.data = .dict es ep) (hsz0 : es.size = kvs.length) :
    Turn P w K (.Tuple elts kk tpos) (ItEd d o kvs) [e, it] e (fun i h => (∃ old, IsEnum h e it ((i : Nat) : Int) old) ∧ h.IsKeyIter it d i es.size ep ∧ e ≠ it) where
  mem := by simp
  obj := fun i h st b hb => by
    obtain ⟨⟨old, he⟩, ⟨o', ho, hc, hd⟩, _⟩ := st
    have e' : b = e ∨ b = it := by simpa using hb
    rcases e' with z | z
    · rw [z]; exact ⟨_, he, fun v q => nomatch q⟩
    · rw [z]; exact ⟨o', ho, fun v q => by rw [hd] at q; cases q⟩
  keep := fun i h h' st k => let ⟨⟨old, he⟩, hi, hne⟩ := st; ⟨⟨old, k e (by simp) _ he⟩, hi.at fun o q => k it (by simp) o q, hne⟩
  item := by
    intro X hP hw hK hc i pins s σ H E I hf st hg
    subst hP hw hK
    obtain ⟨⟨old, he⟩, hit, hne⟩ := st
    obtain ⟨hd, hi⟩ := hg
    obtain ⟨hs, hgd, hx, es', ep', vs, hdt, hsz, kv, hm⟩ := I.frzK hd
    obtain ⟨rfl, rfl⟩ := dict_ep hod hdt
    have hel : e < s.heap.objs.size := Heap.lt_size he
    have hil : it < s.heap.objs.size := by obtain ⟨_, q, _⟩ := hit; exact Heap.lt_size q
    have hed : e ≠ d := fun z => by
      have q := he
      unfold IsEnum at q
      rw [z, hgd] at q
      rw [Option.some.inj q] at hod
      cases hod
    have hid : it ≠ d := fun z => by
      obtain ⟨o', q, _, hdd⟩ := id hit
      rw [z, hgd] at q
      rw [← Option.some.inj q, hod] at hdd
      cases hdd
    refine wpAny_pyNext_enum_itemD (k0_draws (A := X.A.in1) (show X.A.in1.handled = none from I.ok.hd hc) it d (Ne.symm hid) o es' ep' hod) he ⟨hit, hgd⟩ (by omega) hne (by simp [hne, hed]) fun x h' tk hP ho hit' hT hsz' hk => ?_
    obtain ⟨en, hen, rfl⟩ := hP
    obtain ⟨⟨k, v⟩, hkv⟩ : ∃ p, kvs[i]? = some p := ⟨kvs[i], List.getElem?_eq_getElem hi⟩
    have rk : RelV (kV k) en.key := by
      obtain ⟨u, hu, ru⟩ := kv_get kv hkv
      obtain ⟨od, es2, hod2, hcd, hdd, hkk, hp, hn⟩ := id hm
      rw [hgd] at hod2
      cases hod2
      obtain ⟨rfl, _⟩ := dict_ep hod hdd
      exact relV_key (hp.get? (by rw [Array.getElem?_toList]; exact hen) hu).1
    refine ⟨_, rfl, wpAny_letOwnedTupleGo_enum (s := { s with heap := h', toks := tk + 1 }) ho fun h'' he' sb => ?_⟩
    have hT2 : h''.get? s.heap.objs.size = some { cls := .type "tuple", data := .seq #[.int i tk, en.key] } := (sb.2 _ (Nat.ne_of_gt hel)).trans hT
    have new : ObjOk X.prog X.w (upd H s.heap.objs.size (.tup [.int (i : Nat), kV k])) h'' s.heap.objs.size (.tup [.int (i : Nat), kV k]) :=
      ⟨by show 2 ≤ sizeLine; decide, [.int i tk, en.key], .cons ⟨_, rfl⟩ (.cons rk .nil), ⟨_, hT2, rfl, _, rfl⟩⟩
    have I1 : Inv X pins σ (upd H s.heap.objs.size (.tup [.int (i : Nat), kV k])) { s with heap := h'', toks := tk + 1 } :=
      I.turnedNew (ch := [e, it]) (fun b ob hb q => (sb.2 b (fun z => hb (by simp [z]))).trans (hk b ob (fun z => hb (by simp [z])) (fun z => hb (by simp [z])) q)) hf (Nat.le_refl _) new
    refine ⟨.ref s.heap.objs.size, _, I1, rfl, ⟨_, k, v, rfl, I.hok.fresh (Nat.le_refl _), rfl, hkv⟩, ⟨⟨en.key, ?_⟩, hit'.1.at fun o q => (sb.2 it (Ne.symm hne)).trans q, hne⟩, fun b hb => ?_⟩
    · have e1 : ((i + 1 : Nat) : Int) = (i : Int) + 1 := by omega
      rw [e1]; exact he'
    · have hb' : b < s.heap.objs.size := by
        have e' : b = e ∨ b = it := by simpa using hb
        rcases e' with z | z
        · rw [z]; exact hel
        · rw [z]; exact hil
      rw [upd_ne (Nat.ne_of_lt hb')]
      exact (hf b hb).1
  done := by
    intro X hP hw hK hc i pins s σ H E I hf st hg
    subst hP hw hK
    obtain ⟨⟨old, he⟩, hit, hne⟩ := st
    obtain ⟨hd, hi⟩ := hg
    obtain ⟨hs, hgd, hx, es', ep', vs, hdt, hsz, kv, hm⟩ := I.frzK hd
    obtain ⟨rfl, rfl⟩ := dict_ep hod hdt
    obtain ⟨f0, f1, f2, f3, f4, f5⟩ := hf it (by simp)
    have hT : s.TypeIs (.ref e) "enumerate" := ⟨_, he, rfl⟩
    unfold pyNext
    refine wpAny_bind (wpAny_attempt (wpAny_callSpecial?_slot (name := Str.ofString "__next__") hT F.slot_enumerate_next
      (wpAny_call_entry F.slot_enumerate_next hT F.entry_enumerate_next ?_ (F.args_enumerate_next_1 _))))
    show wpAny _ _ (field (.ref e) 2 >>= _) _ _ _
    refine wpAny_bind (wpAny_field he rfl (x := .ref it) rfl ?_)
    refine wpAny_bind (k0_key_end (I.ok.hd hc) hit hgd hod rfl (by omega) fun h' x he' hx' => ?_)
    obtain ⟨o', ho, hc'⟩ := hx'
    refine wpAny_bind (wpAny_isInstance (T := "StopIteration") (b := true) ⟨o', ho, hc'⟩ isSubtype_stop ?_)
    exact wpAny_pure ⟨rfl, I.turned (t' := s.toks) (fun b ob hb q => he' b ob hb q) f0 f1 f3 f4 f5⟩
  self := fun A i s Q E st h => let ⟨⟨_, he⟩, _⟩ := st; wpAny_pyIter_enum he h
def iEnumD (ta : TA) : TI := fun σ H R => ta σ H fun vs H1 => ∃ d o kvs, vs = [.ref d] ∧ H1 d = some (.frz o (.dK kvs)) ∧ R (ItEd d o kvs) H1
theorem pi_enumD {X : Cx} {e : Expr} {ta : TA} {p pos tpos : Pos} {elts : List Expr} {kk : Nat} (hg : Gl X "enumerate") (hm : X.mg "enumerate" = none) (ha : PA X [e] ta) (hs : starEach [e] X.env = [(false, eval e X.env)] := by rfl) :
    PI X (.Tuple elts kk tpos) (.Call (.Name "enumerate" p) [e] [] pos) (iEnumD ta) := by
  refine ⟨fun pins s σ H R I h => ?_⟩
  refine Call_ (ld_blt I hg hm boot_enumerate (PyProof.Rows.callWith_type1 (thn (ha.run pos pins s σ H _ I h) fun us s1 ⟨vs, H1, I1, r1, q1⟩ => ?_) hs rfl))
  obtain ⟨d, o, kvs, ex, hd, q⟩ := q1
  subst ex
  cases r1 with
  | cons r rr =>
    cases rr
    cases r
    obtain ⟨hss, hgd, hx, es, ep, vs, hdt, hsz, kv, hm2⟩ := I1.frzK hd
    refine k0_enum_call (k0_begins hss hx hdt) hgd fun h' he hit hsz' hk => wpAny_pyIter_enum he ?_
    have I2 : Inv X pins σ H1 { s1 with heap := h' } := I1.kept (t' := s1.toks) hk
    refine ⟨s1.heap.objs.size + 1, [s1.heap.objs.size + 1, s1.heap.objs.size], _, _, H1, rfl, I2, turn_enumD (s1.heap.objs.size + 1) s1.heap.objs.size hdt hsz, ⟨⟨.none, he⟩, ⟨_, hit, rfl, rfl⟩, Nat.succ_ne_self _⟩, fun b hb => ?_, q⟩
    have e' : b = s1.heap.objs.size + 1 ∨ b = s1.heap.objs.size := by simpa using hb
    have hle : s1.heap.objs.size ≤ b := by
      rcases e' with z | z
      · rw [z]; exact Nat.le_add_right _ _
      · rw [z]; exact Nat.le_refl _
    exact I1.fpOk hle (I1.hok.fresh hle)
theorem walk_enumD {d : Addr} {o : Obj} {kvs : List (Key × V)} : Walk (ItEd d o kvs) kvs.length (fun H => H d = some (.frz o (.dK kvs))) (YPair (fun i => some (.int (i : Nat))) (fun i => kvs[i]?.map fun kv => kV kv.1)) := by
  refine ⟨fun _ _ hi q => ⟨q, hi⟩, fun _ q => ⟨q, Nat.le_refl _⟩, fun i H x H' _ _ y => ?_⟩
  obtain ⟨T, k, v, h2, h3, h4, h1⟩ := y
  exact ⟨T, .int (i : Nat), kV k, h2, h3, h4, rfl, by simp [h1]⟩
/-- a dict comprehension over a walk -/
theorem dc_it {J : It} {n : Nat} {G : Hp → Prop} {Y : Nat → Hp → V → Hp → Prop} (w : Walk J n G Y) {g : TG} {tt : TT} {tk tv : TE} {vs : List Nat} {σ : St} {H1 : Hp} {D : Addr} {Qd : Hp → Prop} (Pv : Nat → Hp → Prop) (h0 : Pv 0 (upd H1 D (.dK []))) (hG : ∀ i H, i ≤ n → Pv i H → G H)
    (hs : ∀ i x H H', i < n → Pv i H → Y i H x H' → g x (wipe σ vs) H' fun σ2 H2 => wipe σ2 vs = wipe σ vs ∧ tt σ2 H2 fun b H3 =>
      if b = true then tk σ2 H3 fun y H4 => tv σ2 H4 fun z H5 => ∃ kvs k, y = kV k ∧ H5 D = some (.dK kvs) ∧ kvs.length < sizeLine ∧ Pv (i + 1) (upd H5 D (.dK (putK kvs k z))) else Pv (i + 1) H3) (hd : ∀ H, Pv n H → Qd H) :
    ∃ W : Nat → Nat → Hp → Prop, (∃ m, W 0 m (upd H1 D (.dK []))) ∧ ∀ i m H, W i m H →
      (J.stop i H ∧ Qd H) ∨ (J.go i H ∧ ∃ Nx : Hp → Prop, (∀ H', Nx H' → ∃ m', m' < m ∧ W (i + 1) m' H') ∧ ∀ x H', J.yld i H x H' → g x (wipe σ vs) H' fun σ2 H2 => wipe σ2 vs = wipe σ vs ∧ tt σ2 H2 fun b H3 =>
        if b = true then tk σ2 H3 fun y H4 => tv σ2 H4 fun z H5 => ∃ kvs k, y = kV k ∧ H5 D = some (.dK kvs) ∧ kvs.length < sizeLine ∧ Nx (upd H5 D (.dK (putK kvs k z))) else Nx H3) := by
  refine ⟨fun i m H => m = n - i ∧ i ≤ n ∧ Pv i H, ⟨n, by simp, Nat.zero_le _, h0⟩, ?_⟩
  rintro i m H ⟨rfl, hi, p⟩
  have q := hG i H hi p
  by_cases hlt : i < n
  · refine .inr ⟨w.goes i H hlt q, Pv (i + 1), fun H' p' => ⟨n - (i + 1), by omega, rfl, hlt, p'⟩, fun x H' y => hs i x H H' hlt p (w.yields i H x H' hlt q y)⟩
  · have e : i = n := by omega
    subst e
    exact .inl ⟨w.stops H q, hd H p⟩
end L2
end
section
set_option Elab.async false
set_option linter.all false
set_option maxRecDepth 100000
namespace K0
open PySem PySem.Spec PyProof.Rows L2
theorem same_unlock {H H' : Hp} {d : Addr} {u z : HO} (h : H d = some u) (s : Same (upd H d z) H') : Same H (upd H' d u) := fun b o hb => by
  by_cases e : b = d
  · rw [e] at hb ⊢
    rw [upd_same, ← hb, h]
  · rw [upd_ne e]
    exact s b o (by rw [upd_ne e]; exact hb)
theorem kmap_congr {f g : Str → V} : ∀ {ns : List Str}, (∀ x ∈ ns, f x = g x) → kmap f ns = kmap g ns
  | [], _ => rfl
  | n :: r, h => by
    unfold kmap
    rw [List.map_cons, List.map_cons, h n List.mem_cons_self]
    exact congrArg _ (kmap_congr fun x hx => h x (List.mem_cons_of_mem _ hx))
/-- a dict from each of these names to a tuple of its own of texts -/
structure TupsAt (H : Hp) (c : Addr) (ns : List Str) (g : Str → List Str) : Prop where
  ex : ∃ ta : Str → Addr, H c = some (.dK (kmap (fun x => .ref (ta x)) ns)) ∧ ∀ x ∈ ns, FT H (ta x) (g x)
theorem TupsAt.same {H H' : Hp} {c : Addr} {ns : List Str} {g : Str → List Str} (t : TupsAt H c ns g) (s : Same H H') : TupsAt H' c ns g := by
  obtain ⟨ta, h1, h2⟩ := t.ex
  exact ⟨ta, s _ _ h1, fun x hx => (h2 x hx).same s⟩
/-- one more -/
theorem tups_more {H : Hp} {D t : Addr} {ns : List Str} {g : Str → List Str} {x : Str} {ta : Str → Addr} (h1 : H D = some (.dK (kmap (fun y => .ref (ta y)) ns))) (h2 : ∀ y ∈ ns, FT H (ta y) (g y))
    (hx : x ∉ ns) (ht : FT H t (g x)) : TupsAt (upd H D (.dK (putK (kmap (fun y => .ref (ta y)) ns) (Sum.inr x) (.ref t)))) D (ns ++ [x]) g := by
  have htD : t ≠ D := ht.ne h1 (fun _ _ z => by cases z)
  refine ⟨fun y => if y = x then t else ta y, ?_, fun y hy => ?_⟩
  · rw [upd_same]
    have e1 : kmap (fun y => .ref (ta y)) ns = kmap (fun y => V.ref (if y = x then t else ta y)) ns := kmap_congr fun y hy => by
      rw [if_neg (fun e => hx (by rw [← e]; exact hy))]
    rw [e1]
    have := kmap_put (f := fun y => V.ref (if y = x then t else ta y)) hx
    rw [if_pos rfl] at this
    rw [this]
  · show FT (upd H D (.dK (putK (kmap (fun y => .ref (ta y)) ns) (Sum.inr x) (.ref t)))) (if y = x then t else ta y) (g y)
    rcases List.mem_append.mp hy with h | h
    · rw [if_neg (fun e => hx (by rw [← e]; exact h))]
      exact (h2 y h).upd ((h2 y h).ne h1 (fun _ _ z => by cases z))
    · rw [List.mem_singleton.mp h, if_pos rfl]
      exact ht.upd htD
theorem nodup_take {ns : List Str} (hd : ns.Nodup) {i : Nat} {x : Str} (h : ns[i]? = some x) : x ∉ ns.take i := by
  intro hm2
  obtain ⟨j, hj⟩ := List.getElem?_of_mem hm2
  have hji : j < i := by
    have := (List.getElem?_eq_some_iff.mp hj).1
    rw [List.length_take] at this
    omega
  rw [List.getElem?_take_of_lt hji] at hj
  have := nd_ix hd hj h
  omega
theorem kmap_get {f : Str → V} {ns : List Str} {i : Nat} {k : Key} {v : V} (h : (kmap f ns)[i]? = some (k, v)) : ∃ x, ns[i]? = some x ∧ k = Sum.inr x ∧ v = f x := by
  unfold kmap at h
  rw [List.getElem?_map] at h
  cases e : ns[i]? with
  | none => rw [e] at h; cases h
  | some x =>
    rw [e] at h
    injection h with h
    injection h with h1 h2
    exact ⟨x, rfl, h1.symm, h2.symm⟩
abbrev scFind_N : List Str := ["below", "weir", "courses", "place"]
abbrev scFind_S : Stmt := sFind
theorem scFind : FnScope scFind_N ["below"] (defScope sFind) := ⟨rfl, rfl, rfl, by decide +kernel, rfl, by decide +kernel, by decide +kernel⟩
def spFind (K : PySem.W.Frag) : Sp := fun vs H Q _ => ∃ (d : Addr) (R : List Row), vs = [.ref d] ∧ H d = some (.dK (belowK R)) ∧ GoodRows R ∧
  ∀ (H' : Hp) (c : Addr), Same H H' → H c = none → TupsAt H' c (nmsOf R) (course R) → Q (.ref c) H'
section
variable {P : Program} {w : World} {K : PySem.W.Frag} {mg : Str → Option Value} {base : Heap} {tS tM tL : Tok}
theorem ok_find {f fC : Addr} {fd fdC : FuncData} (F : FnP K "_find_courses" sFind f fd) (F_course : FnP K "_course" sCourse fC fdC) (g_course : mg "_course" = some (.ref fC)) (B : Bl mg) (C : Gc mg tS tM tL) : FnOk P w K mg base CX0 2 f fd ["below"] (spFind K) := by
  have G_course : FnOk P w K mg base CX0 1 fC fdC ["below", "weir"] (spCourse K) := ok_course F_course B C
  have b_course : Binds K fdC ["below", "weir"] [] := F_course.bindsN fun _ _ _ _ _ _ us hl => match us, hl with | [_, _], _ => rfl
  refine F.ok scFind (fun vs H Q E h => ?_) (fun cdv A outer s H vs Q E hr h => ?_)
  · obtain ⟨d, R, rfl, _⟩ := h
    rfl
  · obtain ⟨d, R, rfl, hd, hG, k⟩ := h
    have hu := hu_of hr
    have hr_course : Room 1 _ := hr.mono (by decide)
    refine ⟨_, PSs.nox (pss_cons
      (ps_lock (k0_setDc (i := 2) (own := [("weir", 1)]) (g := gName 1) (tt := tYes) (by rfl) scFind.nd rfl rfl (k0_sw rfl rfl rfl (by decide +kernel)) (pi_keys (pv 0)) (blkOk_by (own := [("weir", 1)]) (N := scFind_N) (sc := defScope scFind_S) (by decide +kernel)) (fun _ _ _ _ _ => (pg_name (i := 1) scFind.nd rfl (Or.inl rfl))) (fun _ _ _ _ _ => pts_nil) (fun _ _ _ _ _ => (pv 1)) (fun _ _ _ _ _ => (pe_call G_course hr_course (by rfl) g_course F_course.kp b_course .nil pass0 (pa_cons (pv 0) (pa_cons (pv 1) pa_nil))))))
      (pss_cons
      (ps_lock (ps_for PassesOwn.never rfl (pi_enumD (by rfl) B.enumerate (pa_cons (pv 2) pa_nil)) (pg_tup (by rfl) (pgs_cons (pg_name (i := 3) scFind.nd rfl (Or.inl rfl)) (pgs_cons (pg_name (i := 1) scFind.nd rfl (Or.inl rfl)) pgs_nil))) (pss_one (ps_if (pt_cmpR op_gt (pe_callB (lenK (K := K)) (by rfl) B.len PySem.boot_len (pa_cons (pe_dget hu (pv 2) (pv 1) (fun _ _ => rfl)) pa_nil)) (pe_callB k0_lenD (by rfl) B.len PySem.boot_len (pa_cons (pv 0) pa_nil)) (nomark _)) (pss_one ps_never) pss_nil))))
      (pss_one
      (ps_ret (pv 2))))), ?_⟩
    have hnd := hG.nm.nd
    have hRm := hG.most
    have hnl : (nmsOf R).length = R.length := List.length_map _
    refine ⟨d, _, hd, trivial, fun od => ?_⟩
    refine ⟨_, rfl, d, od, rfl, .inl ⟨_, upd_same, fun D hD => ?_⟩⟩
    have s0 : Same (upd H d (.frz od (.dK (belowK R)))) (upd (upd H d (.frz od (.dK (belowK R)))) D (.dK [])) := same_upd hD
    have ndD : d ≠ D := ne_of_none upd_same hD
    have hfz : ∀ H2, Same (upd H d (.frz od (.dK (belowK R)))) H2 → H2 d = some (.frz od (.dK (belowK R))) := fun H2 s => s _ _ upd_same
    refine dc_it (walk_keys (kvs := belowK R)) (fun i H2 => Same (upd H d (.frz od (.dK (belowK R)))) H2 ∧ TupsAt H2 D ((nmsOf R).take i) (course R)) ⟨s0, ⟨fun _ => 0, by rw [upd_same, List.take_zero]; rfl, fun x hx => by rw [List.take_zero] at hx; cases hx⟩⟩ (fun i H2 hi h => hfz _ h.1) ?_ ?_
    · rintro i x H2 H3 hi ⟨s2, T2⟩ ⟨e, k0, v0, hkv, ev⟩
      subst e
      subst ev
      obtain ⟨x, hx, rfl, rfl⟩ := kmap_get hkv
      have hxm : x ∈ nmsOf R := List.mem_of_getElem? hx
      refine ⟨rfl, ?_⟩
      unfold tYes
      refine iteT ?_
      refine ⟨_, rfl, _, rfl, _, rfl, d, R, x, rfl, .inr ⟨od, hfz _ s2⟩, hG, hxm, fun H4 t s4 nt ht => ?_⟩
      obtain ⟨ta, h1, h2⟩ := (T2.same s4).ex
      refine ⟨_, Sum.inr x, rfl, h1, ?_, fun b o hb => ?_, ?_⟩
      · rw [kmap_len, List.length_take]
        exact small1000 (by omega)
      · rw [upd_ne (ne_of_none hb hD)]
        exact s4 _ _ (s2 b o hb)
      · have hm := tups_more h1 h2 (nodup_take hnd hx) ht
        rw [List.take_add_one, hx]
        exact hm
    · rintro H2 ⟨s2, T2⟩
      rw [kmap_len, List.take_length] at T2
      refine ⟨hfz _ s2, ?_⟩
      have s3 : Same H (upd H2 d (.dK (belowK R))) := same_unlock hd s2
      have T3 : TupsAt (upd H2 d (.dK (belowK R))) D (nmsOf R) (course R) := by
        obtain ⟨ta, h1, h2⟩ := T2.ex
        refine ⟨ta, by rw [upd_ne ndD.symm]; exact h1, fun x hx => ?_⟩
        exact (h2 x hx).upd ((h2 x hx).ne (hfz _ s2) (fun _ _ z => by cases z))
      have hD3 : H D = none := by
        rw [upd_ne ndD.symm] at hD
        exact hD
      generalize hH3 : upd H2 d (.dK (belowK R)) = H3 at s3 T3
      obtain ⟨ta, h1, h2⟩ := T3.ex
      refine ⟨D, _, h1, trivial, fun oD => ?_⟩
      have hl1 : (upd H3 D (.frz oD (.dK (kmap (fun x => .ref (ta x)) (nmsOf R))))) D = some (.frz oD (.dK (kmap (fun x => .ref (ta x)) (nmsOf R)))) := upd_same
      refine ⟨_, rfl, D, oD, _, rfl, upd_same, ?_⟩
      refine for_it walk_enumD (fun i σ H4 => ∃ (v1 v3 : Option V), σ = [some (.ref d), v1, some (.ref D), v3] ∧ Same (upd H3 D (.frz oD (.dK (kmap (fun x => .ref (ta x)) (nmsOf R))))) H4) ⟨_, _, rfl, .refl _⟩ (fun i σ H4 hi h => by
        obtain ⟨_, _, _, s⟩ := h
        exact s _ _ hl1) ?_ ?_
      · rintro i x σ H4 H5 hi ⟨v1, v3, rfl, s4⟩ ⟨T, x1, x2, rfl, hT, rfl, e1, e2⟩
        rw [kmap_len] at hi
        obtain ⟨x, hx, rfl⟩ : ∃ x, (nmsOf R)[i]? = some x ∧ x2 = .str x := by
          refine ⟨(nmsOf R)[i], List.getElem?_eq_getElem hi, ?_⟩
          have e2 : ((kmap (fun x => V.ref (ta x)) (nmsOf R))[i]?.map fun kv => kV kv.1) = some x2 := e2
          unfold kmap at e2
          rw [List.getElem?_map, List.getElem?_eq_getElem hi] at e2
          exact (Option.some.inj e2).symm
        have hxm : x ∈ nmsOf R := List.mem_of_getElem? hx
        obtain ⟨m, hC⟩ := course_is hG hxm
        have s5 : Same (upd H3 D (.frz oD (.dK (kmap (fun x => .ref (ta x)) (nmsOf R))))) (upd H4 T (.tup [x1, .str x])) := s4.trans (same_upd hT)
        have hDr : Rd (upd H4 T (.tup [x1, .str x])) D (.dK (kmap (fun x => .ref (ta x)) (nmsOf R))) := .inr ⟨oD, s5 _ _ hl1⟩
        have hta : FT (upd H4 T (.tup [x1, .str x])) (ta x) (course R x) := ((h2 x hxm).upd ((h2 x hxm).ne h1 (fun _ _ z => by cases z))).same s5
        have hd3 : (upd H3 D (.frz oD (.dK (kmap (fun x => .ref (ta x)) (nmsOf R))))) d = some (.dK (belowK R)) := by
          rw [upd_ne ndD, ← hH3, upd_same]
        refine ⟨T, _, rfl, .inl (.inl upd_same), rfl, _, _, rfl, _, _, rfl, rfl, ?_⟩
        refine ⟨_, rfl, _, rfl, D, _, rfl, dget_rn hDr hxm, ta x, _, rfl, .inr (.inl hta.rd), _, rfl, d, _, rfl, .inl (s5 _ _ hd3), _, _, rfl, rfl, _, rfl, ?_⟩
        refine iteDn ?_ ?_
        · have h1 := hC.most
          rw [List.length_map, hC.len, kmap_len, hnl]
          omega
        · exact ⟨_, _, rfl, s5⟩
      · rintro σ H4 ⟨v1, v3, rfl, s4⟩
        refine ⟨s4 _ _ hl1, ?_⟩
        have s5 : Same H3 (upd H4 D (.dK (kmap (fun x => .ref (ta x)) (nmsOf R)))) := same_unlock h1 s4
        exact ⟨_, rfl, k _ D (s3.trans s5) hD3 (T3.same s5)⟩
end
end K0
end
section
set_option Elab.async false
set_option linter.all false
set_option maxRecDepth 100000
namespace TS3
open PySem PyProof.Rows TS
/-- a tuple of two ints and a text -/
def Tri (h : Heap) (v : Value) (i j : Int) (x : Str) : Prop := ∃ a o xs n t u w, v = .ref a ∧ h.get? a = some o ∧ o.cls = .type "tuple" ∧ o.data = .seq xs n ∧ xs.toList = [.int i t, .int j u, .str x w]
theorem Tri.keeps {h h' : Heap} {v : Value} {i j : Int} {x : Str} (T : Tri h v i j x) (k : ∀ b o, h.get? b = some o → o.cls = .type "tuple" → h'.get? b = some o) : Tri h' v i j x := by
  obtain ⟨a, o, xs, n, t, u, w, e, h1, h2, h3, h4⟩ := T
  exact ⟨a, o, xs, n, t, u, w, e, k a o h1 h2, h2, h3, h4⟩
theorem Tri.uniq {h : Heap} {v : Value} {i j i' j' : Int} {x x' : Str} (T : Tri h v i j x) (T' : Tri h v i' j' x') : i = i' ∧ j = j' ∧ x = x' := by
  obtain ⟨a, o, xs, n, t, u, w, e, h1, h2, h3, h4⟩ := T
  obtain ⟨a', o', xs', n', t', u', w', e', k1, k2, k3, k4⟩ := T'
  rw [e] at e'
  cases e'
  rw [h1] at k1
  cases k1
  rw [h3] at k3
  cases k3
  rw [h4] at k4
  injection k4 with q1 q2
  injection q2 with q2 q3
  injection q3 with q3 _
  cases q1
  cases q2
  cases q3
  exact ⟨rfl, rfl, rfl⟩
/-- what is sorted: the second numbers below 100, each with one first number and text -/
structure TrisOk (h : Heap) (vs : List Value) (f : Int → Int) (g : Int → Str) : Prop where
  at_ : ∀ v ∈ vs, ∃ j, Tri h v (f j) j (g j) ∧ 0 ≤ j ∧ j < 100
theorem TrisOk.keeps {h h' : Heap} {vs : List Value} {f : Int → Int} {g : Int → Str} (x : TrisOk h vs f g) (k : ∀ b o, h.get? b = some o → o.cls = .type "tuple" → h'.get? b = some o) : TrisOk h' vs f g :=
  ⟨fun v hv => let ⟨j, t, r⟩ := x.at_ v hv; ⟨j, t.keeps k, r⟩⟩
theorem firsts {h : Heap} {f : Int → Int} {g : Int → Str} : ∀ vs : List Value, TrisOk h vs f g → ∃ fs, PySem.W.KatTups h vs fs ∧ fs.length = vs.length ∧ ∀ z, z ∈ fs → ∃ n t, z = Value.int n t
  | [], _ => ⟨[], PySem.W.KatTups.nil, rfl, fun f hf => by simp at hf⟩
  | v :: vs, x => by
    obtain ⟨fs, k, hl, hi⟩ := firsts vs ⟨fun u hu => x.at_ u (List.mem_cons_of_mem _ hu)⟩
    obtain ⟨j, ⟨a, o, xs, n, t, u, w, e, h1, h2, h3, h4⟩, _⟩ := x.at_ v (List.mem_cons_self ..)
    subst e
    refine ⟨.int (f j) t :: fs, PySem.W.KatTups.cons h1 h2 h3 ?_ k, by simp [hl], ?_⟩
    · have z := congrArg (fun l : List Value => l[0]?) h4
      simpa using z
    · intro z hz
      rcases List.mem_cons.mp hz with rfl | hz
      · exact ⟨_, t, rfl⟩
      · exact hi z hz
section
variable {prog : Program} {w : World} {A : Around} {E : Value → Shared → Prop} {s : Shared}
theorem kind3 {f : Int → Int} {g : Int → Str} {vs : List Value} (h2 : 2 ≤ vs.length) (x : TrisOk s.heap vs f g) (r : Value → Int) (hr : ∀ v, v ∈ vs → ∀ i j y, Tri s.heap v i j y → r v = i * 100 + j) (Q : SortKind → Shared → Prop)
    (h : ∀ κ, Cmp prog w A s κ (pairsOf vs) r → Q κ s) : wpAny (model prog w) A (keyKind' vs.toArray) Q E s := by
  obtain ⟨fs, k, hl, hi⟩ := firsts vs x
  refine PySem.W.kat_kind (T := Value.type "int") k (by omega) (fun f hf => ?_) rfl (h _ ?_)
  · obtain ⟨n, t, rfl⟩ := hi f hf
    exact PySem.W.Looks.of_pure rfl
  · intro p q hp hq Q' E' hQ
    rw [pairsOf_toList] at hp hq
    obtain ⟨j, tp, j0, j1⟩ := x.at_ _ (mem_zip_self hp).2
    obtain ⟨l, tq, l0, l1⟩ := x.at_ _ (mem_zip_self hq).2
    have ep := hr _ (mem_zip_self hp).2 _ _ _ tp
    have eq2 := hr _ (mem_zip_self hq).2 _ _ _ tq
    have hQ' : Q' (decide (f j * 100 + j < f l * 100 + l)) s := by
      have z : decide (r p.1 < r q.1) = decide (f j * 100 + j < f l * 100 + l) := by rw [ep, eq2]
      rw [← z]; exact hQ
    obtain ⟨a, o, xs, n, t, u, w1, e1, ho, hc, hdt, i⟩ := tp
    obtain ⟨a', o', ys, n', t', u', w2, e2, ho', hc', hdt', i'⟩ := tq
    rw [e1, e2]
    refine PySem.W.kat_lt ho hdt ho' hdt' ?_
    have sz : decide (xs.size < ys.size) = false := by
      have l1 := congrArg List.length i
      have l2 := congrArg List.length i'
      rw [Array.length_toList] at l1 l2
      exact decide_eq_false (by rw [l1, l2]; exact Nat.lt_irrefl _)
    rw [sz, i, i']
    show PySem.W.KatLex prog w A _ false Q' [(Value.int (f j) t, Value.int (f l) t'), (Value.int j u, Value.int l u'), (Value.str (g j) w1, Value.str (g l) w2)] 0 s
    refine PySem.W.kat_cons (wpAny_eqBool_int ?_)
    by_cases e : f j = f l
    · rw [e, beq_self_eq_true]
      refine PySem.W.kat_yes (PySem.W.kat_cons (wpAny_eqBool_int ?_))
      by_cases e3 : j = l
      · subst e3
        rw [beq_self_eq_true]
        refine PySem.W.kat_yes (PySem.W.kat_cons (wpAny_eqBool_str ?_))
        rw [decide_eq_true rfl]
        refine PySem.W.kat_yes (PySem.W.kat_nil ?_)
        rw [decide_eq_false (Int.lt_irrefl _)] at hQ'
        exact hQ'
      · rw [show (j == l) = false from beq_eq_false_iff_ne.mpr e3]
        refine PySem.W.kat_no (oneLt_ints _ ?_)
        have d : decide (f j * 100 + j < f l * 100 + l) = decide (j < l) := decide_eq_decide.mpr (by rw [e]; omega)
        rw [d] at hQ'
        exact hQ'
    · rw [show (f j == f l) = false from beq_eq_false_iff_ne.mpr e]
      refine PySem.W.kat_no (oneLt_ints _ ?_)
      have d : decide (f j * 100 + j < f l * 100 + l) = decide (f j < f l) := decide_eq_decide.mpr (by omega)
      rw [d] at hQ'
      exact hQ'
/-- the second number as the heap tells it -/
noncomputable def rankOf (h : Heap) (v : Value) : Int := open Classical in if x : ∃ r : Int, ∃ i j y, Tri h v i j y ∧ r = i * 100 + j then x.choose else 0
theorem rankOf_eq {h : Heap} {v : Value} {i j : Int} {y : Str} (T : Tri h v i j y) : rankOf h v = i * 100 + j := by
  have x : ∃ r : Int, ∃ i j y, Tri h v i j y ∧ r = i * 100 + j := ⟨_, i, j, y, T, rfl⟩
  unfold rankOf
  rw [dif_pos x]
  obtain ⟨i', j', y', T', e⟩ := x.choose_spec
  obtain ⟨e1, e2, _⟩ := T.uniq T'
  rw [e, e1, e2]
theorem sort3 {a : Addr} {vs : List Value} {n : Nat} {f : Int → Int} {g : Int → Str} {P : PySem.Fin → Shared → Prop} (ho : s.heap.get? a = some (seqObj "list" vs.toArray n)) (h64 : vs.length < 64) (x : TrisOk s.heap vs f g)
    (r : Value → Int) (hr : ∀ v, v ∈ vs → ∀ i j y, Tri s.heap v i j y → r v = i * 100 + j)
    (h : ∀ out : Array Value, out.toList.Perm vs → out.toList.Pairwise (fun u v => r u ≤ r v) → P (.done (.ret .none)) { s with heap := sortedHeap s.heap a vs out }) :
    wpAny (model prog w) A (Builtin.«list.sort» ⟨[.ref a], []⟩) P E s := by
  have keep : ∀ b o, s.heap.get? b = some o → o.cls = .type "tuple" → (midHeap s.heap a vs).get? b = some o := fun b o e hc => by
    refine midHeap_old ?_ e
    rintro rfl
    rw [ho] at e
    have e' : seqObj "list" vs.toArray n = o := Option.some.inj e
    rw [← e'] at hc
    have c' : Value.type "list" = Value.type "tuple" := hc
    injection c' with c''
    exact absurd c'' (by decide)
  refine SK.plain_sort (r := r) ho h64 (fun h2 Q hQ => ?_) fun ps out h1 h2 h3 => ?_
  · refine kind3 (s := { s with heap := midHeap s.heap a vs }) h2 (x.keeps keep) r (fun v hv i j y t => ?_) Q hQ
    obtain ⟨j0, t0, _⟩ := x.at_ v hv
    obtain ⟨e1, e2, e3⟩ := t.uniq (t0.keeps keep)
    rw [e1, e2]
    exact hr v hv _ _ _ t0
  · obtain ⟨p, o⟩ := out_rank h1 h2 h3
    exact h out p o
theorem sorted3 {l : Addr} {vs : List Value} {f : Int → Int} {g : Int → Str} {Q : Value → Shared → Prop} (hl : s.heap.IsList l vs.toArray) (h64 : vs.length < 64) (x : TrisOk s.heap vs f g)
    (h : ∀ out : Array Value, out.toList.Perm vs → out.toList.Pairwise (fun u v => rankOf s.heap u ≤ rankOf s.heap v) → Q (.ref (s.heap.objs.size + 1)) { s with heap := sortedAll s.heap vs out }) :
    wpAny (model prog w) A (call (.builtin "sorted") [.ref l]) Q E s := by
  refine Calls.call_function_entry kind_sorted plain_sorted entry_sorted (args_sorted1 _) ?_
  unfold Builtin.«sorted»
  refine wpAny_bind (m := checkCount "sorted" 1 1 _) (wpAny_pure ?_)
  refine wpAny_bind (collect_list hl ?_ (by rw [sizeLine_eq]; omega))
  refine wpAny_bind (wpAny_newList ?_ (by rw [sizeLine_eq]; omega))
  have hsz : ((s.heap.push (seqObj "list" #[] 0)).update s.heap.objs.size (Obj.mapSeq (· ++ vs.toArray))).objs.size = s.heap.objs.size + 1 := by
    rw [Heap.size_update, size_push']
  have hoL : (((s.heap.push (seqObj "list" #[] 0)).update s.heap.objs.size (Obj.mapSeq (· ++ vs.toArray))).push (seqObj "list" vs.toArray 0)).get? (s.heap.objs.size + 1) = some (seqObj "list" vs.toArray 0) := by
    rw [← hsz]; exact Heap.get?_push_size _ rfl
  have keep : ∀ b o, s.heap.get? b = some o → o.cls = .type "tuple" → (((s.heap.push (seqObj "list" #[] 0)).update s.heap.objs.size (Obj.mapSeq (· ++ vs.toArray))).push (seqObj "list" vs.toArray 0)).get? b = some o := fun b o q _ => by
    have hlt : b < s.heap.objs.size := Heap.lt_size q
    rw [Heap.get?_push_ne _ _ _ (by rw [hsz]; exact Nat.ne_of_lt (Nat.lt_succ_of_lt hlt)), Heap.get?_update_ne _ _ _ _ (Nat.ne_of_lt hlt), Heap.get?_push_ne _ _ _ (Nat.ne_of_lt hlt)]
    exact q
  show wpAny _ _ _ _ _ { s with heap := ((s.heap.push (seqObj "list" #[] 0)).update s.heap.objs.size (Obj.mapSeq (· ++ vs.toArray))).push (seqObj "list" vs.toArray 0) }
  rw [hsz]
  refine wpAny_bind (wpAny_holding (wpAny_call_entry slot_list_sort ⟨_, hoL, rfl⟩ entry_list_sort (sort3 hoL h64 (x.keeps keep) (rankOf s.heap) (fun v hv i j y t => ?_) fun out a1 a2 => ⟨_, rfl, ?_⟩) (args_list_sort _)))
  · obtain ⟨j0, t0, _⟩ := x.at_ v hv
    obtain ⟨e1, e2, _⟩ := t.uniq (t0.keeps keep)
    rw [e1, e2]
    exact rankOf_eq t0
  · exact wpAny_pure ⟨_, rfl, h out a1 a2⟩
end
end TS3
namespace L2
open PySem PySem.Spec PyProof.Rows
/-- sorted(xs), xs a list of fewer than 64 tuples of two ints and a text, the second ints unlike: some arrangement -/
def k0_rSorted3 (K : PySem.W.Frag) : List V → Hp → VK → Prop := fun vs H Q => ∃ (a : Addr) (xs : List V) (f : Int → Int) (g : Int → Str), vs = [V.ref a] ∧ SqL K H a xs ∧ xs.length < 64 ∧ (∀ x ∈ xs, ∃ t j, x = V.ref t ∧ H t = some (.tup [.int (f j), .int j, .str (g j)]) ∧ 0 ≤ j ∧ j < 100) ∧
  ∀ (ys : List V) (p : Addr), ys.Perm xs → (ys.Pairwise fun x y => ∀ t t' j j', x = V.ref t → y = V.ref t' → H t = some (.tup [.int (f j), .int j, .str (g j)]) → H t' = some (.tup [.int (f j'), .int j', .str (g j')]) → f j * 100 + j ≤ f j' * 100 + j') → H p = none → Q (.ref p) (upd H p (.lst ys))
theorem k0_sorted3 {X : Cx} : CallR X (.builtin "sorted") (k0_rSorted3 X.K) := by
  intro pins s σ H vs us Q I r h
  obtain ⟨a, xs, f, g, rfl, hs, h64, hx, q⟩ := h
  obtain ⟨its, rv, hl, hz⟩ := I.list hs
  rw [Vals.ref1 r]
  obtain ⟨e1, e2⟩ := bkV_refs rv fun x m => by
    obtain ⟨t, j, e, _⟩ := hx x m
    exact ⟨t, e⟩
  have tri : ∀ t j, H t = some (.tup [.int (f j), .int j, .str (g j)]) → TS3.Tri s.heap (.ref t) (f j) j (g j) := fun t j ht => by
    obtain ⟨_, its2, r2, o, ho, hc, n, hd⟩ := I.hok _ _ ht
    cases r2 with
    | cons ra r2 =>
      cases r2 with
      | cons rb r2 =>
        cases r2 with
        | cons rc r2 =>
          cases r2
          obtain ⟨ta, rfl⟩ := ra
          obtain ⟨tb, rfl⟩ := rb
          obtain ⟨tc, rfl⟩ := rc
          exact ⟨t, o, _, n, ta, tb, tc, rfl, ho, hc, hd, rfl⟩
  refine TS3.sorted3 (f := f) (g := g) hl.isList (by rw [← rv.length]; exact h64) ⟨fun v hv => ?_⟩ fun out h1 h2 => ?_
  · obtain ⟨t, rfl⟩ := e2 v hv
    have hm : V.ref t ∈ xs := by
      rw [e1]
      exact List.mem_map.mpr ⟨_, hv, rfl⟩
    obtain ⟨t', j, e, ht, hj0, hj1⟩ := hx _ hm
    cases e
    exact ⟨j, tri _ _ ht, hj0, hj1⟩
  · obtain ⟨ep, he'⟩ := PyProof.Rows.sortedAll_at s.heap its out
    have h3 : ∀ u ∈ out.toList, ∃ a, u = Value.ref a := fun u hu => e2 u (h1.mem_iff.mp hu)
    have hp : (out.toList.map bkV).Perm xs := by
      rw [e1]
      exact h1.map bkV
    have ho : ((out.toList.map bkV).Pairwise fun x y => ∀ t t' j j', x = V.ref t → y = V.ref t' → H t = some (.tup [.int (f j), .int j, .str (g j)]) → H t' = some (.tup [.int (f j'), .int j', .str (g j')]) → f j * 100 + j ≤ f j' * 100 + j') := by
      rw [List.pairwise_map]
      refine List.Pairwise.imp_of_mem (fun {u v} hu hv hle t t' j j' ex ey ht ht' => ?_) h2
      obtain ⟨a1, rfl⟩ := h3 u hu
      obtain ⟨a2, rfl⟩ := h3 v hv
      have ex : V.ref a1 = V.ref t := ex
      have ey : V.ref a2 = V.ref t' := ey
      cases ex
      cases ey
      rw [TS3.rankOf_eq (tri _ _ ht), TS3.rankOf_eq (tri _ _ ht')] at hle
      exact hle
    have hlen : (out.toList.map bkV).length ≤ sizeLine := by
      rw [hp.length_eq]
      exact hz
    exact ⟨.ref _, upd H (s.heap.objs.size + 1) (.lst (out.toList.map bkV)), I.laid (t' := s.toks) (fun _ _ => PyProof.Rows.sortedAll_old) (Nat.le_succ _) ⟨hlen, out.toList, ep, bkV_vals h3, he'⟩, rfl, q _ _ hp ho (I.hok.fresh (Nat.le_succ _))⟩
end L2
end
section
end
section
set_option Elab.async false
set_option linter.all false
set_option maxRecDepth 100000
namespace K0
open PySem PySem.Spec PyProof.Rows L2
def aboveR (R : List Row) (y : Str) : List Str := (nmsOf R).filter fun x => decide (lowR R x = y)
def upR (R : List Row) (y : Str) : List Str := (nmsOf R).filter fun x => decide (y ∈ course R x)
/-! ### the deepest first -/
theorem list_getD (l : List Str) : l = (List.range l.length).map fun k => l.getD k "" := List.ext_getElem (by rw [List.length_map, List.length_range]) fun k h1 h2 => by
  rw [List.getElem_map, List.getElem_range, List.getD_eq_getElem?_getD, List.getElem?_eq_getElem h1]
  rfl
def deepR (R : List Row) : List Str := (List.range R.length).flatMap fun i => (nmsOf R).filter fun x => decide ((course R x).length = R.length - i)
/-- places, the deepest first -/
def deepP (n : Nat) (d : Nat → Nat) : List Nat := (List.range n).flatMap fun i => (List.range n).filter fun j => decide (d j = n - i)
theorem deepP_lt {n : Nat} {d : Nat → Nat} (h100 : n ≤ 100) : (deepP n d).Pairwise fun a b => -(d a : Int) * 100 + (a : Int) < -(d b : Int) * 100 + (b : Int) := by
  unfold deepP
  rw [List.pairwise_flatMap]
  refine ⟨fun i hi => ?_, ?_⟩
  · rw [List.pairwise_filter]
    refine List.Pairwise.imp (fun {a b} hab h1 h2 => ?_) (List.pairwise_lt_range (n := n))
    have h1 := of_decide_eq_true h1
    have h2 := of_decide_eq_true h2
    rw [h1, h2]
    omega
  · refine List.Pairwise.imp_of_mem (fun {i k} hi hk hik a ha b hb => ?_) (List.pairwise_lt_range (n := n))
    have hi := List.mem_range.mp hi
    have hk := List.mem_range.mp hk
    obtain ⟨a1, a2⟩ := List.mem_filter.mp ha
    obtain ⟨b1, b2⟩ := List.mem_filter.mp hb
    have a1 := List.mem_range.mp a1
    have b1 := List.mem_range.mp b1
    have a2 := of_decide_eq_true a2
    have b2 := of_decide_eq_true b2
    rw [a2, b2]
    omega
theorem deepP_perm {n : Nat} {d : Nat → Nat} (h100 : n ≤ 100) (hd : ∀ j, j < n → 1 ≤ d j ∧ d j ≤ n) : (deepP n d).Perm (List.range n) := by
  have nd : (deepP n d).Nodup := List.Pairwise.imp (fun {a b} h e => by
    subst e
    omega) (deepP_lt (d := d) h100)
  refine (List.perm_ext_iff_of_nodup nd List.nodup_range).mpr fun a => ⟨fun h => ?_, fun h => ?_⟩
  · obtain ⟨i, _, hm⟩ := List.mem_flatMap.mp h
    exact (List.mem_filter.mp hm).1
  · have ha := List.mem_range.mp h
    obtain ⟨h1, h2⟩ := hd a ha
    refine List.mem_flatMap.mpr ⟨n - d a, List.mem_range.mpr (by omega), List.mem_filter.mpr ⟨h, decide_eq_true (by omega)⟩⟩
theorem deep_eq {n : Nat} {d : Nat → Nat} {js : List Nat} (h100 : n ≤ 100) (hd : ∀ j, j < n → 1 ≤ d j ∧ d j ≤ n) (hp : js.Perm (List.range n)) (hs : js.Pairwise fun a b => -(d a : Int) * 100 + (a : Int) ≤ -(d b : Int) * 100 + (b : Int)) : js = deepP n d := by
  refine List.Perm.eq_of_pairwise (le := fun a b => -(d a : Int) * 100 + (a : Int) ≤ -(d b : Int) * 100 + (b : Int)) (fun a b ha hb h1 h2 => ?_) hs ((deepP_lt h100).imp fun h => Int.le_of_lt h) (hp.trans (deepP_perm h100 hd).symm)
  have ha := List.mem_range.mp (hp.mem_iff.mp ha)
  have hb := List.mem_range.mp ((deepP_perm h100 hd).mem_iff.mp hb)
  omega
theorem deep_names {R : List Row} {nm : Nat → Str} (hn : nmsOf R = (List.range R.length).map nm) : (deepP R.length fun j => (course R (nm j)).length).map nm = deepR R := by
  unfold deepP deepR
  rw [List.map_flatMap]
  congr 1
  funext i
  rw [hn, List.filter_map]
  rfl
abbrev scAbove_N : List Str := ["below", "low", "weir"]
abbrev scAbove_S : Stmt := sAbove
theorem scAbove : FnScope scAbove_N ["below", "low"] (defScope sAbove) := ⟨rfl, rfl, rfl, by decide +kernel, rfl, by decide +kernel, by decide +kernel⟩
abbrev scUp_N : List Str := ["courses", "low", "weir"]
abbrev scUp_S : Stmt := sUp
theorem scUp : FnScope scUp_N ["courses", "low"] (defScope sUp) := ⟨rfl, rfl, rfl, by decide +kernel, rfl, by decide +kernel, by decide +kernel⟩
abbrev scOrder_N : List Str := ["courses", "rows", "place", "weir", "row"]
abbrev scOrder_S : Stmt := sOrder
theorem scOrder : FnScope scOrder_N ["courses"] (defScope sOrder) := ⟨rfl, rfl, rfl, by decide +kernel, rfl, by decide +kernel, by decide +kernel⟩
def spAbove : Sp := fun vs H Q _ => ∃ (d : Addr) (R : List Row) (y : Str), vs = [.ref d, .str y] ∧ H d = some (.dK (belowK R)) ∧ GoodRows R ∧
  ∀ (H' : Hp) (t : Addr), Same H H' → H t = none → FT H' t (aboveR R y) → Q (.ref t) H'
def spUp : Sp := fun vs H Q _ => ∃ (c : Addr) (R : List Row) (y : Str), vs = [.ref c, .str y] ∧ TupsAt H c (nmsOf R) (course R) ∧ GoodRows R ∧
  ∀ (H' : Hp) (t : Addr), Same H H' → H t = none → FT H' t (upR R y) → Q (.ref t) H'
def spOrder : Sp := fun vs H Q _ => ∃ (c : Addr) (R : List Row), vs = [.ref c] ∧ TupsAt H c (nmsOf R) (course R) ∧ GoodRows R ∧
  ∀ (H' : Hp) (t : Addr), Same H H' → H t = none → H' t = some (.tup ((deepR R).map V.str)) → Q (.ref t) H'
/-- the place that a row tells -/
def plAt (H : Hp) (t : Addr) : Nat := match H t with | some (.tup [_, .int j, _]) => j.toNat | _ => 0
theorem inV_str (y : Str) (l : List Str) : inV (.str y) (l.map V.str) = decide (y ∈ l) := by
  unfold inV
  rw [List.any_map]
  by_cases h : y ∈ l
  · rw [decide_eq_true h]
    exact List.any_eq_true.mpr ⟨y, h, beq_self_eq_true y⟩
  · rw [decide_eq_false h, List.any_eq_false]
    intro x hx e
    have e : (x == y) = true := e
    rw [eq_of_beq e] at hx
    exact h hx
theorem flat_strs (l : List Str) : (l.map V.str).all flatV = true := by
  rw [List.all_map]
  exact List.all_eq_true.mpr fun _ _ => rfl
theorem filter_take {p : Str → Bool} {ns : List Str} {i : Nat} {x : Str} (h : ns[i]? = some x) : (ns.take (i + 1)).filter p = (ns.take i).filter p ++ (if p x = true then [x] else []) := by
  rw [List.take_add_one, h, List.filter_append]
  show _ ++ [x].filter p = _
  by_cases e : p x = true
  · rw [List.filter_cons_of_pos e, if_pos e]
    rfl
  · rw [List.filter_cons_of_neg e, if_neg e]
    rfl
section
variable {P : Program} {w : World} {K : PySem.W.Frag} {mg : Str → Option Value} {base : Heap} {tS tM tL : Tok}
theorem ok_above {f : Addr} {fd : FuncData} (F : FnP K "_directly_above" sAbove f fd) (B : Bl mg) : FnOk P w K mg base CX0 1 f fd ["below", "low"] spAbove := by
  refine F.ok scAbove (fun vs H Q E h => ?_) (fun cdv A outer s H vs Q E hr h => ?_)
  · obtain ⟨d, R, y, rfl, _⟩ := h
    rfl
  · obtain ⟨d, R, y, rfl, hd, hG, k⟩ := h
    have hu := hu_of hr
    refine ⟨_, PSs.nox (pss_one
      (ps_ret (pe_callTy (tupleF (K := K)) (by rfl) B.tuple (by decide +kernel) (pa_cons (pe_lock (pe_lc (own := [("weir", 2)]) (g := gName 2) (by rfl) scAbove.nd (pi_keys (pv 0)) (blkOk_by (own := [("weir", 2)]) (N := scAbove_N) (sc := defScope scAbove_S) (by decide +kernel)) (fun _ _ _ _ _ => (pg_name (i := 2) scAbove.nd rfl (Or.inl rfl))) (fun _ _ _ _ _ => (pts_one (pt_cmpR op_eq (pe_dget hu (pv 0) (pv 2) (fun _ _ => rfl)) (pv 1) (nomark _)))) (fun _ _ _ _ _ => (pv 2)))) pa_nil)))), ?_⟩
    have hnd := hG.nm.nd
    have hRm := hG.most
    have hnl : (nmsOf R).length = R.length := List.length_map _
    refine ⟨d, _, hd, trivial, fun od => ?_⟩
    refine ⟨_, rfl, d, od, rfl, .inl ⟨_, upd_same, fun D hD => ?_⟩⟩
    have s0 : Same (upd H d (.frz od (.dK (belowK R)))) (upd (upd H d (.frz od (.dK (belowK R)))) D (.lst [])) := same_upd hD
    have ndD : d ≠ D := ne_of_none upd_same hD
    have hfz : ∀ H2, Same (upd H d (.frz od (.dK (belowK R)))) H2 → H2 d = some (.frz od (.dK (belowK R))) := fun H2 s => s _ _ upd_same
    refine lc_it (walk_keys (kvs := belowK R)) (fun i H2 => Same (upd H d (.frz od (.dK (belowK R)))) H2 ∧ H2 D = some (.lst ((((nmsOf R).take i).filter fun x => decide (lowR R x = y)).map V.str))) ⟨s0, by rw [upd_same, List.take_zero]; rfl⟩ (fun i H2 hi h => hfz _ h.1) ?_ ?_
    · rintro i x H2 H3 hi ⟨s2, hl⟩ ⟨e, k0, v0, hkv, ev⟩
      subst e
      subst ev
      obtain ⟨x, hx, rfl, rfl⟩ := kmap_get hkv
      have hxm : x ∈ nmsOf R := List.mem_of_getElem? hx
      refine ⟨rfl, ?_⟩
      refine ⟨_, rfl, _, rfl, d, _, rfl, dget_rn (.inr ⟨od, hfz _ s2⟩) hxm, _, rfl, rfl, _, rfl, ?_⟩
      have hft := filter_take (p := fun x => decide (lowR R x = y)) hx
      refine ite2 (fun h => ?_) (fun h => ?_)
      · have h := V.str.inj (of_decide_eq_true h)
        rw [if_pos (decide_eq_true h)] at hft
        refine ⟨_, rfl, _, hl, ?_, fun b o hb => ?_, ?_⟩
        · rw [List.length_map]
          have := List.length_filter_le (fun x => decide (lowR R x = y)) ((nmsOf R).take i)
          rw [List.length_take] at this
          exact small1000 (by omega)
        · rw [upd_ne (ne_of_none hb hD)]
          exact s2 b o hb
        · rw [upd_same, hft, List.map_append]
          rfl
      · have h : ¬ lowR R x = y := fun z => h (decide_eq_true (congrArg V.str z))
        rw [if_neg (by rw [decide_eq_false h]; exact Bool.false_ne_true), List.append_nil] at hft
        refine ⟨s2, ?_⟩
        rw [hft]
        exact hl
    · rintro H2 ⟨s2, hl⟩
      rw [kmap_len, List.take_length] at hl
      refine ⟨hfz _ s2, ?_⟩
      have s3 : Same H (upd H2 d (.dK (belowK R))) := same_unlock hd s2
      have hl3 : (upd H2 d (.dK (belowK R))) D = some (.lst ((aboveR R y).map V.str)) := by
        rw [upd_ne ndD.symm]
        exact hl
      refine ⟨D, _, rfl, .inl (.inl hl3), fun t ot nt pt => ?_⟩
      exact k _ t (s3.trans (same_upd nt)) (s3.free nt) ⟨ot, pt, upd_same⟩
theorem ok_up {f : Addr} {fd : FuncData} (F : FnP K "_find_upstream" sUp f fd) (B : Bl mg) : FnOk P w K mg base CX0 1 f fd ["courses", "low"] spUp := by
  refine F.ok scUp (fun vs H Q E h => ?_) (fun cdv A outer s H vs Q E hr h => ?_)
  · obtain ⟨d, R, y, rfl, _⟩ := h
    rfl
  · obtain ⟨d, R, y, rfl, hT, hG, k⟩ := h
    have hu := hu_of hr
    obtain ⟨ta, hd, ht⟩ := hT.ex
    refine ⟨_, PSs.nox (pss_one
      (ps_ret (pe_callTy (tupleF (K := K)) (by rfl) B.tuple (by decide +kernel) (pa_cons (pe_lock (pe_lc (own := [("weir", 2)]) (g := gName 2) (by rfl) scUp.nd (pi_keys (pv 0)) (blkOk_by (own := [("weir", 2)]) (N := scUp_N) (sc := defScope scUp_S) (by decide +kernel)) (fun _ _ _ _ _ => (pg_name (i := 2) scUp.nd rfl (Or.inl rfl))) (fun _ _ _ _ _ => (pts_one (pt_cmpR (inK (K := K)) (pv 1) (pe_dget hu (pv 0) (pv 2) (fun _ _ => rfl)) (by rfl)))) (fun _ _ _ _ _ => (pv 2)))) pa_nil)))), ?_⟩
    have hnd := hG.nm.nd
    have hRm := hG.most
    have hnl : (nmsOf R).length = R.length := List.length_map _
    refine ⟨d, _, hd, trivial, fun od => ?_⟩
    refine ⟨_, rfl, d, od, rfl, .inl ⟨_, upd_same, fun D hD => ?_⟩⟩
    have s0 : Same (upd H d (.frz od (.dK (kmap (fun x => .ref (ta x)) (nmsOf R))))) (upd (upd H d (.frz od (.dK (kmap (fun x => .ref (ta x)) (nmsOf R))))) D (.lst [])) := same_upd hD
    have ndD : d ≠ D := ne_of_none upd_same hD
    have hfz : ∀ H2, Same (upd H d (.frz od (.dK (kmap (fun x => .ref (ta x)) (nmsOf R))))) H2 → H2 d = some (.frz od (.dK (kmap (fun x => .ref (ta x)) (nmsOf R)))) := fun H2 s => s _ _ upd_same
    have htf : ∀ x ∈ nmsOf R, FT (upd H d (.frz od (.dK (kmap (fun x => .ref (ta x)) (nmsOf R))))) (ta x) (course R x) := fun x hx => (ht x hx).upd ((ht x hx).ne hd (fun _ _ z => by cases z))
    refine lc_it walk_keys (fun i H2 => Same (upd H d (.frz od (.dK (kmap (fun x => .ref (ta x)) (nmsOf R))))) H2 ∧ H2 D = some (.lst ((((nmsOf R).take i).filter fun x => decide (y ∈ course R x)).map V.str))) ⟨s0, by rw [upd_same, List.take_zero]; rfl⟩ (fun i H2 hi h => hfz _ h.1) ?_ ?_
    · rintro i x H2 H3 hi ⟨s2, hl⟩ ⟨e, k0, v0, hkv, ev⟩
      subst e
      subst ev
      obtain ⟨x, hx, rfl, rfl⟩ := kmap_get hkv
      have hxm : x ∈ nmsOf R := List.mem_of_getElem? hx
      refine ⟨rfl, ?_⟩
      refine ⟨_, rfl, _, rfl, _, rfl, d, _, rfl, dget_rn (.inr ⟨od, hfz _ s2⟩) hxm, ta x, _, rfl, .inr (.inl ((htf x hxm).same s2).rd), rfl, flat_strs _, _, rfl, ?_⟩
      have hft := filter_take (p := fun x => decide (y ∈ course R x)) hx
      rw [inV_str]
      refine ite2 (fun h => ?_) (fun h => ?_)
      · have h : decide (y ∈ course R x) = true := h
        rw [if_pos h] at hft
        refine ⟨_, rfl, _, hl, ?_, fun b o hb => ?_, ?_⟩
        · rw [List.length_map]
          have := List.length_filter_le (fun x => decide (y ∈ course R x)) ((nmsOf R).take i)
          rw [List.length_take] at this
          exact small1000 (by omega)
        · rw [upd_ne (ne_of_none hb hD)]
          exact s2 b o hb
        · rw [upd_same, hft, List.map_append]
          rfl
      · have h : ¬ decide (y ∈ course R x) = true := h
        rw [if_neg h, List.append_nil] at hft
        refine ⟨s2, ?_⟩
        rw [hft]
        exact hl
    · rintro H2 ⟨s2, hl⟩
      rw [kmap_len, List.take_length] at hl
      refine ⟨hfz _ s2, ?_⟩
      have s3 : Same H (upd H2 d (.dK (kmap (fun x => .ref (ta x)) (nmsOf R)))) := same_unlock hd s2
      have hl3 : (upd H2 d (.dK (kmap (fun x => .ref (ta x)) (nmsOf R)))) D = some (.lst ((upR R y).map V.str)) := by
        rw [upd_ne ndD.symm]
        exact hl
      refine ⟨D, _, rfl, .inl (.inl hl3), fun t ot nt pt => ?_⟩
      exact k _ t (s3.trans (same_upd nt)) (s3.free nt) ⟨ot, pt, upd_same⟩
theorem ok_order {f : Addr} {fd : FuncData} (F : FnP K "_order_by_depth" sOrder f fd) (B : Bl mg) : FnOk P w K mg base CX0 1 f fd ["courses"] spOrder := by
  refine F.ok scOrder (fun vs H Q E h => ?_) (fun cdv A outer s H vs Q E hr h => ?_)
  · obtain ⟨d, R, rfl, _⟩ := h
    rfl
  · obtain ⟨d, R, rfl, hT, hG, k⟩ := h
    have hu := hu_of hr
    obtain ⟨ta, hd, ht⟩ := hT.ex
    refine ⟨_, PSs.nox (pss_cons
      (ps_set (i := 1) scOrder.nd rfl (Or.inl rfl) (pe_callB k0_sorted3 (by rfl) B.sorted (by decide +kernel) (pa_cons (pe_lock (pe_lc (own := [("place", 2), ("weir", 3)]) (tt := tYes) (by rfl) scOrder.nd (pi_enumD (by rfl) B.enumerate (pa_cons (pv 0) pa_nil)) (blkOk_by (own := [("place", 2), ("weir", 3)]) (N := scOrder_N) (sc := defScope scOrder_S) (by decide +kernel)) (fun _ _ _ _ _ => (tgK (K := K) (n := 2) (by rfl) (pgs_cons (pg_name (i := 2) scOrder.nd rfl (Or.inl rfl)) (pgs_cons (pg_name (i := 3) scOrder.nd rfl (Or.inl rfl)) pgs_nil)))) (fun _ _ _ _ _ => pts_nil) (fun _ _ _ _ _ => (pe_tup (pa_cons (pe_un un_neg (pe_callB (lenK (K := K)) (by rfl) B.len PySem.boot_len (pa_cons (pe_dget hu (pv 0) (pv 3) (fun _ _ => rfl)) pa_nil))) (pa_cons (pv 2) (pa_cons (pv 3) pa_nil))))))) pa_nil)))
      (pss_one
      (ps_ret (pe_callTy (tupleK (K := K)) (by rfl) B.tuple (by decide +kernel) (pa_cons (pe_lc (own := [("row", 4)]) (g := gName 4) (tt := tYes) (by rfl) scOrder.nd (pi_list (pv 1)) (blkOk_by (own := [("row", 4)]) (N := scOrder_N) (sc := defScope scOrder_S) (by decide +kernel)) (fun _ _ _ _ _ => (pg_name (i := 4) scOrder.nd rfl (Or.inl rfl))) (fun _ _ _ _ _ => pts_nil) (fun _ _ _ _ _ => (pe_ix (ixTK (K := K)) (pv 4) pe_int (fun _ _ => rfl)))) pa_nil))))), ?_⟩
    have hnd := hG.nm.nd
    have hRm := hG.most
    have hnl : (nmsOf R).length = R.length := List.length_map _
    refine ⟨d, _, hd, trivial, fun od => ?_⟩
    refine ⟨_, rfl, d, od, _, rfl, upd_same, fun D hD => ?_⟩
    have s0 : Same (upd H d (.frz od (.dK (kmap (fun x => .ref (ta x)) (nmsOf R))))) (upd (upd H d (.frz od (.dK (kmap (fun x => .ref (ta x)) (nmsOf R))))) D (.lst [])) := same_upd hD
    have ndD : d ≠ D := ne_of_none upd_same hD
    have hfz : ∀ H2, Same (upd H d (.frz od (.dK (kmap (fun x => .ref (ta x)) (nmsOf R))))) H2 → H2 d = some (.frz od (.dK (kmap (fun x => .ref (ta x)) (nmsOf R)))) := fun H2 s => s _ _ upd_same
    have htf : ∀ x ∈ nmsOf R, FT (upd H d (.frz od (.dK (kmap (fun x => .ref (ta x)) (nmsOf R))))) (ta x) (course R x) := fun x hx => (ht x hx).upd ((ht x hx).ne hd (fun _ _ z => by cases z))
    refine lc_it walk_enumD (fun i H2 => Same (upd H d (.frz od (.dK (kmap (fun x => .ref (ta x)) (nmsOf R))))) H2 ∧ ∃ ts : List Addr, H2 D = some (.lst (ts.map V.ref)) ∧ ts.length = i ∧ ∀ k t, ts[k]? = some t → H2 t = some (.tup [.int (-((course R ((nmsOf R).getD k "")).length : Int)), .int (k : Int), .str ((nmsOf R).getD k "")])) ⟨s0, [], upd_same, rfl, fun k t hk => by cases hk⟩ (fun i H2 hi h => hfz _ h.1) ?_ ?_
    · rintro i x H2 H3 hi ⟨s2, ts, hl, hxl, hxs⟩ ⟨T, x1, x2, rfl, hT, rfl, e1, e2⟩
      rw [kmap_len] at hi
      have e1 : x1 = .int (i : Int) := (Option.some.inj e1).symm
      subst e1
      obtain ⟨x, hx, rfl⟩ : ∃ x, (nmsOf R)[i]? = some x ∧ x2 = .str x := by
        refine ⟨(nmsOf R)[i], List.getElem?_eq_getElem hi, ?_⟩
        have e2 : ((kmap (fun x => V.ref (ta x)) (nmsOf R))[i]?.map fun kv => kV kv.1) = some x2 := e2
        unfold kmap at e2
        rw [List.getElem?_map, List.getElem?_eq_getElem hi] at e2
        exact (Option.some.inj e2).symm
      have hxm : x ∈ nmsOf R := List.mem_of_getElem? hx
      have s3 : Same (upd H d (.frz od (.dK (kmap (fun x => .ref (ta x)) (nmsOf R))))) (upd H2 T (.tup [.int (i : Int), .str x])) := s2.trans (same_upd hT)
      refine ⟨T, _, rfl, .inl (.inl upd_same), rfl, _, _, rfl, _, _, rfl, rfl, rfl, ?_⟩
      unfold tYes
      refine iteT ?_
      refine ⟨_, rfl, _, rfl, d, _, rfl, dget_rn (.inr ⟨od, hfz _ s3⟩) hxm, ta x, _, rfl, .inr (.inl ((htf x hxm).same s3).rd), _, rfl, _, rfl, _, rfl, by show 3 ≤ sizeLine; decide, fun p np => ?_⟩
      have hlD : (upd H2 T (.tup [.int (i : Int), .str x])) D = some (.lst (ts.map V.ref)) := by
        rw [upd_ne (ne_of_none hl hT)]
        exact hl
      have npD : D ≠ p := ne_of_none hlD np
      have eg : (nmsOf R).getD i "" = x := by
        rw [List.getD_eq_getElem?_getD, hx]
        rfl
      refine ⟨ts.map V.ref, by rw [upd_ne npD]; exact hlD, small1000 (by rw [List.length_map]; omega), fun b o hb => ?_, ts ++ [p], by rw [upd_same, List.map_append]; rfl, by rw [List.length_append, hxl]; rfl, fun k t hk => ?_⟩
      · have h3 := s3 b o hb
        rw [upd_ne (ne_of_none hb hD), upd_ne (ne_of_none h3 np)]
        exact h3
      · rcases Nat.lt_or_ge k ts.length with hkl | hkl
        · rw [List.getElem?_append_left hkl] at hk
          have h1 := hxs k t hk
          have h1' : (upd H2 T (.tup [.int (i : Int), .str x])) t = some (.tup [.int (-((course R ((nmsOf R).getD k "")).length : Int)), .int (k : Int), .str ((nmsOf R).getD k "")]) := by
            rw [upd_ne (ne_of_none h1 hT)]
            exact h1
          rw [upd_ne (ne_of h1 hl (fun z => by cases z)), upd_ne (ne_of_none h1' np)]
          exact h1'
        · rw [List.getElem?_append_right hkl] at hk
          have hk0 : k - ts.length = 0 := by
            have := (List.getElem?_eq_some_iff.mp hk).1
            rw [List.length_singleton] at this
            omega
          rw [hk0] at hk
          have e : p = t := Option.some.inj hk
          have ek : k = i := by omega
          rw [← e, ek, upd_ne npD.symm, upd_same, eg, List.length_map]
    · rintro H2 ⟨s2, ts, hl, hxl, hxs⟩
      rw [kmap_len] at hxl
      refine ⟨hfz _ s2, ?_⟩
      have s3 : Same H (upd H2 d (.dK (kmap (fun x => .ref (ta x)) (nmsOf R)))) := same_unlock hd s2
      have hl3 : (upd H2 d (.dK (kmap (fun x => .ref (ta x)) (nmsOf R)))) D = some (.lst (ts.map V.ref)) := by
        rw [upd_ne ndD.symm]
        exact hl
      have hxs3 : ∀ k t, ts[k]? = some t → (upd H2 d (.dK (kmap (fun x => .ref (ta x)) (nmsOf R)))) t = some (.tup [.int (-((course R ((nmsOf R).getD k "")).length : Int)), .int (k : Int), .str ((nmsOf R).getD k "")]) := fun k t hk => by
        have h1 := hxs k t hk
        rw [upd_ne (ne_of h1 (hfz _ s2) (fun z => by cases z))]
        exact h1
      generalize upd H2 d (.dK (kmap (fun x => .ref (ta x)) (nmsOf R))) = H3 at s3 hl3 hxs3
      have hn : ts.length = R.length := by rw [hxl, hnl]
      refine ⟨D, ts.map V.ref, fun j => -((course R ((nmsOf R).getD j.toNat "")).length : Int), fun j => (nmsOf R).getD j.toNat "", rfl, .inl (.inl hl3), by rw [List.length_map]; omega, fun x hx => ?_, fun ys p hp hord np => ?_⟩
      · obtain ⟨t, ht, rfl⟩ := List.mem_map.mp hx
        obtain ⟨k, hk⟩ := List.getElem?_of_mem ht
        have hkl := (List.getElem?_eq_some_iff.mp hk).1
        exact ⟨t, (k : Int), rfl, hxs3 k t hk, by omega, by omega⟩
      obtain ⟨ts', eys, hp'⟩ := perm_lift hp ts rfl
      subst eys
      have hpl : ∀ k t, ts[k]? = some t → plAt H3 t = k := fun k t hk => by
        unfold plAt
        rw [hxs3 k t hk]
        rfl
      have hmap : ts.map (plAt H3) = List.range R.length := List.ext_getElem (by rw [List.length_map, List.length_range, hn]) fun k h1 h2 => by
        rw [List.getElem_map, List.getElem_range]
        rw [List.length_map] at h1
        exact hpl k _ (List.getElem?_eq_getElem h1)
      have hjp : (ts'.map (plAt H3)).Perm (List.range R.length) := by
        rw [← hmap]
        exact hp'.map _
      have hH : ∀ t ∈ ts', H3 t = some (.tup [.int (-((course R ((nmsOf R).getD (plAt H3 t) "")).length : Int)), .int (plAt H3 t : Int), .str ((nmsOf R).getD (plAt H3 t) "")]) := fun t ht => by
        obtain ⟨k, hk⟩ := List.getElem?_of_mem (hp'.mem_iff.mp ht)
        rw [hpl k t hk]
        exact hxs3 k t hk
      have hjs : (ts'.map (plAt H3)).Pairwise fun a b => -((course R ((nmsOf R).getD a "")).length : Int) * 100 + (a : Int) ≤ -((course R ((nmsOf R).getD b "")).length : Int) * 100 + (b : Int) := by
        rw [List.pairwise_map] at hord ⊢
        refine List.Pairwise.imp_of_mem (fun {t t'} ht ht' h => ?_) hord
        exact h t t' (plAt H3 t : Int) (plAt H3 t' : Int) rfl rfl (hH t ht) (hH t' ht')
      have hnm : nmsOf R = (List.range R.length).map fun k => (nmsOf R).getD k "" := by
        have := list_getD (nmsOf R)
        rw [hnl] at this
        exact this
      have hd : ∀ j, j < R.length → 1 ≤ (course R ((nmsOf R).getD j "")).length ∧ (course R ((nmsOf R).getD j "")).length ≤ R.length := fun j hj => by
        have hm : (nmsOf R).getD j "" ∈ nmsOf R := by
          rw [List.getD_eq_getElem?_getD, List.getElem?_eq_getElem (by rw [hnl]; exact hj)]
          exact List.getElem_mem _
        obtain ⟨m, c⟩ := course_is hG hm
        rw [c.eq, List.length_map, List.length_range]
        exact ⟨c.one, c.most⟩
      have hjeq := deep_eq (n := R.length) (d := fun j => (course R ((nmsOf R).getD j "")).length) (by omega) hd hjp hjs
      have hz : ts'.map (fun t => V.str ((nmsOf R).getD (plAt H3 t) "")) = (deepR R).map V.str := by
        rw [← deep_names (nm := fun k => (nmsOf R).getD k "") hnm, ← hjeq, List.map_map, List.map_map]
        rfl
      have s4 : Same H3 (upd H3 p (.lst (ts'.map V.ref))) := same_upd np
      refine ⟨_, rfl, p, rfl, ⟨ts'.map V.ref, .inl (.inl upd_same)⟩, fun L hL => ?_⟩
      have s5 : Same (upd H3 p (.lst (ts'.map V.ref))) (upd (upd H3 p (.lst (ts'.map V.ref))) L (.lst [])) := same_upd hL
      have hlen' : ts'.length = R.length := by rw [hp'.length_eq, hn]
      refine lc_list (K := K) (a := p) (xs := ts'.map V.ref) (fun i H4 => Same (upd H3 p (.lst (ts'.map V.ref))) H4 ∧ H4 L = some (.lst ((ts'.take i).map fun t => V.str ((nmsOf R).getD (plAt H3 t) "")))) ⟨s5, by rw [upd_same, List.take_zero]; rfl⟩ (fun i H4 hi h => .inl (.inl (h.1 _ _ upd_same))) ?_ ?_
      · rintro i x H4 hx ⟨s6, hz4⟩
        rw [List.getElem?_map] at hx
        obtain ⟨t, ht, rfl⟩ := Option.map_eq_some_iff.mp hx
        have h1 := hH t (List.mem_of_getElem? ht)
        have hi : i < ts'.length := (List.getElem?_eq_some_iff.mp ht).1
        refine ⟨rfl, ?_⟩
        unfold tYes
        refine iteT ?_
        refine ⟨_, rfl, t, _, _, _, rfl, rfl, .inl (.inl (s6 _ _ (s4 _ _ h1))), atI_nat (j := 2) rfl, _, hz4, small1000 (by rw [List.length_map, List.length_take]; omega), fun b o hb => ?_, ?_⟩
        · rw [upd_ne (ne_of_none hb hL)]
          exact s6 b o hb
        · rw [upd_same, List.take_add_one, ht, List.map_append]
          rfl
      · rintro H4 ⟨s6, hz4⟩
        rw [List.length_map, List.take_length, hz] at hz4
        refine ⟨L, _, rfl, .inl ⟨.inl (.inl hz4), fun t nt => ?_⟩⟩
        have s7 : Same H (upd H4 t (.tup ((deepR R).map V.str))) := ((s3.trans s4).trans s6).trans (same_upd nt)
        exact k _ t s7 (((s3.trans s4).trans s6).free nt) upd_same
end
end K0
end
section
set_option Elab.async false
set_option linter.all false
set_option maxRecDepth 100000
namespace K0
open PySem PySem.Spec PyProof.Rows L2
abbrev sInit : Stmt := inClass sRiver 0
abbrev sEq : Stmt := inClass sRiver 1
abbrev sLen : Stmt := inClass sRiver 2
abbrev sIter : Stmt := inClass sRiver 3
abbrev sContains : Stmt := inClass sRiver 4
abbrev sRows : Stmt := inClass sRiver 5
abbrev sBelow : Stmt := inClass sRiver 6
abbrev sAboveM : Stmt := inClass sRiver 7
abbrev sCourseM : Stmt := inClass sRiver 8
abbrev sDepth : Stmt := inClass sRiver 9
abbrev sUpM : Stmt := inClass sRiver 10
/-- the class, as the top has made it -/
structure Rv (K : PySem.W.Frag) (mg : Str → Option Value) (C : Addr) : Prop where
  cl : Cls K C
  weirs : NoAttr K C "weirs"
  _rows : NoAttr K C "_rows"
  _below : NoAttr K C "_below"
  _courses : NoAttr K C "_courses"
  _above : NoAttr K C "_above"
  _upstream : NoAttr K C "_upstream"
  _deepest_first : NoAttr K C "_deepest_first"
  mgC : mg "River" = some (.ref C)
/-- the fields, in the order in which they are stored -/
def f1 (a : V) : List (Str × V) := putF "weirs" a []
def f2 (a b : V) : List (Str × V) := putF "_rows" b (f1 a)
def f3 (a b c : V) : List (Str × V) := putF "_below" c (f2 a b)
def f4 (a b c d : V) : List (Str × V) := putF "_courses" d (f3 a b c)
def f5 (a b c d e : V) : List (Str × V) := putF "_above" e (f4 a b c d)
def f6 (a b c d e g : V) : List (Str × V) := putF "_upstream" g (f5 a b c d e)
def f7 (a b c d e g h : V) : List (Str × V) := putF "_deepest_first" h (f6 a b c d e g)
theorem putF_len (n : Str) (v : V) : ∀ fs : List (Str × V), (putF n v fs).length ≤ fs.length + 1
  | [] => Nat.le_refl _
  | q :: r => by
    have ih := putF_len n v r
    show (if q.1 = n then (q.1, v) :: r else q :: putF n v r).length ≤ _
    split
    · simp
    · simp only [List.length_cons]; omega
section
variable (a b c d e g h : V)
theorem l1 : (f1 a).length ≤ 1 := putF_len _ _ _
theorem l2 : (f2 a b).length ≤ 2 := Nat.le_trans (putF_len _ _ _) (Nat.succ_le_succ (l1 a))
theorem l3 : (f3 a b c).length ≤ 3 := Nat.le_trans (putF_len _ _ _) (Nat.succ_le_succ (l2 a b))
theorem l4 : (f4 a b c d).length ≤ 4 := Nat.le_trans (putF_len _ _ _) (Nat.succ_le_succ (l3 a b c))
theorem l5 : (f5 a b c d e).length ≤ 5 := Nat.le_trans (putF_len _ _ _) (Nat.succ_le_succ (l4 a b c d))
theorem l6 : (f6 a b c d e g).length ≤ 6 := Nat.le_trans (putF_len _ _ _) (Nat.succ_le_succ (l5 a b c d e))
theorem g3b : (f3 a b c).lookup ("_below" : Str) = some c := by rw [f3, lookup_putF, if_pos rfl]
theorem g4b : (f4 a b c d).lookup ("_below" : Str) = some c := by rw [f4, lookup_putF, if_neg (by decide +kernel), g3b]
theorem g4w : (f4 a b c d).lookup ("weirs" : Str) = some a := by
  rw [f4, lookup_putF, if_neg (by decide +kernel), f3, lookup_putF, if_neg (by decide +kernel), f2, lookup_putF, if_neg (by decide +kernel), f1, lookup_putF, if_pos rfl]
theorem g4c : (f4 a b c d).lookup ("_courses" : Str) = some d := by rw [f4, lookup_putF, if_pos rfl]
theorem g5w : (f5 a b c d e).lookup ("weirs" : Str) = some a := by rw [f5, lookup_putF, if_neg (by decide +kernel), g4w]
theorem g5c : (f5 a b c d e).lookup ("_courses" : Str) = some d := by rw [f5, lookup_putF, if_neg (by decide +kernel), g4c]
theorem g6c : (f6 a b c d e g).lookup ("_courses" : Str) = some d := by rw [f6, lookup_putF, if_neg (by decide +kernel), g5c]
theorem g7w : (f7 a b c d e g h).lookup ("weirs" : Str) = some a := by rw [f7, lookup_putF, if_neg (by decide +kernel), f6, lookup_putF, if_neg (by decide +kernel), g5w]
theorem g7r : (f7 a b c d e g h).lookup ("_rows" : Str) = some b := by
  rw [f7, lookup_putF, if_neg (by decide +kernel), f6, lookup_putF, if_neg (by decide +kernel), f5, lookup_putF, if_neg (by decide +kernel), f4, lookup_putF, if_neg (by decide +kernel), f3, lookup_putF, if_neg (by decide +kernel), f2, lookup_putF, if_pos rfl]
theorem g7b : (f7 a b c d e g h).lookup ("_below" : Str) = some c := by
  rw [f7, lookup_putF, if_neg (by decide +kernel), f6, lookup_putF, if_neg (by decide +kernel), f5, lookup_putF, if_neg (by decide +kernel), g4b]
theorem g7c : (f7 a b c d e g h).lookup ("_courses" : Str) = some d := by rw [f7, lookup_putF, if_neg (by decide +kernel), g6c]
theorem g7a : (f7 a b c d e g h).lookup ("_above" : Str) = some e := by
  rw [f7, lookup_putF, if_neg (by decide +kernel), f6, lookup_putF, if_neg (by decide +kernel), f5, lookup_putF, if_pos rfl]
theorem g7u : (f7 a b c d e g h).lookup ("_upstream" : Str) = some g := by
  rw [f7, lookup_putF, if_neg (by decide +kernel), f6, lookup_putF, if_pos rfl]
theorem g7no {m : Str} (h1 : ¬ m = "weirs") (h2 : ¬ m = "_rows") (h3 : ¬ m = "_below") (h4 : ¬ m = "_courses") (h5 : ¬ m = "_above") (h6 : ¬ m = "_upstream") (h7 : ¬ m = "_deepest_first") : (f7 a b c d e g h).lookup m = none := by
  rw [f7, lookup_putF, if_neg h7, f6, lookup_putF, if_neg h6, f5, lookup_putF, if_neg h5, f4, lookup_putF, if_neg h4, f3, lookup_putF, if_neg h3, f2, lookup_putF, if_neg h2, f1, lookup_putF, if_neg h1]
  rfl
end
abbrev namesOf (AR : List (Addr × Row)) : List Str := nmsOf (rowsOf AR)
/-- a tuple of the weirs, the deepest first -/
def DeepAt (H : Hp) (o : V) (R : List Row) : Prop := ∃ t, o = .ref t ∧ H t = some (.tup ((deepR R).map V.str))
theorem DeepAt.to {H H' : Hp} {o : V} {R : List Row} (d : DeepAt H o R) (h : ∀ t, H t = some (.tup ((deepR R).map V.str)) → H' t = some (.tup ((deepR R).map V.str))) : DeepAt H' o R := by
  obtain ⟨t, e, q⟩ := d
  exact ⟨t, e, h t q⟩
/-- a river of these rows stands at p -/
structure RivAt (C : Addr) (H : Hp) (p : Addr) (AR : List (Addr × Row)) : Prop where
  ex : ∃ (dx tw tr db dc da du : Addr) (o : V), H p = some (.ins C dx (f7 (.ref tw) (.ref tr) (.ref db) (.ref dc) (.ref da) (.ref du) o)) ∧
    H tw = some (.tup ((namesOf AR).map V.str)) ∧ H tr = some (.tup (AR.map fun q => V.ref q.1)) ∧ (∀ q ∈ AR, H q.1 = some (.tup [.str q.2.1, .str q.2.2])) ∧ H db = some (.dK (belowK (rowsOf AR))) ∧
    TupsAt H dc (namesOf AR) (course (rowsOf AR)) ∧ TupsAt H da (namesOf AR ++ [("sea" : Str)]) (aboveR (rowsOf AR)) ∧ TupsAt H du (namesOf AR) (upR (rowsOf AR)) ∧ DeepAt H o (rowsOf AR)
theorem Same.riv {C : Addr} {H H' : Hp} {p : Addr} {AR : List (Addr × Row)} (s : Same H H') (r : RivAt C H p AR) : RivAt C H' p AR := by
  obtain ⟨dx, tw, tr, db, dc, da, du, o, h1, h2, h3, h4, h5, h6, h7, h8, h9⟩ := r.ex
  exact ⟨dx, tw, tr, db, dc, da, du, o, s _ _ h1, s _ _ h2, s _ _ h3, fun q hq => s _ _ (h4 q hq), s _ _ h5, h6.same s, h7.same s, h8.same s, h9.to fun _ e => s _ _ e⟩
abbrev scInit_N : List Str := ["self", "rows", "row", "weir", "low"]
abbrev scInit_S : Stmt := sInit
theorem scInit : FnScope scInit_N ["self", "rows"] (defScope sInit) := ⟨rfl, rfl, rfl, by decide +kernel, rfl, by decide +kernel, by decide +kernel⟩
def spInit (C : Addr) : Sp := fun vs H Q _ => ∃ (p l dx : Addr) (AR : List (Addr × Row)), vs = [.ref p, .ref l] ∧ H p = some (.ins C dx []) ∧ RowsAt H l AR ∧ GoodRows (rowsOf AR) ∧
  ∀ H', Upto p H H' → RivAt C H' p AR → Q .non H'
section
variable {P : Program} {w : World} {K : PySem.W.Frag} {mg : Str → Option Value} {base : Heap} {tS tM tL : Tok}
/-- the functions that a river's making calls -/
structure Mf (K : PySem.W.Frag) (mg : Str → Option Value) : Prop where
  isName : ∃ f fd, FnP K "is_name" sIsName f fd ∧ mg "is_name" = some (.ref f)
  isRow : ∃ f fd, FnP K "_is_row" sIsRow f fd ∧ mg "is_row_rivers" = some (.ref f)
  needRows : ∃ f fd, FnP K "_need_rows" sNeedRows f fd ∧ mg "need_rows_rivers" = some (.ref f)
  course : ∃ f fd, FnP K "_course" sCourse f fd ∧ mg "_course" = some (.ref f)
  find : ∃ f fd, FnP K "_find_courses" sFind f fd ∧ mg "_find_courses" = some (.ref f)
  above : ∃ f fd, FnP K "_directly_above" sAbove f fd ∧ mg "_directly_above" = some (.ref f)
  up : ∃ f fd, FnP K "_find_upstream" sUp f fd ∧ mg "_find_upstream" = some (.ref f)
  order : ∃ f fd, FnP K "_order_by_depth" sOrder f fd ∧ mg "_order_by_depth" = some (.ref f)
theorem ok_init {f Cr : Addr} {fd : FuncData} (F : FnM K "__init__" "River.__init__" sInit f fd) (M : Mf K mg) (T : Rv K mg Cr) (B : Bl mg) (C : Gc mg tS tM tL) : FnOk P w K mg base CX0 4 f fd ["self", "rows"] (spInit Cr) := by
  obtain ⟨a1, d1, F1, m1⟩ := M.isName
  obtain ⟨a2, d2, F2, m2⟩ := M.isRow
  obtain ⟨a3, d3, F_need_rows, g_need_rows⟩ := M.needRows
  obtain ⟨a4, d4, F4, m4⟩ := M.course
  obtain ⟨a5, d5, F_find_courses, g_find_courses⟩ := M.find
  obtain ⟨a6, d6, F_directly_above, g_directly_above⟩ := M.above
  obtain ⟨a7, d7, F_find_upstream, g_find_upstream⟩ := M.up
  obtain ⟨a8, d8, F_order_by_depth, g_order_by_depth⟩ := M.order
  have G_need_rows : FnOk P w K mg base CX0 3 a3 d3 ["rows"] (spNeedRows K) := ok_needrows F_need_rows F1 m1 F2 m2 B C
  have b_need_rows : Binds K d3 ["rows"] [] := F_need_rows.bindsN fun _ _ _ _ _ _ us hl => match us, hl with | [_], _ => rfl
  have G_find_courses : FnOk P w K mg base CX0 2 a5 d5 ["below"] (spFind K) := ok_find F_find_courses F4 m4 B C
  have b_find_courses : Binds K d5 ["below"] [] := F_find_courses.bindsN fun _ _ _ _ _ _ us hl => match us, hl with | [_], _ => rfl
  have G_directly_above : FnOk P w K mg base CX0 1 a6 d6 ["below", "low"] spAbove := ok_above F_directly_above B
  have b_directly_above : Binds K d6 ["below", "low"] [] := F_directly_above.bindsN fun _ _ _ _ _ _ us hl => match us, hl with | [_, _], _ => rfl
  have G_find_upstream : FnOk P w K mg base CX0 1 a7 d7 ["courses", "low"] spUp := ok_up F_find_upstream B
  have b_find_upstream : Binds K d7 ["courses", "low"] [] := F_find_upstream.bindsN fun _ _ _ _ _ _ us hl => match us, hl with | [_, _], _ => rfl
  have G_order_by_depth : FnOk P w K mg base CX0 1 a8 d8 ["courses"] spOrder := ok_order F_order_by_depth B
  have b_order_by_depth : Binds K d8 ["courses"] [] := F_order_by_depth.bindsN fun _ _ _ _ _ _ us hl => match us, hl with | [_], _ => rfl
  refine F.ok scInit (fun vs H Q E h => ?_) (fun cdv A outer s H vs Q E hr h => ?_)
  · obtain ⟨p, l, dx, AR, rfl, _⟩ := h
    rfl
  · obtain ⟨p, l, dx, AR, rfl, hp, hR, hG, k⟩ := h
    have hu := hu_of hr
    have hr_need_rows : Room 3 _ := hr.mono (by decide)
    have hr_find_courses : Room 2 _ := hr.mono (by decide)
    have hr_directly_above : Room 1 _ := hr.mono (by decide)
    have hr_find_upstream : Room 1 _ := hr.mono (by decide)
    have hr_order_by_depth : Room 1 _ := hr.mono (by decide)
    refine ⟨_, PSs.nox (pss_cons
      (ps_expr (pe_call G_need_rows hr_need_rows (by rfl) g_need_rows F_need_rows.kp b_need_rows .nil pass0 (pa_cons (pv 1) pa_nil)))
      (pss_cons
      (ps_fld (pv 0) (pe_callTy (tupleK (K := K)) (by rfl) B.tuple (by decide +kernel) (pa_cons (pe_lc (own := [("row", 2)]) (g := gName 2) (tt := tYes) (by rfl) scInit.nd (pi_list (pv 1)) (blkOk_by (own := [("row", 2)]) (N := scInit_N) (sc := defScope scInit_S) (by decide +kernel)) (fun _ _ _ _ _ => (pg_name (i := 2) scInit.nd rfl (Or.inl rfl))) (fun _ _ _ _ _ => pts_nil) (fun _ _ _ _ _ => (pe_ix (ixTK (K := K)) (pv 2) pe_int (fun _ _ => rfl)))) pa_nil)) rfl)
      (pss_cons
      (ps_fld (pv 0) (pe_callTy (tupleK (K := K)) (by rfl) B.tuple (by decide +kernel) (pa_cons (pv 1) pa_nil)) rfl)
      (pss_cons
      (ps_fld (pv 0) (pe_dc (own := [("weir", 3), ("low", 4)]) (tt := tYes) (by rfl) scInit.nd (pi_list (pv 1)) (blkOk_by (own := [("weir", 3), ("low", 4)]) (N := scInit_N) (sc := defScope scInit_S) (by decide +kernel)) (fun _ _ _ _ _ => (tgK (K := K) (n := 2) (by rfl) (pgs_cons (pg_name (i := 3) scInit.nd rfl (Or.inl rfl)) (pgs_cons (pg_name (i := 4) scInit.nd rfl (Or.inl rfl)) pgs_nil)))) (fun _ _ _ _ _ => pts_nil) (fun _ _ _ _ _ => (pv 3)) (fun _ _ _ _ _ => (pv 4))) rfl)
      (pss_cons
      (ps_fld (pv 0) (pe_call G_find_courses hr_find_courses (by rfl) g_find_courses F_find_courses.kp b_find_courses .nil pass0 (pa_cons (fldK (K := K) (pv 0) rfl) pa_nil)) rfl)
      (pss_cons
      (ps_fld (pv 0) (pe_dc (own := [("low", 4)]) (g := gName 4) (tt := tYes) (by rfl) scInit.nd (pi_tup (pe_op op_catT (fldK (K := K) (pv 0) rfl) (pe_tup (pa_cons (pe_glob (v := .str "sea") (by rfl) C.SEA ⟨_, rfl⟩) pa_nil)))) (blkOk_by (own := [("low", 4)]) (N := scInit_N) (sc := defScope scInit_S) (by decide +kernel)) (fun _ _ _ _ _ => (pg_name (i := 4) scInit.nd rfl (Or.inl rfl))) (fun _ _ _ _ _ => pts_nil) (fun _ _ _ _ _ => (pv 4)) (fun _ _ _ _ _ => (pe_call G_directly_above hr_directly_above (by rfl) g_directly_above F_directly_above.kp b_directly_above .nil pass0 (pa_cons (fldK (K := K) (pv 0) rfl) (pa_cons (pv 4) pa_nil))))) rfl)
      (pss_cons
      (ps_fld (pv 0) (pe_dc (own := [("weir", 3)]) (g := gName 3) (tt := tYes) (by rfl) scInit.nd (pi_tup (fldK (K := K) (pv 0) rfl)) (blkOk_by (own := [("weir", 3)]) (N := scInit_N) (sc := defScope scInit_S) (by decide +kernel)) (fun _ _ _ _ _ => (pg_name (i := 3) scInit.nd rfl (Or.inl rfl))) (fun _ _ _ _ _ => pts_nil) (fun _ _ _ _ _ => (pv 3)) (fun _ _ _ _ _ => (pe_call G_find_upstream hr_find_upstream (by rfl) g_find_upstream F_find_upstream.kp b_find_upstream .nil pass0 (pa_cons (fldK (K := K) (pv 0) rfl) (pa_cons (pv 3) pa_nil))))) rfl)
      (pss_one
      (ps_fld (pv 0) (pe_call G_order_by_depth hr_order_by_depth (by rfl) g_order_by_depth F_order_by_depth.kp b_order_by_depth .nil pass0 (pa_cons (fldK (K := K) (pv 0) rfl) pa_nil)) rfl))))))))), ?_⟩
    have hins : ∀ {o : HO} {a : Addr} {H' : Hp} {fs : List (Str × V)}, H' p = some (.ins Cr dx fs) → H' a = some o → (∀ z1 z2 z3, o ≠ .ins z1 z2 z3) → a ≠ p := fun h1 h2 n => ne_of h2 h1 (n _ _ _)
    have tupsU : ∀ {H1 H2 : Hp} {fs : List (Str × V)} {c : Addr} {ns : List Str} {g : Str → List Str}, H1 p = some (.ins Cr dx fs) → Upto p H1 H2 → TupsAt H1 c ns g → TupsAt H2 c ns g := fun h1 u t => by
      obtain ⟨ta, q1, q2⟩ := t.ex
      exact ⟨ta, u _ _ q1 (hins h1 q1 (fun _ _ _ z => by cases z)), fun x hx => (q2 x hx).to fun v e _ _ _ n4 _ => u _ _ e (ne_of e h1 (n4 _ _ _))⟩
    have hRm := hG.most
    have hAl : (rowsOf AR).length = AR.length := List.length_map _
    have hnl : (namesOf AR).length = AR.length := nmlen AR
    have hnd := hG.nm.nd
    have rowat : ∀ {i : Nat} (hi : i < AR.length), (namesOf AR)[i]? = some AR[i].2.1 ∧ lowR (rowsOf AR) AR[i].2.1 = AR[i].2.2 := fun {i} hi => by
      refine ⟨?_, low_at hnd (List.mem_map.mpr ⟨_, List.getElem_mem hi, rfl⟩)⟩
      show (((AR.map (·.2)).map (·.1)))[i]? = _
      rw [List.getElem?_map, List.getElem?_map, List.getElem?_eq_getElem hi]
      rfl
    -- _need_rows(rows)
    refine ⟨_, rfl, l, AR, rfl, hR, hG, fun H1 s1 => ?_⟩
    have p1 := s1 _ _ hp
    have R1 := hR.same s1
    -- self.weirs
    refine ⟨_, rfl, l, rfl, ⟨_, .inl (.inl R1.lst)⟩, fun D hD => ?_⟩
    have sD : Same H1 (upd H1 D (.lst [])) := same_upd hD
    refine lc_list (K := K) (a := l) (xs := AR.map fun q => V.ref q.1) (fun i H2 => Same H1 H2 ∧ H2 D = some (.lst (((namesOf AR).take i).map V.str))) ⟨sD, by rw [upd_same, List.take_zero]; rfl⟩ (fun i H2 hi h => .inl (.inl (h.1 _ _ R1.lst))) ?_ ?_
    · rintro i x H2 hx ⟨s2, hl⟩
      have hi : i < AR.length := by
        have := (List.getElem?_eq_some_iff.mp hx).1
        rw [List.length_map] at this
        exact this
      have ex := row_at hx hi
      subst ex
      refine ⟨rfl, ?_⟩
      unfold tYes
      refine iteT ?_
      refine ⟨_, rfl, AR[i].1, _, _, _, rfl, rfl, .inl (.inl (s2 _ _ (R1.tup _ (List.getElem_mem hi)))), atI_nat (j := 0) rfl, _, hl, ?_, fun b o hb => ?_, ?_⟩
      · rw [List.length_map, List.length_take]
        exact small1000 (by omega)
      · rw [upd_ne (ne_of_none hb hD)]
        exact s2 b o hb
      · rw [upd_same, List.take_add_one, (rowat hi).1, List.map_append]
        rfl
    rintro H2 ⟨s2, hl⟩
    rw [List.take_of_length_le (by rw [hnl, List.length_map]; exact Nat.le_refl _)] at hl
    refine ⟨D, _, rfl, .inl ⟨.inl (.inl hl), fun tw nw => ?_⟩⟩
    have s3 : Same H (upd H2 tw (.tup ((namesOf AR).map V.str))) := (s1.trans s2).trans (same_upd nw)
    have w3 : (upd H2 tw (.tup ((namesOf AR).map V.str))) tw = some (.tup ((namesOf AR).map V.str)) := upd_same
    generalize upd H2 tw (.tup ((namesOf AR).map V.str)) = H3 at s3 w3
    have p3 := s3 _ _ hp
    refine ⟨_, rfl, p, Cr, dx, _, rfl, p3, T.cl, T.weirs, by show 0 < 1000; decide, ?_⟩
    have u4 : Upto p H (upd H3 p (.ins Cr dx (f1 (.ref tw)))) := (Upto.of s3).trans Upto.at_
    have w4 : (upd H3 p (.ins Cr dx (f1 (.ref tw)))) tw = some (.tup ((namesOf AR).map V.str)) := by
      rw [upd_ne (hins p3 w3 (fun _ _ _ z => by cases z))]
      exact w3
    have p4 : (upd H3 p (.ins Cr dx (f1 (.ref tw)))) p = some (.ins Cr dx (f1 (.ref tw))) := upd_same
    show tSeq _ _ _ _ (upd H3 p (.ins Cr dx (f1 (.ref tw))))
    generalize upd H3 p (.ins Cr dx (f1 (.ref tw))) = H4 at u4 w4 p4
    have R4 : RowsAt H4 l AR := ⟨u4 _ _ hR.lst (hins hp hR.lst (fun _ _ _ z => by cases z)), fun q hq => u4 _ _ (hR.tup q hq) (hins hp (hR.tup q hq) (fun _ _ _ z => by cases z))⟩
    -- self._rows
    refine ⟨_, rfl, l, _, rfl, .inl ⟨.inl (.inl R4.lst), fun tr nr => ?_⟩⟩
    have keepP : ∀ {Hk : Hp} {fs : List (Str × V)} {o X : HO} {a : Addr}, Hk p = some (.ins Cr dx fs) → Hk a = some o → (∀ z1 z2 z3, o ≠ .ins z1 z2 z3) → (upd Hk p X) a = some o := fun h1 h2 n => by
      rw [upd_ne (hins h1 h2 n)]
      exact h2
    have rowsU : ∀ {H1 H2 : Hp}, Upto p H H2 → RowsAt H2 l AR := fun u => ⟨u _ _ hR.lst (hins hp hR.lst (fun _ _ _ z => by cases z)), fun q hq => u _ _ (hR.tup q hq) (hins hp (hR.tup q hq) (fun _ _ _ z => by cases z))⟩
    have s5 : Same H4 (upd H4 tr (.tup (AR.map fun q => V.ref q.1))) := same_upd nr
    have r5 : (upd H4 tr (.tup (AR.map fun q => V.ref q.1))) tr = some (.tup (AR.map fun q => V.ref q.1)) := upd_same
    generalize upd H4 tr (.tup (AR.map fun q => V.ref q.1)) = H5 at s5 r5
    have p5 := s5 _ _ p4
    have w5 := s5 _ _ w4
    refine ⟨_, rfl, p, Cr, dx, _, rfl, p5, T.cl, T._rows, by have := l1 (.ref tw); omega, ?_⟩
    have u6 : Upto p H (upd H5 p (.ins Cr dx (f2 (.ref tw) (.ref tr)))) := (u4.trans (Upto.of s5)).trans Upto.at_
    have w6 : (upd H5 p (.ins Cr dx (f2 (.ref tw) (.ref tr)))) tw = _ := keepP p5 w5 (fun _ _ _ z => by cases z)
    have r6 : (upd H5 p (.ins Cr dx (f2 (.ref tw) (.ref tr)))) tr = _ := keepP p5 r5 (fun _ _ _ z => by cases z)
    have p6 : (upd H5 p (.ins Cr dx (f2 (.ref tw) (.ref tr)))) p = some (.ins Cr dx (f2 (.ref tw) (.ref tr))) := upd_same
    show tSeq _ _ _ _ (upd H5 p (.ins Cr dx (f2 (.ref tw) (.ref tr))))
    generalize upd H5 p (.ins Cr dx (f2 (.ref tw) (.ref tr))) = H6 at u6 w6 r6 p6
    have R6 : RowsAt H6 l AR := rowsU (H1 := H6) u6
    -- self._below
    refine ⟨_, rfl, l, rfl, ⟨_, .inl (.inl R6.lst)⟩, fun db ndb => ?_⟩
    refine dc_it (walk_list (K := K) (a := l) (xs := AR.map fun q => V.ref q.1)) (fun i H7 => Same H6 H7 ∧ H7 db = some (.dK (kmap (fun y => .str (lowR (rowsOf AR) y)) ((namesOf AR).take i)))) ⟨same_upd ndb, by rw [upd_same, List.take_zero]; rfl⟩ (fun i H7 hi h => .inl (.inl (h.1 _ _ R6.lst))) ?_ ?_
    · rintro i x H7 H7' hi ⟨s7, hb7⟩ ⟨e, hx⟩
      subst e
      rw [List.length_map] at hi
      have ex := row_at hx hi
      subst ex
      obtain ⟨hn, hlow⟩ := rowat hi
      refine ⟨AR[i].1, _, rfl, .inl (.inl (s7 _ _ (R6.tup _ (List.getElem_mem hi)))), rfl, _, _, rfl, _, _, rfl, rfl, rfl, ?_⟩
      unfold tYes
      refine iteT ?_
      refine ⟨_, rfl, _, rfl, _, Sum.inr AR[i].2.1, rfl, hb7, ?_, fun b o hb => ?_, ?_⟩
      · rw [kmap_len, List.length_take]
        exact small1000 (by omega)
      · rw [upd_ne (ne_of_none hb ndb)]
        exact s7 b o hb
      · have hput := kmap_put (f := fun y => V.str (lowR (rowsOf AR) y)) (nodup_take hnd hn)
        rw [hlow] at hput
        rw [upd_same, hput, List.take_add_one, hn]
        rfl
    rintro H7 ⟨s7, hb7⟩
    rw [List.take_of_length_le (by rw [hnl, List.length_map]; exact Nat.le_refl _)] at hb7
    have p7 := s7 _ _ p6
    have w7 := s7 _ _ w6
    have r7 := s7 _ _ r6
    refine ⟨_, rfl, p, Cr, dx, _, rfl, p7, T.cl, T._below, by have := l2 (.ref tw) (.ref tr); omega, ?_⟩
    have u8 : Upto p H (upd H7 p (.ins Cr dx (f3 (.ref tw) (.ref tr) (.ref db)))) := (u6.trans (Upto.of s7)).trans Upto.at_
    have w8 : (upd H7 p (.ins Cr dx (f3 (.ref tw) (.ref tr) (.ref db)))) tw = _ := keepP p7 w7 (fun _ _ _ z => by cases z)
    have r8 : (upd H7 p (.ins Cr dx (f3 (.ref tw) (.ref tr) (.ref db)))) tr = _ := keepP p7 r7 (fun _ _ _ z => by cases z)
    have b8 : (upd H7 p (.ins Cr dx (f3 (.ref tw) (.ref tr) (.ref db)))) db = _ := keepP p7 hb7 (fun _ _ _ z => by cases z)
    have p8 : (upd H7 p (.ins Cr dx (f3 (.ref tw) (.ref tr) (.ref db)))) p = some (.ins Cr dx (f3 (.ref tw) (.ref tr) (.ref db))) := upd_same
    show tSeq _ _ _ _ (upd H7 p (.ins Cr dx (f3 (.ref tw) (.ref tr) (.ref db))))
    generalize upd H7 p (.ins Cr dx (f3 (.ref tw) (.ref tr) (.ref db))) = H8 at u8 w8 r8 b8 p8
    -- self._courses
    refine ⟨_, rfl, p, Cr, dx, _, _, rfl, p8, T.cl, T._below, g3b _ _ _, db, rowsOf AR, rfl, b8, hG, fun H9 dc s9 ndc c9 => ?_⟩
    have p9 := s9 _ _ p8
    refine ⟨_, rfl, p, Cr, dx, _, rfl, p9, T.cl, T._courses, by have := l3 (.ref tw) (.ref tr) (.ref db); omega, ?_⟩
    have ua : Upto p H (upd H9 p (.ins Cr dx (f4 (.ref tw) (.ref tr) (.ref db) (.ref dc)))) := (u8.trans (Upto.of s9)).trans Upto.at_
    have wa : (upd H9 p (.ins Cr dx (f4 (.ref tw) (.ref tr) (.ref db) (.ref dc)))) tw = _ := keepP p9 (s9 _ _ w8) (fun _ _ _ z => by cases z)
    have ra : (upd H9 p (.ins Cr dx (f4 (.ref tw) (.ref tr) (.ref db) (.ref dc)))) tr = _ := keepP p9 (s9 _ _ r8) (fun _ _ _ z => by cases z)
    have ba : (upd H9 p (.ins Cr dx (f4 (.ref tw) (.ref tr) (.ref db) (.ref dc)))) db = _ := keepP p9 (s9 _ _ b8) (fun _ _ _ z => by cases z)
    have ca : TupsAt (upd H9 p (.ins Cr dx (f4 (.ref tw) (.ref tr) (.ref db) (.ref dc)))) dc (namesOf AR) (course (rowsOf AR)) := tupsU p9 Upto.at_ c9
    have pa : (upd H9 p (.ins Cr dx (f4 (.ref tw) (.ref tr) (.ref db) (.ref dc)))) p = some (.ins Cr dx (f4 (.ref tw) (.ref tr) (.ref db) (.ref dc))) := upd_same
    show tSeq _ _ _ _ (upd H9 p (.ins Cr dx (f4 (.ref tw) (.ref tr) (.ref db) (.ref dc))))
    generalize upd H9 p (.ins Cr dx (f4 (.ref tw) (.ref tr) (.ref db) (.ref dc))) = Ha at ua wa ra ba ca pa
    -- self._above
    refine ⟨_, rfl, p, Cr, dx, _, _, rfl, pa, T.cl, T.weirs, g4w _ _ _ _, by show 1 ≤ sizeLine; decide, fun q nq => ?_⟩
    have sq : Same Ha (upd Ha q (.tup [.str "sea"])) := same_upd nq
    have hq1 : (upd Ha q (.tup [.str "sea"])) q = some (.tup [.str "sea"]) := upd_same
    generalize upd Ha q (.tup [.str "sea"]) = Hb at sq hq1
    have hne : (namesOf AR).map V.str ≠ [] := fun z => by
      have z2 := congrArg List.length z
      rw [List.length_map, hnl] at z2
      have := hG.one
      have z3 : AR.length = 0 := z2
      omega
    refine ⟨tw, q, _, _, rfl, rfl, .inl (.inl (sq _ _ wa)), .inl (.inl hq1), hne, ?_, (fun z => nomatch z), fun _ tz nz => ?_⟩
    · rw [List.length_map, hnl]
      exact Nat.le_of_lt (small1000 (by show AR.length + 1 ≤ 1000; omega))
    have sz : Same Ha (upd Hb tz (.tup ((namesOf AR).map V.str ++ [.str "sea"]))) := sq.trans (same_upd nz)
    have hz1 : (upd Hb tz (.tup ((namesOf AR).map V.str ++ [.str "sea"]))) tz = some (.tup ((namesOf AR ++ [("sea" : Str)]).map V.str)) := by
      rw [upd_same, List.map_append]
      rfl
    have ezz : (namesOf AR).map V.str ++ [.str "sea"] = (namesOf AR ++ [("sea" : Str)]).map V.str := by
      rw [List.map_append]
      rfl
    generalize upd Hb tz (.tup ((namesOf AR).map V.str ++ [.str "sea"])) = Hc at sz hz1
    refine ⟨tz, rfl, ⟨_, .inl (.inl hz1)⟩, fun da nda => ?_⟩
    have nsea : (namesOf AR ++ [("sea" : Str)]).Nodup := nd_snoc hnd fun z => hG.nm.sea _ z rfl
    refine dc_it (walk_tup (K := K) (a := tz) (xs := (namesOf AR ++ [("sea" : Str)]).map V.str)) (fun i Hd => Same Hc Hd ∧ TupsAt Hd da ((namesOf AR ++ [("sea" : Str)]).take i) (aboveR (rowsOf AR))) ⟨same_upd nda, ⟨fun _ => 0, by rw [upd_same, List.take_zero]; rfl, fun x hx => by rw [List.take_zero] at hx; cases hx⟩⟩ (fun i Hd hi h => .inl (.inl (h.1 _ _ hz1))) ?_ ?_
    · rintro i x Hd Hd' hi ⟨sd, Td⟩ ⟨e, hx⟩
      subst e
      rw [List.length_map] at hi
      obtain ⟨y, hy, rfl⟩ : ∃ y, (namesOf AR ++ [("sea" : Str)])[i]? = some y ∧ x = .str y := by
        rw [List.getElem?_map, List.getElem?_eq_getElem hi] at hx
        exact ⟨_, List.getElem?_eq_getElem hi, (Option.some.inj hx).symm⟩
      refine ⟨rfl, ?_⟩
      unfold tYes
      refine iteT ?_
      refine ⟨_, rfl, _, rfl, p, Cr, dx, _, _, rfl, sd _ _ (sz _ _ pa), T.cl, T._below, g4b _ _ _ _, _, rfl, db, rowsOf AR, y, rfl, sd _ _ (sz _ _ ba), hG, fun He t se nt ht => ?_⟩
      obtain ⟨ta, q1, q2⟩ := (Td.same se).ex
      refine ⟨_, Sum.inr y, rfl, q1, ?_, fun b o hb => ?_, ?_⟩
      · rw [kmap_len, List.length_take, List.length_append, hnl]
        exact small1000 (by show min i (AR.length + 1) ≤ 1000; omega)
      · rw [upd_ne (ne_of_none hb nda)]
        exact se _ _ (sd b o hb)
      · have hm := tups_more q1 q2 (nodup_take nsea hy) ht
        rw [List.take_add_one, hy]
        exact hm
    rintro Hd ⟨sd, Td⟩
    rw [List.length_map, List.take_length] at Td
    have pd := sd _ _ (sz _ _ pa)
    refine ⟨_, rfl, p, Cr, dx, _, rfl, pd, T.cl, T._above, by have := l4 (.ref tw) (.ref tr) (.ref db) (.ref dc); omega, ?_⟩
    have scd : Same Ha Hd := sz.trans sd
    have ue : Upto p H (upd Hd p (.ins Cr dx (f5 (.ref tw) (.ref tr) (.ref db) (.ref dc) (.ref da)))) := (ua.trans (Upto.of scd)).trans Upto.at_
    have we : (upd Hd p (.ins Cr dx (f5 (.ref tw) (.ref tr) (.ref db) (.ref dc) (.ref da)))) tw = _ := keepP pd (scd _ _ wa) (fun _ _ _ z => by cases z)
    have re : (upd Hd p (.ins Cr dx (f5 (.ref tw) (.ref tr) (.ref db) (.ref dc) (.ref da)))) tr = _ := keepP pd (scd _ _ ra) (fun _ _ _ z => by cases z)
    have be : (upd Hd p (.ins Cr dx (f5 (.ref tw) (.ref tr) (.ref db) (.ref dc) (.ref da)))) db = _ := keepP pd (scd _ _ ba) (fun _ _ _ z => by cases z)
    have ce := tupsU (H2 := upd Hd p (.ins Cr dx (f5 (.ref tw) (.ref tr) (.ref db) (.ref dc) (.ref da)))) pd Upto.at_ (ca.same scd)
    have ae := tupsU (H2 := upd Hd p (.ins Cr dx (f5 (.ref tw) (.ref tr) (.ref db) (.ref dc) (.ref da)))) pd Upto.at_ Td
    have pe' : (upd Hd p (.ins Cr dx (f5 (.ref tw) (.ref tr) (.ref db) (.ref dc) (.ref da)))) p = some (.ins Cr dx (f5 (.ref tw) (.ref tr) (.ref db) (.ref dc) (.ref da))) := upd_same
    show tSeq _ _ _ _ (upd Hd p (.ins Cr dx (f5 (.ref tw) (.ref tr) (.ref db) (.ref dc) (.ref da))))
    generalize upd Hd p (.ins Cr dx (f5 (.ref tw) (.ref tr) (.ref db) (.ref dc) (.ref da))) = Hf at ue we re be ce ae pe'
    -- self._upstream
    refine ⟨_, rfl, p, Cr, dx, _, _, rfl, pe', T.cl, T.weirs, g5w _ _ _ _ _, tw, rfl, ⟨_, .inl (.inl we)⟩, fun du ndu => ?_⟩
    refine dc_it (walk_tup (K := K) (a := tw) (xs := (namesOf AR).map V.str)) (fun i Hg => Same Hf Hg ∧ TupsAt Hg du ((namesOf AR).take i) (upR (rowsOf AR))) ⟨same_upd ndu, ⟨fun _ => 0, by rw [upd_same, List.take_zero]; rfl, fun x hx => by rw [List.take_zero] at hx; cases hx⟩⟩ (fun i Hg hi h => .inl (.inl (h.1 _ _ we))) ?_ ?_
    · rintro i x Hg Hg' hi ⟨sg, Tg⟩ ⟨e, hx⟩
      subst e
      rw [List.length_map] at hi
      obtain ⟨y, hy, rfl⟩ : ∃ y, (namesOf AR)[i]? = some y ∧ x = .str y := by
        rw [List.getElem?_map, List.getElem?_eq_getElem hi] at hx
        exact ⟨_, List.getElem?_eq_getElem hi, (Option.some.inj hx).symm⟩
      refine ⟨rfl, ?_⟩
      unfold tYes
      refine iteT ?_
      refine ⟨_, rfl, _, rfl, p, Cr, dx, _, _, rfl, sg _ _ pe', T.cl, T._courses, g5c _ _ _ _ _, _, rfl, dc, rowsOf AR, y, rfl, ce.same sg, hG, fun He t se nt ht => ?_⟩
      obtain ⟨ta, q1, q2⟩ := (Tg.same se).ex
      refine ⟨_, Sum.inr y, rfl, q1, ?_, fun b o hb => ?_, ?_⟩
      · rw [kmap_len, List.length_take, hnl]
        exact small1000 (by omega)
      · rw [upd_ne (ne_of_none hb ndu)]
        exact se _ _ (sg b o hb)
      · have hm := tups_more q1 q2 (nodup_take hnd hy) ht
        rw [List.take_add_one, hy]
        exact hm
    rintro Hg ⟨sg, Tg⟩
    rw [List.length_map, List.take_length] at Tg
    have pg := sg _ _ pe'
    refine ⟨_, rfl, p, Cr, dx, _, rfl, pg, T.cl, T._upstream, by have := l5 (.ref tw) (.ref tr) (.ref db) (.ref dc) (.ref da); omega, ?_⟩
    have uh : Upto p H (upd Hg p (.ins Cr dx (f6 (.ref tw) (.ref tr) (.ref db) (.ref dc) (.ref da) (.ref du)))) := (ue.trans (Upto.of sg)).trans Upto.at_
    have wh : (upd Hg p (.ins Cr dx (f6 (.ref tw) (.ref tr) (.ref db) (.ref dc) (.ref da) (.ref du)))) tw = _ := keepP pg (sg _ _ we) (fun _ _ _ z => by cases z)
    have rh : (upd Hg p (.ins Cr dx (f6 (.ref tw) (.ref tr) (.ref db) (.ref dc) (.ref da) (.ref du)))) tr = _ := keepP pg (sg _ _ re) (fun _ _ _ z => by cases z)
    have bh : (upd Hg p (.ins Cr dx (f6 (.ref tw) (.ref tr) (.ref db) (.ref dc) (.ref da) (.ref du)))) db = _ := keepP pg (sg _ _ be) (fun _ _ _ z => by cases z)
    have ch := tupsU (H2 := upd Hg p (.ins Cr dx (f6 (.ref tw) (.ref tr) (.ref db) (.ref dc) (.ref da) (.ref du)))) pg Upto.at_ (ce.same sg)
    have ah := tupsU (H2 := upd Hg p (.ins Cr dx (f6 (.ref tw) (.ref tr) (.ref db) (.ref dc) (.ref da) (.ref du)))) pg Upto.at_ (ae.same sg)
    have uph := tupsU (H2 := upd Hg p (.ins Cr dx (f6 (.ref tw) (.ref tr) (.ref db) (.ref dc) (.ref da) (.ref du)))) pg Upto.at_ Tg
    have ph : (upd Hg p (.ins Cr dx (f6 (.ref tw) (.ref tr) (.ref db) (.ref dc) (.ref da) (.ref du)))) p = some (.ins Cr dx (f6 (.ref tw) (.ref tr) (.ref db) (.ref dc) (.ref da) (.ref du))) := upd_same
    refine ⟨_, rfl, p, Cr, dx, _, _, rfl, ph, T.cl, T._courses, g6c _ _ _ _ _ _, dc, rowsOf AR, rfl, ch, hG, fun Hi t si nt hti => ?_⟩
    have pi := si _ _ ph
    refine ⟨_, rfl, p, Cr, dx, _, rfl, pi, T.cl, T._deepest_first, by have := l6 (.ref tw) (.ref tr) (.ref db) (.ref dc) (.ref da) (.ref du); omega, ?_⟩
    have R0 : RowsAt Hi l AR := rowsU (H1 := Hi) (uh.trans (Upto.of si))
    refine k _ ((uh.trans (Upto.of si)).trans Upto.at_) ⟨dx, tw, tr, db, dc, da, du, .ref t, upd_same, keepP pi (si _ _ wh) (fun _ _ _ z => by cases z), keepP pi (si _ _ rh) (fun _ _ _ z => by cases z), fun q hq => keepP pi (R0.tup q hq) (fun _ _ _ z => by cases z), keepP pi (si _ _ bh) (fun _ _ _ z => by cases z),
      tupsU pi Upto.at_ (ch.same si), tupsU pi Upto.at_ (ah.same si), tupsU pi Upto.at_ (uph.same si), ⟨t, rfl, keepP pi hti (fun _ _ _ z => by cases z)⟩⟩
end
end K0
end
section
set_option Elab.async false
set_option linter.all false
set_option maxRecDepth 100000
namespace L2
open PySem PySem.Spec PyProof.Rows
/-! ### a def whose promise may speak of how large the heap is at its call -/
structure FnOkN (P : Program) (w : World) (K : PySem.W.Frag) (mg : Str → Option Value) (base : Heap) (CX : CXT) (k : Nat) (f : Addr) (fd : FuncData) (ps : List Str) (sp : Nat → Sp) : Prop where
  len : ∀ n vs H Q E, sp n vs H Q E → vs.length = ps.length
  run : ∀ (A : Around) (outer : List Env) (s : Shared) (H : Hp) (args : Args) (us : List Value) (vs : List V) (Q : VK) (E : XK), Room k A → Env0 P w K mg base A outer s H → BindsTo s fd args (ps.zip us) → Vals vs us → sp s.heap.objs.size vs H Q E →
    codeAny (model P w) A (.call (.ref f) args) (CR CX outer P w H s Q E) s
theorem k0_fn_ofN {CX : CXT} {P : Program} {w : World} {K : PySem.W.Frag} {mg : Str → Option Value} {base : Heap} {k : Nat} {f : Addr} {name qual : Str} {params : Arguments} {body : List Stmt} {scope : Scope} {dV kV doc pm cdv ct oc : Value} {an od : Option Addr}
    {osl : Array (Option Value)} {N ps : List Str} {sp : Nat → Sp} (lk : K.lookup f = some ⟨oc, od, .func (PySem.W.fnOf name qual params body scope dV kV doc pm an cdv ct), osl⟩) (hcd : PySem.W.codeIn K cdv qual = true) (S : FnScope N ps scope)
    (len : ∀ n vs H Q E, sp n vs H Q E → vs.length = ps.length)
    (hbody : ∀ (A : Around) (outer : List Env) (s : Shared) (H : Hp) (vs : List V) (Q : VK) (E : XK), Room k (A.deeper (envOfC qual scope s.heap.objs.size f cdv)) → sp s.heap.objs.size vs H Q E →
      ∃ t, PSs (cxOf CX P w K mg base N qual scope f cdv A outer s H E) body t ∧ t { nx := fun _ H' => Q .non H', rt := Q } (start N vs) H) :
    FnOkN P w K mg base CX (k + 1) f (PySem.W.fnOf name qual params body scope dV kV doc pm an cdv ct) ps sp := by
  refine ⟨len, fun A outer s H args us vs Q E hr e0 hb r hsp => ?_⟩
  have hl := len _ _ _ _ _ hsp
  have KX : K.In s.heap := e0.mod.kin.keeps fun b o e => (e0.bs b o e).1
  have lim : s.heap.NoLimit := e0.mod.nolimit.keeps fun b o e => (e0.bs b o e).1
  have hkind : ∀ y ∈ ps.zip us, scope.names.lookup y.1 = some .local ∨ (scope.names.lookup y.1 = some .cell ∧ ((cellsFrom (s.heap.objs.size + 1) scope.names []).lookup y.1).isSome = true) := fun ⟨n, v⟩ hy => by
    rcases S.par n (List.of_mem_zip hy).1 with q | q
    · exact .inl q
    · exact .inr ⟨q, PySem.W.cellsFrom_some _ _ _ (.inl q)⟩
  refine codeAny_call_function hr.depth (KX _ _ lk) rfl S.co S.gen rfl (PySem.W.codeRec_of KX hcd) (hb _ _ _ _ ?_)
  refine wpAny_newFunctionEnv_cells S.kind hkind fun env he s1 x => ?_
  subst he
  refine ⟨lim.keeps x.toInCall.keep, codeAny_func ?_⟩
  obtain ⟨t, ht, hq⟩ := hbody A outer s H vs Q E (hr.deeper _) hsp
  have I : Inv (cxOf CX P w K mg base N qual scope f cdv A outer s H E) [] (start N vs) H s1 := inv_start S hr.hd e0 hl r x
  refine wpAny_mono (ht.run [] s1 (start N vs) H _ I hq) (fun fl s' hs => ?_) fun e s' hs => hs
  have fin : ∀ {σ' : St} {H' : Hp} {v : V} {u : Value}, Inv (cxOf CX P w K mg base N qual scope f cdv A outer s H E) [] σ' H' s' → RelV v u → Q v H' → CE outer P w H s Q u s' :=
    fun {σ' H' v u} J rv q => ⟨v, H', J.os, J.bare, J.base, J.hok, rv, q⟩
  cases fl with
  | ret u =>
    obtain ⟨v, σ', H', J, rv, q⟩ := hs
    exact fin J rv q
  | next =>
    obtain ⟨σ', H', J, q⟩ := hs
    exact fin (v := V.non) (u := Value.none) J rfl q
  | brk =>
    obtain ⟨_, _, _, q⟩ := hs
    exact False.elim q
  | cont =>
    obtain ⟨_, _, _, q⟩ := hs
    exact False.elim q
/-! ### iter of a tuple -/
def k0_itObj (t : Addr) : Obj := { cls := .type "tuple_iterator", data := .fields #[.ref t, .int 0 0] }
def K0It (t it : Addr) : HO := .ext fun h => h.get? it = some (k0_itObj t)
theorem k0_it_ok {P : Program} {w : World} {H : Hp} {h : Heap} {t it : Addr} (e : h.get? it = some (k0_itObj t)) : ObjOk P w H h it (K0It t it) := ⟨e, ⟨_, e⟩, fun h1 h2 q k => k _ q⟩
theorem k0_call_iter {prog : Program} {w : World} {A : Around} {E : Value → Shared → Prop} {s : Shared} {t : Addr} {items : Array Value} {Q : Value → Shared → Prop} (ht : s.heap.IsTuple t items) (h : Q (.ref s.heap.objs.size) { s with heap := s.heap.push (k0_itObj t) }) :
    wpAny (model prog w) A (call (.builtin "iter") [.ref t]) Q E s := by
  refine Calls.call_function_entry (by decide +kernel) (by decide +kernel) PySem.W.kdk_entry_iter (PySem.W.kdk_args_iter _) ?_
  unfold Builtin.«iter»
  refine wpAny_bind (m := someArgs "iter" 1 2 _) (wpAny_of_eq (a := [Value.ref t]) (by first | rfl | kernel_rfl!) ?_)
  show wpAny _ _ (pyIter (.ref t) >>= _) _ _ _
  refine wpAny_bind (wpAny_pyIter_tuple ht ?_)
  exact wpAny_pure ⟨_, rfl, h⟩
def k0_rIter (K : PySem.W.Frag) (n : Nat) : List V → Hp → VK → Prop := fun xs H Q => ∃ (t : Addr) (zs : List V), xs = [.ref t] ∧ SqT K H t zs ∧ ∀ it, H it = Option.none → n ≤ it → Q (.ref it) (upd H it (K0It t it))
section
variable {X : Cx}
theorem k0_cr_iter : CallR X (.builtin "iter") (k0_rIter X.K X.s_0.heap.objs.size) := by
  intro pins s σ H xs us Q I r h
  obtain ⟨t, zs, rfl, hq, q⟩ := h
  obtain ⟨u, rfl, ru⟩ := vals1 r
  cases ru
  obtain ⟨its, rv, pl, hz⟩ := I.tuple hq
  refine k0_call_iter pl ?_
  exact ⟨.ref s.heap.objs.size, _, I.laid (t' := s.toks) (fun b u e => Heap.get?_push_of_some _ e) (Nat.le_refl _) (k0_it_ok (Heap.get?_push_size _ rfl)), rfl, q _ (I.hok.fresh (Nat.le_refl _)) I.sz⟩
end
/-! ### for x in o, o of a class of the text with an __iter__ that gives a tuple's iterator -/
/-- what such an __iter__ promises -/
def spIterT (K : PySem.W.Frag) (G : Hp → Addr → Addr → Prop) (n : Nat) : Sp := fun vs H Q _ => ∃ (p t : Addr) (zs : List V), vs = [.ref p] ∧ G H p t ∧ SqT K H t zs ∧ ∀ it, H it = Option.none → n ≤ it → Q (.ref it) (upd H it (K0It t it))
def iOwn (K : PySem.W.Frag) (C : Addr) (G : Hp → Addr → Addr → Prop) (te : TE) : TI := fun σ H R => te σ H fun x H1 => ∃ (p dx t : Addr) (fs : List (Str × V)) (zs : List V), x = .ref p ∧ H1 p = some (.ins C dx fs) ∧ G H1 p t ∧ SqT K H1 t zs ∧ R (Itt K t) H1
theorem pi_own {X : Cx} {k : Nat} {C f : Addr} {fd : FuncData} {G : Hp → Addr → Addr → Prop} {tg e : Expr} {te : TE} (F : FnOkN X.prog X.w X.K X.mg X.base CX0 k f fd ["self"] (spIterT X.K G)) (hr : Room k X.A)
    (hs : PySem.W.findIn X.K (.ref C) "__iter__" = some (some (.ref f))) (hf : PySem.W.isFn X.K (.ref f) = true) (hb : Binds X.K fd ["self"] []) (he : PE X e te) : PI X tg e (iOwn X.K C G te) := by
  refine ⟨fun pins s σ H R I h => ?_⟩
  refine thn (he.run pins s σ H _ I h) fun u s1 ⟨x, H1, I1, rx, p, dx, t, fs, zs, ex, hp, hG, ht, q⟩ => ?_
  subst ex
  cases rx
  obtain ⟨mA, J, _⟩ := ins_get I1.hok hp
  obtain ⟨od, J, _⟩ := J.look
  obtain ⟨m, hF⟩ := I1.fr
  refine PySem.W.owit_iter hF I1.ok.mod.kin J hs hf ?_
  have hsp : spIterT X.K G s1.heap.objs.size [.ref p] H1 (fun v H' => ∃ it, v = .ref it ∧ H1 it = Option.none ∧ s1.heap.objs.size ≤ it ∧ H' = upd H1 it (K0It t it)) E0 := ⟨p, t, zs, rfl, hG, ht, fun it n1 n2 => ⟨it, rfl, n1, n2, rfl⟩⟩
  have r2 : Vals [V.ref p] [Value.ref p] := .cons rfl .nil
  refine wpAny_call (codeAny_mono (F.run X.A X.stack s1 H1 ⟨[.ref p], []⟩ [.ref p] [.ref p] _ E0 hr I1.env0 (by
    have := hb s1 [.ref p] I1.kIn (by rfl)
    simpa using this) r2 hsp) fun r s' hq => ?_)
  cases r with
  | error e => exact hq.elim
  | ok fl =>
    cases fl with
    | ret w =>
      obtain ⟨z, H', I', rz, it, ez, n1, n2, eH⟩ := I1.after hq
      subst ez
      cases rz
      subst eH
      have hit : (upd H1 it (K0It t it)) it = some (K0It t it) := upd_same
      have hobj : s'.heap.get? it = some (k0_itObj t) := (I'.hok it _ hit).1
      have st : s'.heap.IsTupleIter it t 0 := ⟨_, hobj, rfl, rfl⟩
      show PySem.W.OwitIt _ _ _ _ (.ref it) s'
      unfold PySem.W.OwitIt
      refine wpAny_specialOf (T := "tuple_iterator") ⟨_, hobj, rfl⟩ PySem.F.slot_tuple_iterator_next.lookup ?_
      have hit' := hit
      unfold K0It at hit'
      have I2 := ItX.inv_drop I' hit'
      rw [ItX.dropH_upd n1] at I2
      have fp := ItX.inv_fp I' hit (Nat.le_trans I1.sz n2)
      rw [ItX.dropH_upd n1] at fp
      refine ⟨it, [it], _, _, H1, rfl, I2, turn_tuple t it, st, fun b hb => ?_, q⟩
      have e : b = it := by simpa using hb
      rw [e]
      exact fp
    | next => exact hq.elim
    | brk => exact hq.elim
    | cont => exact hq.elim
/-! ### len(o), x in o, x not in o by the text's own methods -/
section
variable {X : Cx} {k : Nat} {C f : Addr} {fd : FuncData}
/-- what such a __len__ promises -/
def spLenG (G : Hp → Addr → Nat → Prop) : Sp := fun vs H Q _ => ∃ (p : Addr) (n : Nat), vs = [.ref p] ∧ G H p n ∧ n ≤ 100000 ∧ Q (.int (n : Int)) H
theorem k0_len_own {G : Hp → Addr → Nat → Prop} (F : FnOk X.prog X.w X.K X.mg X.base CX0 k f fd ["self"] (spLenG G)) (hr : Room (k + 1) X.A)
    (hs : PySem.W.findIn X.K (.ref C) "__len__" = some (some (.ref f))) (hf : PySem.W.isFn X.K (.ref f) = true) (hb : Binds X.K fd ["self"] []) :
    CallR X (.builtin "len") (fun xs H Q => ∃ (p dx : Addr) (fs : List (Str × V)) (n : Nat), xs = [.ref p] ∧ H p = some (.ins C dx fs) ∧ G H p n ∧ n ≤ 100000 ∧ Q (.int (n : Int)) H) := by
  intro pins s σ H xs us Q I r h
  obtain ⟨p, dx, fs, n, rfl, hp, hG, hn, q⟩ := h
  obtain ⟨u, rfl, ru⟩ := vals1 r
  cases ru
  obtain ⟨mA, J, _⟩ := ins_get I.hok hp
  obtain ⟨od, J, _⟩ := J.look
  obtain ⟨m, hF⟩ := I.fr
  refine PySem.W.len_K hF I.ok.mod.kin J hs hf ?_
  have hsp : spLenG G [.ref p] H (fun v H' => v = .int (n : Int) ∧ H' = H) E0 := ⟨p, n, rfl, hG, hn, rfl, rfl⟩
  have r2 : Vals [V.ref p] [Value.ref p] := .cons rfl .nil
  have e0 : Env0 X.prog X.w X.K X.mg X.base X.A.in1 X.stack s H := I.env0.in1
  refine wpAny_call (codeAny_mono (F.run X.A.in1 X.stack s H ⟨[.ref p], []⟩ [.ref p] [.ref p] _ E0 (hr.in1) e0 (by
    have := hb s [.ref p] I.kIn (by rfl)
    simpa using this) r2 hsp) fun r s' hq => ?_)
  cases r with
  | error e => exact hq.elim
  | ok fl =>
    cases fl with
    | ret w =>
      obtain ⟨z, H', I', rz, ez, eH⟩ := I.after hq
      subst ez
      subst eH
      obtain ⟨t, rfl⟩ := rz
      exact ⟨⟨by omega, by omega⟩, .int (n : Int), H', I'.tok _, ⟨_, rfl⟩, q⟩
    | next => exact hq.elim
    | brk => exact hq.elim
    | cont => exact hq.elim
/-- what such a __contains__ promises: true or false -/
def spHas (G : Hp → Addr → V → Bool → Prop) : Sp := fun vs H Q _ => ∃ (p : Addr) (x : V) (b : Bool), vs = [.ref p, x] ∧ G H p x b ∧ Q (.bl b) H
def rHas (C : Addr) (neg : Bool) (G : Hp → Addr → V → Bool → Prop) : R2 := fun x y H Q => ∃ (p dx : Addr) (fs : List (Str × V)) (b : Bool), y = .ref p ∧ H p = some (.ins C dx fs) ∧ G H p x b ∧ Q (.bl (if neg then !b else b)) H
theorem k0_has_run {G : Hp → Addr → V → Bool → Prop} (F : FnOk X.prog X.w X.K X.mg X.base CX0 k f fd ["self", "x"] (spHas G)) (hr : Room k X.A) (hb : Binds X.K fd ["self", "x"] []) {pins : List (Addr × Obj)} {σ : St} {H : Hp} {s : Shared} (I : Inv X pins σ H s) {p : Addr} {x : V} {u : Value} {b : Bool} (rx : RelV x u) (hG : G H p x b)
    {R : Value → Shared → Prop} (h : ∀ s', Inv X pins σ H s' → R (.bool b) s') : wpAny (model X.prog X.w) X.A (call (.ref f) [.ref p, u]) R X.xe s := by
  have hsp : spHas G [.ref p, x] H (fun v H' => v = .bl b ∧ H' = H) E0 := ⟨p, x, b, rfl, hG, rfl, rfl⟩
  have r2 : Vals [V.ref p, x] [Value.ref p, u] := .cons rfl (.cons rx .nil)
  refine wpAny_call (codeAny_mono (F.run X.A X.stack s H ⟨[.ref p, u], []⟩ [.ref p, u] [.ref p, x] _ E0 hr I.env0 (by
    have := hb s [.ref p, u] I.kIn (by rfl)
    simpa using this) r2 hsp) fun r s' hq => ?_)
  cases r with
  | error e => exact hq.elim
  | ok fl =>
    cases fl with
    | ret w =>
      obtain ⟨z, H', I', rz, ez, eH⟩ := I.after hq
      subst ez
      subst eH
      cases rz
      exact h s' I'
    | next => exact hq.elim
    | brk => exact hq.elim
    | cont => exact hq.elim
theorem k0_in_own {K : PySem.W.Frag} {G : Hp → Addr → V → Bool → Prop} (F : FnOk X.prog X.w X.K X.mg X.base CX0 k f fd ["self", "x"] (spHas G)) (hr : Room k X.A)
    (hs : PySem.W.findIn X.K (.ref C) "__contains__" = some (some (.ref f))) (hf : PySem.W.isFn X.K (.ref f) = true) (hb : Binds X.K fd ["self", "x"] []) : OpR X (compareOp .In) (rHas C false G) := by
  intro pins s σ H x y v u Q I rx ry h
  obtain ⟨p, dx, fs, b, rfl, hp, hG, q⟩ := h
  cases ry
  obtain ⟨mA, J, _⟩ := ins_get I.hok hp
  obtain ⟨od, J, _⟩ := J.look
  obtain ⟨m, hF⟩ := I.fr
  refine PySem.W.in_K hF I.ok.mod.kin J hs hf (k0_has_run F hr hb I rx hG fun s' I' => ?_)
  exact wpAny_truthy_bool ⟨.bl b, H, I', rfl, q⟩
theorem k0_notIn_own {K : PySem.W.Frag} {G : Hp → Addr → V → Bool → Prop} (F : FnOk X.prog X.w X.K X.mg X.base CX0 k f fd ["self", "x"] (spHas G)) (hr : Room k X.A)
    (hs : PySem.W.findIn X.K (.ref C) "__contains__" = some (some (.ref f))) (hf : PySem.W.isFn X.K (.ref f) = true) (hb : Binds X.K fd ["self", "x"] []) : OpR X (compareOp .NotIn) (rHas C true G) := by
  intro pins s σ H x y v u Q I rx ry h
  obtain ⟨p, dx, fs, b, rfl, hp, hG, q⟩ := h
  cases ry
  obtain ⟨mA, J, _⟩ := ins_get I.hok hp
  obtain ⟨od, J, _⟩ := J.look
  obtain ⟨m, hF⟩ := I.fr
  refine PySem.W.notIn_K hF I.ok.mod.kin J hs hf (k0_has_run F hr hb I rx hG fun s' I' => ?_)
  exact wpAny_truthy_bool ⟨.bl (!b), H, I', rfl, q⟩
end
end L2
end
section
set_option linter.all false
namespace RM
variable {α : Type} [DecidableEq α]
/-! ### the first group in which nothing is met -/
def put (m : α → α → Bool) (n : α) : List (List α) → List (List α)
  | [] => [[n]]
  | g :: gs => if g.any (m n) = true then g :: put m n gs else (g ++ [n]) :: gs
def greedy (m : α → α → Bool) (l : List α) : List (List α) := l.foldl (fun gs n => put m n gs) []
theorem greedy_snoc (m : α → α → Bool) (l : List α) (n : α) : greedy m (l ++ [n]) = put m n (greedy m l) := by
  unfold greedy
  rw [List.foldl_append]
  rfl
theorem put_flat (m : α → α → Bool) (n : α) : ∀ gs : List (List α), (put m n gs).flatten.Perm (n :: gs.flatten)
  | [] => by simp [put]
  | g :: gs => by
    unfold put
    split
    · rw [List.flatten_cons, List.flatten_cons]
      exact ((put_flat m n gs).append_left g).trans List.perm_middle
    · rw [List.flatten_cons, List.flatten_cons, List.append_assoc]
      exact List.perm_middle
theorem snoc_rec {P : List α → Prop} (h0 : P []) (h1 : ∀ l n, P l → P (l ++ [n])) (l : List α) : P l := by
  have key : ∀ k, ∀ l : List α, l.length = k → P l := by
    intro k
    induction k with
    | zero =>
      intro l h
      rw [List.length_eq_zero_iff.mp h]
      exact h0
    | succ k ih =>
      intro l h
      rcases List.eq_nil_or_concat l with e | ⟨t, n, e⟩
      · rw [e] at h
        cases h
      · rw [List.concat_eq_append] at e
        subst e
        refine h1 t n (ih t ?_)
        rw [List.length_append] at h
        simpa using h
  exact key _ l rfl
theorem greedy_flat (m : α → α → Bool) (l : List α) : (greedy m l).flatten.Perm l := by
  refine snoc_rec (P := fun l => (greedy m l).flatten.Perm l) (List.Perm.refl _) (fun l n ih => ?_) l
  rw [greedy_snoc]
  exact (put_flat m n _).trans ((ih.cons n).trans (List.perm_append_comm (l₁ := [n])))
theorem put_mem {m : α → α → Bool} {n : α} {h : List α} : ∀ {gs : List (List α)}, h ∈ put m n gs → h ∈ gs ∨ h = [n] ∨ ∃ g ∈ gs, h = g ++ [n] ∧ g.any (m n) = false
  | [], hh => .inr (.inl (by simpa [put] using hh))
  | g :: gs, hh => by
    unfold put at hh
    split at hh
    · rcases List.mem_cons.mp hh with e | hh
      · exact .inl (e ▸ List.mem_cons_self)
      · rcases put_mem hh with e | e | ⟨g', h1, h2⟩
        · exact .inl (List.mem_cons_of_mem _ e)
        · exact .inr (.inl e)
        · exact .inr (.inr ⟨g', List.mem_cons_of_mem _ h1, h2⟩)
    · rename_i hn
      rcases List.mem_cons.mp hh with e | hh
      · exact .inr (.inr ⟨g, List.mem_cons_self, e, by simpa using hn⟩)
      · exact .inl (List.mem_cons_of_mem _ hh)
/-- no two of a group meet, no group is empty -/
theorem greedy_grp (m : α → α → Bool) (l : List α) : ∀ g ∈ greedy m l, g ≠ [] ∧ g.Pairwise fun a b => m b a = false := by
  refine snoc_rec (P := fun l => ∀ g ∈ greedy m l, g ≠ [] ∧ g.Pairwise fun a b => m b a = false) (fun g hg => by cases hg) (fun l n ih g hg => ?_) l
  rw [greedy_snoc] at hg
  rcases put_mem hg with e | e | ⟨g', h1, h2, h3⟩
  · exact ih g e
  · rw [e]
    exact ⟨by simp, List.pairwise_singleton _ _⟩
  · rw [h2]
    refine ⟨by simp, List.pairwise_append.mpr ⟨(ih g' h1).2, List.pairwise_singleton _ _, fun a ha b hb => ?_⟩⟩
    rw [List.mem_singleton.mp hb]
    have := List.any_eq_false.mp h3 a ha
    simpa using this
theorem put_len (m : α → α → Bool) (n : α) : ∀ gs : List (List α), (put m n gs).length = gs.length ∨ ((∀ g ∈ gs, g.any (m n) = true) ∧ (put m n gs).length = gs.length + 1)
  | [] => .inr ⟨(fun _ h => by cases h), rfl⟩
  | g :: gs => by
    unfold put
    split
    · rename_i hg
      rcases put_len m n gs with e | ⟨h, e⟩
      · exact .inl (by rw [List.length_cons, e, List.length_cons])
      · refine .inr ⟨fun g' hg' => ?_, by rw [List.length_cons, e, List.length_cons]⟩
        rcases List.mem_cons.mp hg' with q | q
        · rw [q]
          exact hg
        · exact h g' q
    · exact .inl rfl
theorem any_count {p : α → Bool} : ∀ {gs : List (List α)}, (∀ g ∈ gs, g.any p = true) → gs.length ≤ gs.flatten.countP p
  | [], _ => Nat.zero_le _
  | g :: gs, h => by
    have ih := any_count fun g' hg' => h g' (List.mem_cons_of_mem _ hg')
    have h1 := h g List.mem_cons_self
    rw [List.flatten_cons, List.countP_append, List.length_cons]
    have : 0 < g.countP p := by
      rw [List.countP_pos_iff]
      obtain ⟨x, hx, px⟩ := List.any_eq_true.mp h1
      exact ⟨x, hx, px⟩
    omega
/-- as few groups as the most that meet -/
theorem greedy_len {m : α → α → Bool} {K : Nat} (l : List α) (h : ∀ d n r, l = d ++ n :: r → d.countP (m n) + 1 ≤ K) : (greedy m l).length ≤ K := by
  refine snoc_rec (P := fun l => (∀ d n r, l = d ++ n :: r → d.countP (m n) + 1 ≤ K) → (greedy m l).length ≤ K) (fun _ => Nat.zero_le _) (fun l n ih h => ?_) l h
  have h1 := ih fun d n' r e => h d n' (r ++ [n]) (by rw [e, List.append_assoc]; rfl)
  rw [greedy_snoc]
  rcases put_len m n (greedy m l) with e | ⟨hall, e⟩
  · rw [e]
    exact h1
  · rw [e]
    have h2 := any_count hall
    rw [(greedy_flat m l).countP_eq] at h2
    have h3 := h l n [] rfl
    omega
theorem one_of {l : List α} (hn : l.Nodup) (h : ∀ a ∈ l, ∀ b ∈ l, a = b) : l.length ≤ 1 := by
  match l, hn, h with
  | [], _, _ => exact Nat.zero_le _
  | [a], _, _ => exact Nat.le_refl _
  | a :: b :: r, hn, h =>
    have e := h a List.mem_cons_self b (List.mem_cons_of_mem _ List.mem_cons_self)
    obtain ⟨h1, _⟩ := List.nodup_cons.mp hn
    exact absurd (e ▸ List.mem_cons_self) h1
/-- those that all meet stand in groups of their own -/
theorem many_groups {S : List α} : ∀ {gs : List (List α)}, S.Nodup → (∀ s ∈ S, s ∈ gs.flatten) → (∀ g ∈ gs, ∀ a ∈ g, ∀ b ∈ g, a ∈ S → b ∈ S → a = b) → S.length ≤ gs.length := by
  intro gs
  induction gs generalizing S with
  | nil =>
    intro _ h _
    match S, h with
    | [], _ => exact Nat.le_refl _
    | s :: r, h => cases h s List.mem_cons_self
  | cons g gs ih =>
    intro hn hs hg
    have e := List.length_eq_countP_add_countP (fun s => decide (s ∈ g)) (l := S)
    rw [List.countP_eq_length_filter, List.countP_eq_length_filter] at e
    have h1 : (S.filter fun s => decide (s ∈ g)).length ≤ 1 := by
      refine one_of (hn.filter _) fun a ha b hb => ?_
      obtain ⟨a1, a2⟩ := List.mem_filter.mp ha
      obtain ⟨b1, b2⟩ := List.mem_filter.mp hb
      exact hg g List.mem_cons_self a (of_decide_eq_true a2) b (of_decide_eq_true b2) a1 b1
    have h2 := ih (S := S.filter fun s => decide ¬decide (s ∈ g) = true) (hn.filter _) (fun s h => by
      obtain ⟨s1, s2⟩ := List.mem_filter.mp h
      have s3 : s ∉ g := by simpa using s2
      have := hs s s1
      rw [List.flatten_cons] at this
      exact (List.mem_append.mp this).resolve_left s3) (fun g' hg' a ha b hb sa sb => hg g' (List.mem_cons_of_mem _ hg') a ha b hb (List.mem_filter.mp sa).1 (List.mem_filter.mp sb).1)
    rw [List.length_cons]
    omega
/-! ### those that do not meet -/
def free (m : α → α → Bool) (l : List α) : List α := l.foldl (fun t n => if t.any (m n) = true then t else t ++ [n]) []
theorem free_snoc (m : α → α → Bool) (l : List α) (n : α) : free m (l ++ [n]) = if (free m l).any (m n) = true then free m l else free m l ++ [n] := by
  unfold free
  rw [List.foldl_append]
  rfl
theorem free_sub (m : α → α → Bool) (l : List α) : (free m l).Sublist l := by
  refine snoc_rec (P := fun l => (free m l).Sublist l) (List.Sublist.refl _) (fun l n ih => ?_) l
  rw [free_snoc]
  split
  · exact ih.trans (List.sublist_append_left l [n])
  · exact ih.append (List.Sublist.refl [n])
theorem free_pw (m : α → α → Bool) (l : List α) : (free m l).Pairwise fun a b => m b a = false := by
  refine snoc_rec (P := fun l => (free m l).Pairwise fun a b => m b a = false) List.Pairwise.nil (fun l n ih => ?_) l
  rw [free_snoc]
  split
  · exact ih
  · rename_i h
    refine List.pairwise_append.mpr ⟨ih, List.pairwise_singleton _ _, fun a ha b hb => ?_⟩
    rw [List.mem_singleton.mp hb]
    have h3 : (free m l).any (m n) = false := by simpa using h
    have := List.any_eq_false.mp h3 a ha
    simpa using this
/-- whoever is not taken meets one that stands ahead and is taken -/
theorem free_all (m : α → α → Bool) (l : List α) : ∀ n ∈ l, n ∈ free m l ∨ ∃ d r, l = d ++ n :: r ∧ ∃ t ∈ d, t ∈ free m l ∧ m n t = true := by
  refine snoc_rec (P := fun l => ∀ n ∈ l, n ∈ free m l ∨ ∃ d r, l = d ++ n :: r ∧ ∃ t ∈ d, t ∈ free m l ∧ m n t = true) (fun n h => by cases h) (fun l n ih x hx => ?_) l
  have keep : ∀ y ∈ free m l, y ∈ free m (l ++ [n]) := fun y hy => by
    rw [free_snoc]
    split
    · exact hy
    · exact List.mem_append_left _ hy
  rcases List.mem_append.mp hx with h | h
  · rcases ih x h with e | ⟨d, r, e, t, t1, t2, t3⟩
    · exact .inl (keep x e)
    · exact .inr ⟨d, r ++ [n], by rw [e, List.append_assoc]; rfl, t, t1, keep t t2, t3⟩
  · rw [List.mem_singleton.mp h]
    by_cases c : (free m l).any (m n) = true
    · obtain ⟨t, t1, t2⟩ := List.any_eq_true.mp c
      exact .inr ⟨l, [], rfl, t, (free_sub m l).subset t1, keep t t1, t2⟩
    · refine .inl ?_
      rw [free_snoc, if_neg c]
      exact List.mem_append_right _ List.mem_cons_self
/-! ### the law's own way -/
/-- the places of the groups in which nothing is met -/
def places (m : α → α → Bool) (n : α) (gs : List (List α)) (k : Nat) : List Nat := match gs with
  | [] => []
  | g :: r => (if g.any (m n) = true then [] else [k]) ++ places m n r (k + 1)
theorem places_none {m : α → α → Bool} {n : α} : ∀ {gs : List (List α)} {k : Nat}, places m n gs k = [] → put m n gs = gs ++ [[n]]
  | [], _, _ => rfl
  | g :: gs, k, h => by
    unfold places at h
    obtain ⟨h1, h2⟩ := List.append_eq_nil_iff.mp h
    unfold put
    split
    · rw [places_none h2]
      rfl
    · rename_i hn
      rw [if_neg hn] at h1
      cases h1
theorem places_some {m : α → α → Bool} {n : α} : ∀ {gs : List (List α)} {k j : Nat} {r : List Nat}, places m n gs k = j :: r → ∃ i g, j = k + i ∧ gs[i]? = some g ∧ put m n gs = gs.set i (g ++ [n])
  | [], _, _, _, h => by cases h
  | g :: gs, k, j, r, h => by
    unfold places at h
    by_cases hn : g.any (m n) = true
    · rw [if_pos hn, List.nil_append] at h
      obtain ⟨i, g', e, h1, h2⟩ := places_some h
      refine ⟨i + 1, g', by omega, h1, ?_⟩
      unfold put
      rw [if_pos hn, h2]
      rfl
    · rw [if_neg hn] at h
      injection h with h1 h2
      refine ⟨0, g, by omega, rfl, ?_⟩
      unfold put
      rw [if_neg hn]
      rfl
/-- the place of the first group in which nothing is met, or how many groups there are -/
theorem put_at {m : α → α → Bool} {n : α} : ∀ {gs : List (List α)} {i : Nat} {g : List α}, (∀ (j : Nat) (h : List α), j < i → gs[j]? = some h → h.any (m n) = true) → gs[i]? = some g → g.any (m n) = false → put m n gs = gs.set i (g ++ [n])
  | [], _, _, _, h, _ => by simp at h
  | g0 :: gs, 0, g, _, h, hn => by
    obtain rfl : g0 = g := Option.some.inj h
    unfold put
    rw [if_neg (by rw [hn]; exact Bool.false_ne_true)]
    rfl
  | g0 :: gs, i + 1, g, hb, h, hn => by
    have h0 := hb 0 g0 (by omega) rfl
    unfold put
    rw [if_pos h0, put_at (i := i) (fun j h hj e => hb (j + 1) h (by omega) e) h hn]
    rfl
theorem put_end {m : α → α → Bool} {n : α} : ∀ {gs : List (List α)}, (∀ (j : Nat) (h : List α), gs[j]? = some h → h.any (m n) = true) → put m n gs = gs ++ [[n]]
  | [], _ => rfl
  | g0 :: gs, hb => by
    have h0 := hb 0 g0 rfl
    unfold put
    rw [if_pos h0, put_end fun j h e => hb (j + 1) h e]
    rfl
theorem put_congr {m m' : α → α → Bool} {n : α} : ∀ {gs : List (List α)}, (∀ g ∈ gs, ∀ a ∈ g, m n a = m' n a) → put m n gs = put m' n gs
  | [], _ => rfl
  | g :: gs, h => by
    have e : g.any (m n) = g.any (m' n) := by
      rw [Bool.eq_iff_iff, List.any_eq_true, List.any_eq_true]
      constructor
      · rintro ⟨x, hx, px⟩
        exact ⟨x, hx, by rw [← h g List.mem_cons_self x hx]; exact px⟩
      · rintro ⟨x, hx, px⟩
        exact ⟨x, hx, by rw [h g List.mem_cons_self x hx]; exact px⟩
    unfold put
    rw [e, put_congr fun g' hg' => h g' (List.mem_cons_of_mem _ hg')]
end RM
end
section
set_option Elab.async false
set_option linter.all false
set_option maxRecDepth 100000
namespace K0
open PySem PySem.Spec PyProof.Rows L2
/-! ### shapes of texts -/
def Plain (y : Str) : Prop := ∀ c ∈ y.cps.toList, c < 1114112
theorem plain_ok {y : Str} (h : Plain y) : PyData.strOk y = true := by
  unfold PyData.strOk
  rw [← Array.all_toList, List.all_eq_true]
  intro c hc
  exact decide_eq_true (h c hc)
theorem canLay_strs : ∀ {l : List Str}, (∀ y ∈ l, Plain y) → PyData.canLayAll0 (l.map PyData.str) = true
  | [], _ => by simp only [List.map_nil, PyData.canLayAll0]
  | y :: l, h => by
    simp only [List.map_cons, PyData.canLayAll0, PyData.canLay0, plain_ok (h y List.mem_cons_self), canLay_strs fun z hz => h z (List.mem_cons_of_mem _ hz), Bool.and_self]
theorem depth_strs : ∀ l : List Str, PyData.depthAll (l.map PyData.str) = 0
  | [] => by simp only [List.map_nil, PyData.depthAll]
  | y :: l => by
    simp only [List.map_cons, PyData.depthAll, PyData.depth, depth_strs l]
    rfl
theorem dp_strs {K : PySem.W.Frag} {H : Hp} : ∀ l : List Str, DpAll K H (l.map V.str) (l.map PyData.str)
  | [] => .nil
  | y :: l => .cons (.str y) (dp_strs l)
theorem shaped_lst {l : List Str} (h : ∀ y ∈ l, Plain y) : SeqAt.shaped (.list (l.map PyData.str)) = true := by
  unfold SeqAt.shaped
  simp only [PyData.canLay0, PyData.depth, canLay_strs h, depth_strs]
  decide
theorem shaped_tup {l : List Str} (h : ∀ y ∈ l, Plain y) : SeqAt.shaped (.tuple (l.map PyData.str)) = true := by
  unfold SeqAt.shaped
  simp only [PyData.canLay0, PyData.depth, canLay_strs h, depth_strs]
  decide
theorem shaped_str {y : Str} (h : Plain y) : SeqAt.shaped (.str y) = true := by
  unfold SeqAt.shaped
  simp only [PyData.canLay0, PyData.depth, plain_ok h]
  rfl
theorem eqv_strs : ∀ l : List Str, PyData.eqvAll (l.map PyData.str) (l.map PyData.str) = true
  | [] => by simp only [List.map_nil, PyData.eqvAll]
  | y :: l => by simp only [List.map_cons, PyData.eqvAll, PyData.eqv, eqv_strs l, beq_self_eq_true, Bool.and_self]
theorem eqv_tups (l : List Str) : PyData.eqv (.tuple (l.map PyData.str)) (.tuple (l.map PyData.str)) = true := by
  simp only [PyData.eqv]
  exact eqv_strs _
theorem eqv_lsts (l : List Str) : PyData.eqv (.list (l.map PyData.str)) (.list (l.map PyData.str)) = true := by
  simp only [PyData.eqv]
  exact eqv_strs _
theorem name_plain {x : Str} (h : NameOk x) : Plain x := fun c hc => by
  have := (h.low c hc).2
  omega
theorem plain_name {R : List Row} (g : GoodRows R) {y : Str} (hy : y ∈ nmsOf R) : Plain y := name_plain (g.nm.ok y hy)
theorem sea_plain : Plain ("sea" : Str) := by
  intro c hc
  have : c = 115 ∨ c = 101 ∨ c = 97 := by simpa [sea_list, seaL] using hc
  omega
theorem course_sub {R : List Row} (g : GoodRows R) {y : Str} (hy : y ∈ nmsOf R) : ∀ z ∈ course R y, z ∈ nmsOf R := fun z hz => by
  obtain ⟨m, c⟩ := course_is g hy
  rw [c.eq] at hz
  obtain ⟨i, hi, e⟩ := List.mem_map.mp hz
  rw [← e]
  exact c.mem i (List.mem_range.mp hi)
/-! ### rights -/
abbrev RRow := Str × Str × Str
structure RtOk (R : List Row) (B : List RRow) : Prop where
  nd : (B.map (·.1)).Nodup
  ok : ∀ r ∈ B, NameOk r.1
  inn : ∀ r ∈ B, r.2.1 ∈ nmsOf R
  last : ∀ r ∈ B, r.2.2 = "sea" ∨ r.2.2 ∈ course R r.2.1
  most : B.length ≤ 40
abbrev rnm (B : List RRow) : List Str := B.map (·.1)
def wayB (R : List Row) (r : RRow) : List Str := if r.2.2 = "sea" then course R r.2.1 else (course R r.2.1).take ((course R r.2.1).idxOf r.2.2 + 1)
def rowB (B : List RRow) (n : Str) : RRow := (B.find? fun r => decide (r.1 = n)).getD ("", "", "sea")
def wayN (R : List Row) (B : List RRow) (n : Str) : List Str := wayB R (rowB B n)
theorem row_of {B : List RRow} (hd : (rnm B).Nodup) {r : RRow} (h : r ∈ B) : rowB B r.1 = r := by
  unfold rowB
  cases e : B.find? (fun q => decide (q.1 = r.1)) with
  | none => exact absurd (decide_eq_true rfl) (List.find?_eq_none.mp e r h)
  | some q =>
    have h1 := List.mem_of_find?_eq_some e
    have h2 : q.1 = r.1 := by
      have h3 := List.find?_some e
      exact of_decide_eq_true h3
    obtain ⟨i, hi⟩ := List.getElem?_of_mem h
    obtain ⟨j, hj⟩ := List.getElem?_of_mem h1
    have g1 : (rnm B)[i]? = some r.1 := by rw [List.getElem?_map, hi]; rfl
    have g2 : (rnm B)[j]? = some r.1 := by rw [List.getElem?_map, hj, ← h2]; rfl
    have : i = j := nd_ix hd g1 g2
    subst this
    rw [hi] at hj
    exact (Option.some.inj hj).symm
theorem way_of {R : List Row} {B : List RRow} (hd : (rnm B).Nodup) {r : RRow} (h : r ∈ B) : wayN R B r.1 = wayB R r := by
  unfold wayN
  rw [row_of hd h]
theorem itr_add (low : Str → Str) : ∀ (i j : Nat) (x : Str), itr low j (itr low i x) = itr low (i + j) x
  | i, 0, x => rfl
  | i, j + 1, x => by
    show low (itr low j (itr low i x)) = low (itr low (i + j) x)
    rw [itr_add low i j x]
/-- further down, the course is what is left of it -/
theorem CourseIs.tail {R : List Row} (g : GoodRows R) {x : Str} {m i : Nat} (c : CourseIs R x m) (hi : i < m) : CourseIs R (itr (lowR R) i x) (m - i) := by
  have hm := c.most
  refine ⟨by omega, by omega, ?_, fun j hj => ?_, ?_⟩
  · refine crs_full _ _ _ _ (by omega) (fun j hj => ?_) ?_
    · rw [itr_add]
      exact g.nm.sea _ (c.mem _ (by omega))
    · rw [itr_add, show i + (m - i) = m by omega]
      exact c.sea
  · rw [itr_add]
    exact c.mem _ (by omega)
  · rw [itr_add, show i + (m - i) = m by omega]
    exact c.sea
/-- a way: the first k of the course -/
structure WayIs (R : List Row) (r : RRow) (m k : Nat) : Prop where
  c : CourseIs R r.2.1 m
  one : 1 ≤ k
  most : k ≤ m
  eq : wayB R r = (List.range k).map fun i => itr (lowR R) i r.2.1
theorem way_is {R : List Row} (g : GoodRows R) {r : RRow} (h1 : r.2.1 ∈ nmsOf R) (h2 : r.2.2 = "sea" ∨ r.2.2 ∈ course R r.2.1) : ∃ m k, WayIs R r m k := by
  obtain ⟨m, c⟩ := course_is g h1
  by_cases hs : r.2.2 = "sea"
  · refine ⟨m, m, c, c.one, Nat.le_refl _, ?_⟩
    unfold wayB
    rw [if_pos hs]
    exact c.eq
  · have h3 := h2.resolve_left hs
    have hl := List.idxOf_lt_length_iff.mpr h3
    rw [c.len] at hl
    refine ⟨m, (course R r.2.1).idxOf r.2.2 + 1, c, by omega, by omega, ?_⟩
    unfold wayB
    rw [if_neg hs]
    generalize (course R r.2.1).idxOf r.2.2 = k at hl ⊢
    rw [c.eq, ← List.map_take, List.take_range, Nat.min_eq_left (by omega)]
def lastW (l : List Str) : Str := l.getLast?.getD ""
theorem WayIs.last {R : List Row} {r : RRow} {m k : Nat} (h : WayIs R r m k) : lastW (wayB R r) = itr (lowR R) (k - 1) r.2.1 := by
  have h1 := h.one
  unfold lastW
  rw [h.eq, List.getLast?_eq_getElem?, List.length_map, List.length_range, List.getElem?_map, List.getElem?_range (by omega)]
  rfl
theorem WayIs.mem {R : List Row} {r : RRow} {m k : Nat} (h : WayIs R r m k) {y : Str} : y ∈ wayB R r ↔ ∃ i, i < k ∧ itr (lowR R) i r.2.1 = y := by
  rw [h.eq, List.mem_map]
  constructor
  · rintro ⟨i, hi, e⟩
    exact ⟨i, List.mem_range.mp hi, e⟩
  · rintro ⟨i, hi, e⟩
    exact ⟨i, List.mem_range.mpr hi, e⟩
theorem WayIs.depth {R : List Row} (g : GoodRows R) {r : RRow} {m k i : Nat} (h : WayIs R r m k) (hi : i < m) : (course R (itr (lowR R) i r.2.1)).length = m - i := (h.c.tail g hi).len
theorem WayIs.sub {R : List Row} {r : RRow} {m k : Nat} (h : WayIs R r m k) : ∀ y ∈ wayB R r, y ∈ nmsOf R := fun y hy => by
  obtain ⟨i, hi, e⟩ := h.mem.mp hy
  rw [← e]
  exact h.c.mem i (by have := h.most; omega)
theorem WayIs.lastIn {R : List Row} {r : RRow} {m k : Nat} (h : WayIs R r m k) : lastW (wayB R r) ∈ wayB R r := by
  rw [h.last]
  exact h.mem.mpr ⟨k - 1, by have := h.one; omega, rfl⟩
/-- rights that meet: the one whose last weir is not deeper passes the last weir of the other -/
theorem meet_last {R : List Row} (g : GoodRows R) {r1 r2 : RRow} {m1 k1 m2 k2 : Nat} (w1 : WayIs R r1 m1 k1) (w2 : WayIs R r2 m2 k2) {y : Str} (h1 : y ∈ wayB R r1) (h2 : y ∈ wayB R r2)
    (hd : (course R (lastW (wayB R r2))).length ≤ (course R (lastW (wayB R r1))).length) : lastW (wayB R r1) ∈ wayB R r2 := by
  obtain ⟨i, hi, ei⟩ := w1.mem.mp h1
  obtain ⟨j, hj, ej⟩ := w2.mem.mp h2
  have a1 := w1.one; have a2 := w1.most; have b1 := w2.one; have b2 := w2.most
  rw [w1.last, w2.last, w1.depth g (by omega), w2.depth g (by omega)] at hd
  have d1 := w1.depth g (i := i) (by omega)
  have d2 := w2.depth g (i := j) (by omega)
  rw [ei] at d1
  rw [ej, d1] at d2
  rw [w1.last]
  refine w2.mem.mpr ⟨j + (k1 - 1 - i), by omega, ?_⟩
  rw [← itr_add, ej, ← ei, itr_add]
  congr 1
  omega
/-! ### the order in which rights are taken away -/
def depthN (R : List Row) (B : List RRow) (n : Str) : Nat := (course R (lastW (wayN R B n))).length
def remR (R : List Row) (B : List RRow) : List Str := (List.range R.length).flatMap fun i => (rnm B).filter fun n => decide (depthN R B n = R.length - i)
theorem WayIs.depthL {R : List Row} (g : GoodRows R) {r : RRow} {m k : Nat} (h : WayIs R r m k) : 1 ≤ (course R (lastW (wayB R r))).length ∧ (course R (lastW (wayB R r))).length ≤ R.length := by
  have a1 := h.one; have a2 := h.most; have a3 := h.c.most
  rw [h.last, h.depth g (by omega)]
  omega
theorem depth_ok {R : List Row} (g : GoodRows R) {B : List RRow} (b : RtOk R B) {n : Str} (hn : n ∈ rnm B) : 1 ≤ depthN R B n ∧ depthN R B n ≤ R.length := by
  obtain ⟨r, hr, rfl⟩ := List.mem_map.mp hn
  obtain ⟨m, k, w⟩ := way_is g (b.inn r hr) (b.last r hr)
  unfold depthN
  rw [way_of b.nd hr]
  exact w.depthL g
theorem rem_pw {R : List Row} {B : List RRow} : (remR R B).Pairwise fun x y => depthN R B y ≤ depthN R B x := by
  unfold remR
  rw [List.pairwise_flatMap]
  refine ⟨fun i hi => ?_, ?_⟩
  · rw [List.pairwise_filter]
    refine List.pairwise_of_forall fun x y h1 h2 => ?_
    rw [of_decide_eq_true h1, of_decide_eq_true h2]
    exact Nat.le_refl _
  · refine List.Pairwise.imp_of_mem (fun {i k} hi hk hik a ha b hb => ?_) (List.pairwise_lt_range (n := R.length))
    rw [of_decide_eq_true (List.mem_filter.mp ha).2, of_decide_eq_true (List.mem_filter.mp hb).2]
    omega
theorem rem_mem {R : List Row} (g : GoodRows R) {B : List RRow} (b : RtOk R B) {n : Str} : n ∈ remR R B ↔ n ∈ rnm B := by
  unfold remR
  rw [List.mem_flatMap]
  constructor
  · rintro ⟨i, _, h⟩
    exact (List.mem_filter.mp h).1
  · intro h
    obtain ⟨h1, h2⟩ := depth_ok g b h
    exact ⟨R.length - depthN R B n, List.mem_range.mpr (by omega), List.mem_filter.mpr ⟨h, decide_eq_true (by omega)⟩⟩
theorem rem_nd {R : List Row} (g : GoodRows R) {B : List RRow} (b : RtOk R B) : (remR R B).Nodup := by
  unfold remR List.Nodup
  rw [List.pairwise_flatMap]
  refine ⟨fun i hi => List.Pairwise.filter _ b.nd, ?_⟩
  refine List.Pairwise.imp_of_mem (fun {i k} hi hk hik a ha c hc e => ?_) (List.pairwise_lt_range (n := R.length))
  have h1 := of_decide_eq_true (List.mem_filter.mp ha).2
  have h2 := of_decide_eq_true (List.mem_filter.mp hc).2
  rw [e, h2] at h1
  have hi := List.mem_range.mp hi
  have hk := List.mem_range.mp hk
  omega
theorem rem_perm {R : List Row} (g : GoodRows R) {B : List RRow} (b : RtOk R B) : (remR R B).Perm (rnm B) :=
  (List.perm_ext_iff_of_nodup (rem_nd g b) b.nd).mpr fun _ => rem_mem g b
/-! ### meeting -/
def meetL (R : List Row) (B : List RRow) (a b : Str) : List Str := (wayN R B a).filter fun y => decide (y ∈ wayN R B b)
def meetB (R : List Row) (B : List RRow) (a b : Str) : Bool := (wayN R B a).any fun y => decide (y ∈ wayN R B b)
theorem meet_iff {R : List Row} {B : List RRow} {a b : Str} : meetB R B a b = true ↔ ∃ y, y ∈ wayN R B a ∧ y ∈ wayN R B b := by
  unfold meetB
  rw [List.any_eq_true]
  constructor
  · rintro ⟨y, h1, h2⟩
    exact ⟨y, h1, of_decide_eq_true h2⟩
  · rintro ⟨y, h1, h2⟩
    exact ⟨y, h1, decide_eq_true h2⟩
theorem meet_symm {R : List Row} {B : List RRow} (a b : Str) : meetB R B a b = meetB R B b a := by
  rw [Bool.eq_iff_iff, meet_iff, meet_iff]
  exact ⟨fun ⟨y, h1, h2⟩ => ⟨y, h2, h1⟩, fun ⟨y, h1, h2⟩ => ⟨y, h2, h1⟩⟩
theorem meetL_any {R : List Row} {B : List RRow} {a b : Str} : (meetL R B a b ≠ []) ↔ meetB R B a b = true := by
  rw [meet_iff]
  unfold meetL
  constructor
  · intro h
    obtain ⟨y, hy⟩ := List.exists_mem_of_ne_nil _ h
    obtain ⟨h1, h2⟩ := List.mem_filter.mp hy
    exact ⟨y, h1, of_decide_eq_true h2⟩
  · rintro ⟨y, h1, h2⟩ e
    have : y ∈ (wayN R B a).filter fun y => decide (y ∈ wayN R B b) := List.mem_filter.mpr ⟨h1, decide_eq_true h2⟩
    rw [e] at this
    cases this
/-- taken away earlier and met: the later one passes the last weir of the earlier -/
theorem meet_rem {R : List Row} (g : GoodRows R) {B : List RRow} (b : RtOk R B) {x y : Str} (hx : x ∈ rnm B) (hy : y ∈ rnm B) (hd : depthN R B y ≤ depthN R B x) (h : meetB R B x y = true) : lastW (wayN R B x) ∈ wayN R B y := by
  obtain ⟨z, h1, h2⟩ := meet_iff.mp h
  obtain ⟨r, hr, rfl⟩ := List.mem_map.mp hx
  obtain ⟨q, hq, rfl⟩ := List.mem_map.mp hy
  obtain ⟨m1, k1, w1⟩ := way_is g (b.inn r hr) (b.last r hr)
  obtain ⟨m2, k2, w2⟩ := way_is g (b.inn q hq) (b.last q hq)
  unfold depthN at hd
  rw [way_of b.nd hr] at hd h1 ⊢
  rw [way_of b.nd hq] at hd h2 ⊢
  exact meet_last g w1 w2 h1 h2 hd
theorem last_in {R : List Row} (g : GoodRows R) {B : List RRow} (b : RtOk R B) {x : Str} (hx : x ∈ rnm B) : lastW (wayN R B x) ∈ wayN R B x ∧ lastW (wayN R B x) ∈ nmsOf R := by
  obtain ⟨r, hr, rfl⟩ := List.mem_map.mp hx
  obtain ⟨m1, k1, w1⟩ := way_is g (b.inn r hr) (b.last r hr)
  rw [way_of b.nd hr]
  exact ⟨w1.lastIn, w1.sub _ w1.lastIn⟩
theorem way_sub {R : List Row} (g : GoodRows R) {B : List RRow} (b : RtOk R B) {x : Str} (hx : x ∈ rnm B) : ∀ y ∈ wayN R B x, y ∈ nmsOf R := by
  obtain ⟨r, hr, rfl⟩ := List.mem_map.mp hx
  obtain ⟨m1, k1, w1⟩ := way_is g (b.inn r hr) (b.last r hr)
  rw [way_of b.nd hr]
  exact w1.sub
def passR (R : List Row) (B : List RRow) (y : Str) : List Str := (rnm B).filter fun n => decide (y ∈ wayN R B n)
end K0
end
section
set_option Elab.async false
set_option linter.all false
set_option maxRecDepth 100000
namespace K0
open PySem PySem.Spec PyProof.Rows L2
/-! ### what a river is asked, for weirs that there are -/
abbrev sIsDown : Stmt := inClass sRiver 11
abbrev sWay : Stmt := inClass sRiver 13
/-- River's own special method -/
structure Sc (K : PySem.W.Frag) (Cr : Addr) : Prop where
  has : ∃ f fd, FnM K "__contains__" "River.__contains__" sContains f fd ∧ PySem.W.findIn K (.ref Cr) "__contains__" = some (some (.ref f)) ∧ PySem.W.isFn K (.ref f) = true
abbrev GHasS (Cr : Addr) : Hp → Addr → V → Bool → Prop := fun H p x b => ∃ AR y, RivAt Cr H p AR ∧ x = .str y ∧ b = decide (y ∈ namesOf AR)
theorem scContains : FnScope ["self", "x"] ["self", "x"] (defScope sContains) := ⟨rfl, rfl, rfl, by decide +kernel, rfl, by decide +kernel, by decide +kernel⟩
theorem scNeed : FnScope ["river", "weir"] ["river", "weir"] (defScope sNeed) := ⟨rfl, rfl, rfl, by decide +kernel, rfl, by decide +kernel, by decide +kernel⟩
theorem scCourseM : FnScope ["self", "weir"] ["self", "weir"] (defScope sCourseM) := ⟨rfl, rfl, rfl, by decide +kernel, rfl, by decide +kernel, by decide +kernel⟩
theorem scDepth : FnScope ["self", "weir"] ["self", "weir"] (defScope sDepth) := ⟨rfl, rfl, rfl, by decide +kernel, rfl, by decide +kernel, by decide +kernel⟩
theorem scIsDown : FnScope ["self", "high", "low"] ["self", "high", "low"] (defScope sIsDown) := ⟨rfl, rfl, rfl, by decide +kernel, rfl, by decide +kernel, by decide +kernel⟩
theorem scWay : FnScope ["self", "intake", "last", "course"] ["self", "intake", "last"] (defScope sWay) := ⟨rfl, rfl, rfl, by decide +kernel, rfl, by decide +kernel, by decide +kernel⟩
theorem scRows : FnScope ["self"] ["self"] (defScope sRows) := ⟨rfl, rfl, rfl, by decide +kernel, rfl, by decide +kernel, by decide +kernel⟩
/-- a tuple of texts -/
def TxR (H : Hp) (t : Addr) (l : List Str) : Prop := Rd H t (.tup (l.map V.str))
theorem TxR.same {H H' : Hp} {t : Addr} {l : List Str} (h : TxR H t l) (s : Same H H') : TxR H' t l := same_rd s h
def spNeedS (Cr : Addr) : Sp := fun vs H Q _ => ∃ (p : Addr) (y : Str) (AR : List (Addr × Row)), vs = [.ref p, .str y] ∧ RivAt Cr H p AR ∧ y ∈ namesOf AR ∧ Q .non H
def spCourseS (Cr : Addr) : Sp := fun vs H Q _ => ∃ (p : Addr) (y : Str) (AR : List (Addr × Row)), vs = [.ref p, .str y] ∧ RivAt Cr H p AR ∧ y ∈ namesOf AR ∧ ∀ t, TxR H t (course (rowsOf AR) y) → Q (.ref t) H
def spDepthS (Cr : Addr) : Sp := fun vs H Q _ => ∃ (p : Addr) (y : Str) (AR : List (Addr × Row)), vs = [.ref p, .str y] ∧ RivAt Cr H p AR ∧ y ∈ namesOf AR ∧ Q (.int ((course (rowsOf AR) y).length : Int)) H
def spDownS (Cr : Addr) : Sp := fun vs H Q _ => ∃ (p : Addr) (a b : Str) (AR : List (Addr × Row)), vs = [.ref p, .str a, .str b] ∧ RivAt Cr H p AR ∧ a ∈ namesOf AR ∧ b ∈ namesOf AR ∧ Q (.bl (decide (b ∈ course (rowsOf AR) a))) H
def spWayS (Cr : Addr) : Sp := fun vs H Q _ => ∃ (p : Addr) (r : RRow) (AR : List (Addr × Row)), vs = [.ref p, .str r.2.1, .str r.2.2] ∧ RivAt Cr H p AR ∧ GoodRows (rowsOf AR) ∧ r.2.1 ∈ namesOf AR ∧ (r.2.2 = "sea" ∨ r.2.2 ∈ course (rowsOf AR) r.2.1) ∧ ∀ t H', Same H H' → TxR H' t (wayB (rowsOf AR) r) → Q (.ref t) H'
def spRows (Cr : Addr) : Sp := fun vs H Q _ => ∃ (p : Addr) (AR : List (Addr × Row)), vs = [.ref p] ∧ RivAt Cr H p AR ∧ ∀ l, H l = none → Q (.ref l) (upd H l (.lst (AR.map fun q => .ref q.1)))
section
variable {P : Program} {w : World} {K : PySem.W.Frag} {mg : Str → Option Value} {base : Heap} {tS tM tL : Tok}
theorem ok_containsS {f Cr : Addr} {fd : FuncData} (F : FnM K "__contains__" "River.__contains__" sContains f fd) (T : Rv K mg Cr) (B : Bl mg) : FnOk P w K mg base CX0 1 f fd ["self", "x"] (spHas (GHasS Cr)) := by
  refine F.ok scContains (fun vs H Q E h => ?_) (fun cdv A outer s H vs Q E hr h => ?_)
  · obtain ⟨p, x, b, rfl, _⟩ := h
    rfl
  · obtain ⟨p, x, b, rfl, ⟨AR, y, R, rfl, rfl⟩, k⟩ := h
    have hu := hu_of hr
    refine ⟨_, PSs.nox (pss_one
      (ps_ret (pe_and (pe_callB call_isi (by rfl) B.isinstance (by decide +kernel) (pa_cons (pv 1) (pa_cons (pe_bltn (v := .ty "str") (by rfl) B.str (by decide +kernel) rfl) pa_nil))) (pe_one (pe_cmp (pc_din hu (pv 1) (fldK (K := K) (pv 0) rfl)) rfl))))), ?_⟩
    obtain ⟨dx, tw, tr, db, dc, da, du, o, h1, h2, h3, h4, h5, h6, h7, h8, h9⟩ := R.ex
    refine ⟨_, rfl, .str y, .ty "str", _, _, true, rfl, .ty "str", .base (.str y), kit_ty (by decide +kernel), true, rfl, iteT ?_⟩
    refine ⟨_, rfl, _, rfl, p, Cr, dx, _, _, rfl, h1, T.cl, T._below, g7b _ _ _ _ _ _ _, ?_⟩
    by_cases hy : y ∈ namesOf AR
    · refine ⟨db, some (.str (lowR (rowsOf AR) y)), rfl, dget_rn (.inl h5) hy, ?_⟩
      rw [decide_eq_true hy] at k
      exact k
    · refine ⟨db, none, rfl, .inl ⟨_, Sum.inr y, .inl h5, rfl, (kmap_not hy).symm⟩, ?_⟩
      rw [decide_eq_false hy] at k
      exact k
theorem ok_needS {f Cr : Addr} {fd : FuncData} (F : FnP K "need_weir" sNeed f fd) (M : Sc K Cr) (T : Rv K mg Cr) (B : Bl mg) : FnOk P w K mg base CX0 2 f fd ["river", "weir"] (spNeedS Cr) := by
  obtain ⟨fC, fdC, FC, hs, hf⟩ := M.has
  have GC : FnOk P w K mg base CX0 1 fC fdC ["self", "x"] (spHas (GHasS Cr)) := ok_containsS FC T B
  have bC : Binds K fdC ["self", "x"] [] := FC.bindsN fun _ _ _ _ _ _ us hl => match us, hl with | [_, _], _ => rfl
  refine F.ok scNeed (fun vs H Q E h => ?_) (fun cdv A outer s H vs Q E hr h => ?_)
  · obtain ⟨p, y, AR, rfl, _⟩ := h
    rfl
  · obtain ⟨p, y, AR, rfl, R, hy, k⟩ := h
    refine ⟨_, PSs.nox (pss_one
      (ps_if (pt_cmpR (k0_notIn_own (K := K) GC hr hs hf bC) (pv 1) (pv 0) (by rfl)) (pss_one
      ps_never) pss_nil)), ?_⟩
    obtain ⟨dx, tw, tr, db, dc, da, du, o, h1, _⟩ := id R.ex
    refine ⟨_, rfl, _, rfl, p, dx, _, true, rfl, h1, ⟨AR, y, R, rfl, (decide_eq_true hy).symm⟩, _, rfl, ?_⟩
    exact iteF k
/-- need_weir and what it promises -/
structure NdS (P : Program) (w : World) (K : PySem.W.Frag) (mg : Str → Option Value) (base : Heap) (Cr : Addr) : Prop where
  ex : ∃ f fd, FnP K "need_weir" sNeed f fd ∧ mg "need_weir" = some (.ref f) ∧ FnOk P w K mg base CX0 2 f fd ["river", "weir"] (spNeedS Cr)
theorem ok_courseS {f Cr : Addr} {fd : FuncData} (F : FnM K "course" "River.course" sCourseM f fd) (D : NdS P w K mg base Cr) (T : Rv K mg Cr) : FnOk P w K mg base CX0 3 f fd ["self", "weir"] (spCourseS Cr) := by
  obtain ⟨fN, fdN, Fneed_weir, gneed_weir, Gneed_weir⟩ := D.ex
  have bneed_weir : Binds K fdN ["river", "weir"] [] := Fneed_weir.bindsN fun _ _ _ _ _ _ us hl => match us, hl with | [_, _], _ => rfl
  refine F.ok scCourseM (fun vs H Q E h => ?_) (fun cdv A outer s H vs Q E hr h => ?_)
  · obtain ⟨p, y, AR, rfl, _⟩ := h
    rfl
  · obtain ⟨p, y, AR, rfl, R, hy, k⟩ := h
    have hu := hu_of hr
    have hrneed_weir : Room 2 _ := hr
    refine ⟨_, PSs.nox (pss_cons
      (ps_expr (pe_call Gneed_weir hrneed_weir (by rfl) gneed_weir Fneed_weir.kp bneed_weir .nil pass0 (pa_cons (pv 0) (pa_cons (pv 1) pa_nil))))
      (pss_one
      (ps_ret (pe_dget hu (fldK (K := K) (pv 0) rfl) (pv 1) (fun _ _ => rfl))))), ?_⟩
    obtain ⟨dx, tw, tr, db, dc, da, du, o, h1, h2, h3, h4, h5, h6, h7, h8, h9⟩ := id R.ex
    obtain ⟨ta, q1, q2⟩ := h6.ex
    refine ⟨_, rfl, _, rfl, p, y, AR, rfl, R, hy, ?_⟩
    exact ⟨_, rfl, p, Cr, dx, _, _, rfl, h1, T.cl, T._courses, g7c _ _ _ _ _ _ _, _, rfl, dc, _, rfl, dget_rn (.inl q1) hy, k _ (q2 y hy).rd⟩
theorem ok_depthS {f fC Cr : Addr} {fd fdC : FuncData} (F : FnM K "depth" "River.depth" sDepth f fd) (FC : FnM K "course" "River.course" sCourseM fC fdC) (Mcourse : Meth K Cr "course" fC) (D : NdS P w K mg base Cr) (T : Rv K mg Cr) (B : Bl mg) : FnOk P w K mg base CX0 4 f fd ["self", "weir"] (spDepthS Cr) := by
  have Gcourse : FnOk P w K mg base CX0 3 fC fdC ["self", "weir"] (spCourseS Cr) := ok_courseS FC D T
  have bcourse : Binds K fdC ["self", "weir"] [] := FC.bindsN fun _ _ _ _ _ _ us hl => match us, hl with | [_, _], _ => rfl
  refine F.ok scDepth (fun vs H Q E h => ?_) (fun cdv A outer s H vs Q E hr h => ?_)
  · obtain ⟨p, y, AR, rfl, _⟩ := h
    rfl
  · obtain ⟨p, y, AR, rfl, R, hy, k⟩ := h
    have hrcourse : Room 3 _ := hr
    refine ⟨_, PSs.nox (pss_one
      (ps_ret (pe_callB (lenK (K := K)) (by rfl) B.len PySem.boot_len (pa_cons (pe_meth (pv 0) T.cl Mcourse Gcourse hrcourse bcourse .nil pass0 (pa_cons (pv 1) pa_nil)) pa_nil)))), ?_⟩
    obtain ⟨dx, tw, tr, db, dc, da, du, o, h1, h2, h3, h4, h5, h6, h7, h8, h9⟩ := id R.ex
    refine ⟨_, rfl, p, dx, _, rfl, h1, g7no _ _ _ _ _ _ _ (by decide +kernel) (by decide +kernel) (by decide +kernel) (by decide +kernel) (by decide +kernel) (by decide +kernel) (by decide +kernel), _, rfl, p, y, AR, rfl, R, hy, fun t ht => ?_⟩
    refine ⟨t, _, rfl, .inr (.inl ht), ?_⟩
    rw [List.length_map]
    exact k
theorem ok_isdownS {f Cr : Addr} {fd : FuncData} (F : FnM K "is_down" "River.is_down" sIsDown f fd) (D : NdS P w K mg base Cr) (T : Rv K mg Cr) : FnOk P w K mg base CX0 3 f fd ["self", "high", "low"] (spDownS Cr) := by
  obtain ⟨fN, fdN, Fneed_weir, gneed_weir, Gneed_weir⟩ := D.ex
  have bneed_weir : Binds K fdN ["river", "weir"] [] := Fneed_weir.bindsN fun _ _ _ _ _ _ us hl => match us, hl with | [_, _], _ => rfl
  refine F.ok scIsDown (fun vs H Q E h => ?_) (fun cdv A outer s H vs Q E hr h => ?_)
  · obtain ⟨p, a, b, AR, rfl, _⟩ := h
    rfl
  · obtain ⟨p, a, b, AR, rfl, R, ha, hb, k⟩ := h
    have hu := hu_of hr
    have hrneed_weir : Room 2 _ := hr
    refine ⟨_, PSs.nox (pss_cons
      (ps_expr (pe_call Gneed_weir hrneed_weir (by rfl) gneed_weir Fneed_weir.kp bneed_weir .nil pass0 (pa_cons (pv 0) (pa_cons (pv 1) pa_nil))))
      (pss_cons
      (ps_expr (pe_call Gneed_weir hrneed_weir (by rfl) gneed_weir Fneed_weir.kp bneed_weir .nil pass0 (pa_cons (pv 0) (pa_cons (pv 2) pa_nil))))
      (pss_one
      (ps_ret (pe_cmpR (inK (K := K)) (pv 2) (pe_dget hu (fldK (K := K) (pv 0) rfl) (pv 1) (fun _ _ => rfl)) (by rfl)))))), ?_⟩
    obtain ⟨dx, tw, tr, db, dc, da, du, o, h1, h2, h3, h4, h5, h6, h7, h8, h9⟩ := id R.ex
    obtain ⟨ta, q1, q2⟩ := h6.ex
    refine ⟨_, rfl, _, rfl, p, a, AR, rfl, R, ha, ?_⟩
    refine ⟨_, rfl, _, rfl, p, b, AR, rfl, R, hb, ?_⟩
    refine ⟨_, rfl, _, rfl, p, Cr, dx, _, _, rfl, h1, T.cl, T._courses, g7c _ _ _ _ _ _ _, _, rfl, dc, _, rfl, dget_rn (.inl q1) ha, ta a, _, rfl, .inr (.inl (q2 a ha).rd), rfl, flat_strs _, ?_⟩
    rw [inV_str]
    exact k
theorem ok_wayS {f Cr : Addr} {fd : FuncData} (F : FnM K "way" "River.way" sWay f fd) (D : NdS P w K mg base Cr) (T : Rv K mg Cr) (C : Gc mg tS tM tL) : FnOk P w K mg base CX0 3 f fd ["self", "intake", "last"] (spWayS Cr) := by
  obtain ⟨fN, fdN, Fneed_weir, gneed_weir, Gneed_weir⟩ := D.ex
  have bneed_weir : Binds K fdN ["river", "weir"] [] := Fneed_weir.bindsN fun _ _ _ _ _ _ us hl => match us, hl with | [_, _], _ => rfl
  refine F.ok scWay (fun vs H Q E h => ?_) (fun cdv A outer s H vs Q E hr h => ?_)
  · obtain ⟨p, r, AR, rfl, _⟩ := h
    rfl
  · obtain ⟨p, r, AR, rfl, R, hG, ha, hl0, k⟩ := h
    have hu := hu_of hr
    have hrneed_weir : Room 2 _ := hr
    refine ⟨_, PSs.nox (pss_cons
      (ps_expr (pe_call Gneed_weir hrneed_weir (by rfl) gneed_weir Fneed_weir.kp bneed_weir .nil pass0 (pa_cons (pv 0) (pa_cons (pv 1) pa_nil))))
      (pss_cons
      (ps_set (i := 3) scWay.nd rfl (Or.inl rfl) (pe_dget hu (fldK (K := K) (pv 0) rfl) (pv 1) (fun _ _ => rfl)))
      (pss_cons
      (ps_if (pt_cmpR op_eq (pv 2) (pe_glob (v := .str "sea") (by rfl) C.SEA ⟨_, rfl⟩) (nomark _)) (pss_one
      (ps_ret (pv 3))) pss_nil)
      (pss_cons
      (ps_expr (pe_call Gneed_weir hrneed_weir (by rfl) gneed_weir Fneed_weir.kp bneed_weir .nil pass0 (pa_cons (pv 0) (pa_cons (pv 2) pa_nil))))
      (pss_cons
      (ps_if (pt_cmpR (notInK (K := K)) (pv 2) (pv 3) (by rfl)) (pss_one
      ps_never) pss_nil)
      (pss_one
      (ps_ret (pe_slice sl_tupA (pv 3) po_none (po_some (pe_op op_add (k0_bmT PySem.F.slot_tuple_index PySem.F.type_tuple_index mt_tup_index (pv 3) (pa_cons (pv 2) pa_nil)) pe_int)))))))))), ?_⟩
    obtain ⟨dx, tw, tr, db, dc, da, du, o, h1, h2, h3, h4, h5, h6, h7, h8, h9⟩ := id R.ex
    obtain ⟨ta, q1, q2⟩ := h6.ex
    refine ⟨_, rfl, _, rfl, p, r.2.1, AR, rfl, R, ha, ?_⟩
    refine ⟨_, rfl, p, Cr, dx, _, _, rfl, h1, T.cl, T._courses, g7c _ _ _ _ _ _ _, _, rfl, dc, _, rfl, dget_rn (.inl q1) ha, ?_⟩
    refine ⟨_, rfl, rfl, _, rfl, ?_⟩
    refine ite2 (fun e => ?_) (fun e => ?_)
    · have e : r.2.2 = "sea" := V.str.inj (of_decide_eq_true e)
      refine ⟨_, rfl, k _ _ (.refl _) ?_⟩
      unfold wayB
      rw [if_pos e]
      exact (q2 _ ha).rd
    · have e : ¬ r.2.2 = "sea" := fun z => e (decide_eq_true (congrArg V.str z))
      have hin := hl0.resolve_left e
      have hb : r.2.2 ∈ namesOf AR := course_sub hG ha _ hin
      refine ⟨_, rfl, _, rfl, p, r.2.2, AR, rfl, R, hb, ?_⟩
      refine ⟨_, rfl, _, rfl, ta r.2.1, _, rfl, .inr (.inl (q2 _ ha).rd), rfl, flat_strs _, _, rfl, ?_⟩
      rw [inV_str, decide_eq_true hin]
      refine iteF ?_
      have hlt := List.idxOf_lt_length_iff.mpr hin
      have hat : (course (rowsOf AR) r.2.1)[(course (rowsOf AR) r.2.1).idxOf r.2.2]? = some r.2.2 := by
        rw [List.getElem?_eq_getElem hlt, List.getElem_idxOf]
      have hfst : ∀ m, m < (course (rowsOf AR) r.2.1).idxOf r.2.2 → (course (rowsOf AR) r.2.1)[m]? ≠ some r.2.2 := fun m hm e => by
        have q := List.not_of_lt_findIdx (p := fun z => z == r.2.2) (xs := course (rowsOf AR) r.2.1) hm
        obtain ⟨hml, e2⟩ := List.getElem?_eq_some_iff.mp e
        rw [e2, beq_self_eq_true] at q
        cases q
      have hl : ((course (rowsOf AR) r.2.1).map V.str).length = (course (rowsOf AR) r.2.1).length := List.length_map _
      have haf := q2 r.2.1 ha
      obtain ⟨ot, pt, et⟩ := id haf
      have hmost : (course (rowsOf AR) r.2.1).length ≤ 40 := by
        obtain ⟨m, c⟩ := course_is hG ha
        rw [c.len]
        exact Nat.le_trans c.most hG.most
      have kw : ∀ t H', Same H H' → TxR H' t ((course (rowsOf AR) r.2.1).take ((course (rowsOf AR) r.2.1).idxOf r.2.2 + 1)) → Q (.ref t) H' := fun t H' s ht => by
        refine k t H' s ?_
        unfold wayB
        rw [if_neg e]
        exact ht
      refine ⟨_, rfl, ?_⟩
      refine ⟨_, rfl, ⟨ta r.2.1, ot, _, rfl, et, pt⟩, ?_⟩
      refine ⟨_, rfl, ta r.2.1, course (rowsOf AR) r.2.1, r.2.2, (course (rowsOf AR) r.2.1).idxOf r.2.2, rfl, rfl, .inl haf.rd, hat, hfst, ?_⟩
      refine ⟨_, _, rfl, rfl, ?_⟩
      have es : HT.sIx ((course (rowsOf AR) r.2.1).map V.str).length ((course (rowsOf AR) r.2.1).map V.str).length (some (((course (rowsOf AR) r.2.1).idxOf r.2.2 : Int) + 1)) = (course (rowsOf AR) r.2.1).idxOf r.2.2 + 1 := by
        have e := HT.sIx_nat ((course (rowsOf AR) r.2.1).map V.str).length ((course (rowsOf AR) r.2.1).map V.str).length ((course (rowsOf AR) r.2.1).idxOf r.2.2 + 1)
        rw [Int.natCast_add] at e
        have e : HT.sIx ((course (rowsOf AR) r.2.1).map V.str).length ((course (rowsOf AR) r.2.1).map V.str).length (some (((course (rowsOf AR) r.2.1).idxOf r.2.2 : Int) + 1)) = min ((course (rowsOf AR) r.2.1).idxOf r.2.2 + 1) ((course (rowsOf AR) r.2.1).map V.str).length := e
        rw [e, hl]
        omega
      refine ⟨_, rfl, ta r.2.1, _, rfl, .inl haf.rd, fun hw => ?_, fun hw t nt => ?_⟩
      · have hw2 := hw.2
        rw [es, hl] at hw2
        refine kw _ H (.refl _) ?_
        rw [List.take_of_length_le (by omega)]
        exact haf.rd
      · refine kw _ _ (same_upd nt) (.inl ?_)
        rw [upd_same]
        unfold cutV
        rw [es, HT.sIx_none, List.drop_zero, Nat.sub_zero, List.map_take]
theorem ok_rows {f Cr : Addr} {fd : FuncData} (F : FnM K "rows" "River.rows" sRows f fd) (T : Rv K mg Cr) (B : Bl mg) : FnOk P w K mg base CX0 1 f fd ["self"] (spRows Cr) := by
  refine F.ok scRows (fun vs H Q E h => ?_) (fun cdv A outer s H vs Q E hr h => ?_)
  · obtain ⟨p, AR, rfl, _⟩ := h
    rfl
  · obtain ⟨p, AR, rfl, R, k⟩ := h
    refine ⟨_, PSs.nox (pss_one
      (ps_ret (pe_callTy (listK (K := K)) (by rfl) B.list (by decide +kernel) (pa_cons (fldK (K := K) (pv 0) rfl) pa_nil)))), ?_⟩
    obtain ⟨dx, tw, tr, db, dc, da, du, o, h1, h2, h3, h4, h5, h6, h7, h8, h9⟩ := R.ex
    exact ⟨_, rfl, p, Cr, dx, _, _, rfl, h1, T.cl, T._rows, g7r _ _ _ _ _ _ _, tr, _, rfl, .inr (.inl (.inl h3)), fun l nl => k l nl⟩
end
end K0
end
section
set_option Elab.async false
set_option linter.all false
set_option maxRecDepth 100000
namespace L2
open PySem PySem.Spec PyProof.Rows
/-! ### comprehensions whose turns only lay new objects -/
/-- what a turn may end in -/
def Put1 (D : Addr) (acc acc' : List V) (H : Hp) (Nx : Hp → Prop) : Prop := ∀ (y : V) (H4 : Hp), Same H H4 → acc' = acc ++ [y] → ∃ a, H4 D = some (.lst a) ∧ a.length < sizeLine ∧ Nx (upd H4 D (.lst (a ++ [y])))
def Skip1 (acc acc' : List V) (H : Hp) (Nx : Hp → Prop) : Prop := ∀ H3, Same H H3 → acc' = acc → Nx H3
def Out1 (H1 : Hp) (D : Addr) (out : Nat → List V) (i : Nat) (H : Hp) : Prop := Same H1 H ∧ H D = some (.lst (out i))
theorem out1_0 {H1 : Hp} {D : Addr} {out : Nat → List V} (hD : H1 D = none) (h0 : out 0 = []) : Out1 H1 D out 0 (upd H1 D (.lst [])) :=
  ⟨fun b o hb => by rw [upd_ne (ne_of_none hb hD)]; exact hb, by rw [upd_same, h0]⟩
theorem out1_put {H1 H : Hp} {D : Addr} {out : Nat → List V} {i : Nat} (hD : H1 D = none) (hl : (out i).length < sizeLine) (h : Out1 H1 D out i H) : Put1 D (out i) (out (i + 1)) H (Out1 H1 D out (i + 1)) := fun y H4 s e => by
  refine ⟨_, s _ _ h.2, hl, fun b o hb => ?_, ?_⟩
  · rw [upd_ne (ne_of_none hb hD)]
    exact s _ _ (h.1 _ _ hb)
  · rw [upd_same, e]
theorem out1_skip {H1 H : Hp} {D : Addr} {out : Nat → List V} {i : Nat} (h : Out1 H1 D out i H) : Skip1 (out i) (out (i + 1)) H (Out1 H1 D out (i + 1)) := fun H3 s e => ⟨h.1.trans s, by rw [s _ _ h.2, e]⟩
section
variable {K : PySem.W.Frag} {a : Addr} {xs : List V} {g : TG} {tt : TT} {te : TE} {vs : List Nat} {σ : St} {H1 : Hp} {D : Addr} {Qd : Hp → Prop}
theorem lc_listO (hD : H1 D = none) (out : Nat → List V) (h0 : out 0 = []) (hz : ∀ i, i ≤ xs.length → (out i).length < sizeLine) (hl : SqL K H1 a xs)
    (hs : ∀ i x H (Nx : Hp → Prop), xs[i]? = some x → Same H1 H → Put1 D (out i) (out (i + 1)) H Nx → Skip1 (out i) (out (i + 1)) H Nx → g x (wipe σ vs) H fun σ2 H2 => wipe σ2 vs = wipe σ vs ∧ tt σ2 H2 fun b H3 =>
      if b = true then te σ2 H3 fun y H4 => ∃ acc, H4 D = some (.lst acc) ∧ acc.length < sizeLine ∧ Nx (upd H4 D (.lst (acc ++ [y]))) else Nx H3) (hd : ∀ H, Same H1 H → H D = some (.lst (out xs.length)) → Qd H) :
    ∃ W : Nat → Nat → Hp → Prop, (∃ m, W 0 m (upd H1 D (.lst []))) ∧ ∀ i m H, W i m H →
      ((Itl K a).stop i H ∧ Qd H) ∨ ((Itl K a).go i H ∧ ∃ Nx : Hp → Prop, (∀ H', Nx H' → ∃ m', m' < m ∧ W (i + 1) m' H') ∧ ∀ x H', (Itl K a).yld i H x H' → g x (wipe σ vs) H' fun σ2 H2 => wipe σ2 vs = wipe σ vs ∧ tt σ2 H2 fun b H3 =>
        if b = true then te σ2 H3 fun y H4 => ∃ acc, H4 D = some (.lst acc) ∧ acc.length < sizeLine ∧ Nx (upd H4 D (.lst (acc ++ [y]))) else Nx H3) :=
  lc_list (Out1 H1 D out) (out1_0 hD h0) (fun i H _ h => h.1.seq hl) (fun i x H hx h => hs i x H _ hx h.1 (out1_put hD (hz i (by have := (List.getElem?_eq_some_iff.mp hx).1; omega)) h) (out1_skip h)) (fun H h => hd H h.1 h.2)
theorem lc_tupO (hD : H1 D = none) (out : Nat → List V) (h0 : out 0 = []) (hz : ∀ i, i ≤ xs.length → (out i).length < sizeLine) (hl : ∀ H, Same H1 H → SqT K H a xs)
    (hs : ∀ i x H (Nx : Hp → Prop), xs[i]? = some x → Same H1 H → Put1 D (out i) (out (i + 1)) H Nx → Skip1 (out i) (out (i + 1)) H Nx → g x (wipe σ vs) H fun σ2 H2 => wipe σ2 vs = wipe σ vs ∧ tt σ2 H2 fun b H3 =>
      if b = true then te σ2 H3 fun y H4 => ∃ acc, H4 D = some (.lst acc) ∧ acc.length < sizeLine ∧ Nx (upd H4 D (.lst (acc ++ [y]))) else Nx H3) (hd : ∀ H, Same H1 H → H D = some (.lst (out xs.length)) → Qd H) :
    ∃ W : Nat → Nat → Hp → Prop, (∃ m, W 0 m (upd H1 D (.lst []))) ∧ ∀ i m H, W i m H →
      ((Itt K a).stop i H ∧ Qd H) ∨ ((Itt K a).go i H ∧ ∃ Nx : Hp → Prop, (∀ H', Nx H' → ∃ m', m' < m ∧ W (i + 1) m' H') ∧ ∀ x H', (Itt K a).yld i H x H' → g x (wipe σ vs) H' fun σ2 H2 => wipe σ2 vs = wipe σ vs ∧ tt σ2 H2 fun b H3 =>
        if b = true then te σ2 H3 fun y H4 => ∃ acc, H4 D = some (.lst acc) ∧ acc.length < sizeLine ∧ Nx (upd H4 D (.lst (acc ++ [y]))) else Nx H3) :=
  lc_tup (Out1 H1 D out) (out1_0 hD h0) (fun i H _ h => hl H h.1) (fun i x H hx h => hs i x H _ hx h.1 (out1_put hD (hz i (by have := (List.getElem?_eq_some_iff.mp hx).1; omega)) h) (out1_skip h)) (fun H h => hd H h.1 h.2)
theorem lc_itO {J : It} {n : Nat} {G : Hp → Prop} {Y : Nat → Hp → V → Hp → Prop} (w : Walk J n G Y) (hD : H1 D = none) (out : Nat → List V) (h0 : out 0 = []) (hz : ∀ i, i ≤ n → (out i).length < sizeLine) (hG : ∀ H, Same H1 H → G H)
    (hs : ∀ i x H H' (Nx : Hp → Prop), i < n → Same H1 H → H D = some (.lst (out i)) → Put1 D (out i) (out (i + 1)) H Nx → Skip1 (out i) (out (i + 1)) H Nx → Y i H x H' → g x (wipe σ vs) H' fun σ2 H2 => wipe σ2 vs = wipe σ vs ∧ tt σ2 H2 fun b H3 =>
      if b = true then te σ2 H3 fun y H4 => ∃ acc, H4 D = some (.lst acc) ∧ acc.length < sizeLine ∧ Nx (upd H4 D (.lst (acc ++ [y]))) else Nx H3) (hd : ∀ H, Same H1 H → H D = some (.lst (out n)) → Qd H) :
    ∃ W : Nat → Nat → Hp → Prop, (∃ m, W 0 m (upd H1 D (.lst []))) ∧ ∀ i m H, W i m H →
      (J.stop i H ∧ Qd H) ∨ (J.go i H ∧ ∃ Nx : Hp → Prop, (∀ H', Nx H' → ∃ m', m' < m ∧ W (i + 1) m' H') ∧ ∀ x H', J.yld i H x H' → g x (wipe σ vs) H' fun σ2 H2 => wipe σ2 vs = wipe σ vs ∧ tt σ2 H2 fun b H3 =>
        if b = true then te σ2 H3 fun y H4 => ∃ acc, H4 D = some (.lst acc) ∧ acc.length < sizeLine ∧ Nx (upd H4 D (.lst (acc ++ [y]))) else Nx H3) :=
  lc_it w (Out1 H1 D out) (out1_0 hD h0) (fun i H _ h => hG H h.1) (fun i x H H' hi h y => hs i x H H' _ hi h.1 h.2 (out1_put hD (hz i (by omega)) h) (out1_skip h) y) (fun H h => hd H h.1 h.2)
end
/-! the dict forms -/
def PutK1 (D : Addr) (acc acc' : List (Key × V)) (H : Hp) (Nx : Hp → Prop) : Prop := ∀ (k : Key) (z : V) (H5 : Hp), Same H H5 → acc' = putK acc k z → ∃ kvs k', kV k = kV k' ∧ H5 D = some (.dK kvs) ∧ kvs.length < sizeLine ∧ Nx (upd H5 D (.dK (putK kvs k' z)))
def OutK (H1 : Hp) (D : Addr) (out : Nat → List (Key × V)) (i : Nat) (H : Hp) : Prop := Same H1 H ∧ H D = some (.dK (out i))
theorem outK_0 {H1 : Hp} {D : Addr} {out : Nat → List (Key × V)} (hD : H1 D = none) (h0 : out 0 = []) : OutK H1 D out 0 (upd H1 D (.dK [])) :=
  ⟨fun b o hb => by rw [upd_ne (ne_of_none hb hD)]; exact hb, by rw [upd_same, h0]⟩
theorem outK_put {H1 H : Hp} {D : Addr} {out : Nat → List (Key × V)} {i : Nat} (hD : H1 D = none) (hl : (out i).length < sizeLine) (h : OutK H1 D out i H) : PutK1 D (out i) (out (i + 1)) H (OutK H1 D out (i + 1)) := fun k z H5 s e => by
  refine ⟨_, k, rfl, s _ _ h.2, hl, fun b o hb => ?_, ?_⟩
  · rw [upd_ne (ne_of_none hb hD)]
    exact s _ _ (h.1 _ _ hb)
  · rw [upd_same, e]
section
variable {K : PySem.W.Frag} {a : Addr} {xs : List V} {g : TG} {tt : TT} {tk tv : TE} {vs : List Nat} {σ : St} {H1 : Hp} {D : Addr} {Qd : Hp → Prop}
theorem dc_tupO (hD : H1 D = none) (out : Nat → List (Key × V)) (h0 : out 0 = []) (hz : ∀ i, i ≤ xs.length → (out i).length < sizeLine) (hl : ∀ H, Same H1 H → SqT K H a xs)
    (hs : ∀ i x H (Nx : Hp → Prop), xs[i]? = some x → Same H1 H → PutK1 D (out i) (out (i + 1)) H Nx → g x (wipe σ vs) H fun σ2 H2 => wipe σ2 vs = wipe σ vs ∧ tt σ2 H2 fun b H3 =>
      if b = true then tk σ2 H3 fun y H4 => tv σ2 H4 fun z H5 => ∃ kvs k, y = kV k ∧ H5 D = some (.dK kvs) ∧ kvs.length < sizeLine ∧ Nx (upd H5 D (.dK (putK kvs k z))) else Nx H3) (hd : ∀ H, Same H1 H → H D = some (.dK (out xs.length)) → Qd H) :
    ∃ W : Nat → Nat → Hp → Prop, (∃ m, W 0 m (upd H1 D (.dK []))) ∧ ∀ i m H, W i m H →
      ((Itt K a).stop i H ∧ Qd H) ∨ ((Itt K a).go i H ∧ ∃ Nx : Hp → Prop, (∀ H', Nx H' → ∃ m', m' < m ∧ W (i + 1) m' H') ∧ ∀ x H', (Itt K a).yld i H x H' → g x (wipe σ vs) H' fun σ2 H2 => wipe σ2 vs = wipe σ vs ∧ tt σ2 H2 fun b H3 =>
        if b = true then tk σ2 H3 fun y H4 => tv σ2 H4 fun z H5 => ∃ kvs k, y = kV k ∧ H5 D = some (.dK kvs) ∧ kvs.length < sizeLine ∧ Nx (upd H5 D (.dK (putK kvs k z))) else Nx H3) :=
  dc_tup (OutK H1 D out) (outK_0 hD h0) (fun i H _ h => hl H h.1) (fun i x H hx h => hs i x H _ hx h.1 (outK_put hD (hz i (by have := (List.getElem?_eq_some_iff.mp hx).1; omega)) h)) (fun H h => hd H h.1 h.2)
theorem dc_itO {J : It} {n : Nat} {G : Hp → Prop} {Y : Nat → Hp → V → Hp → Prop} (w : Walk J n G Y) (hD : H1 D = none) (out : Nat → List (Key × V)) (h0 : out 0 = []) (hz : ∀ i, i ≤ n → (out i).length < sizeLine) (hG : ∀ H, Same H1 H → G H)
    (hs : ∀ i x H H' (Nx : Hp → Prop), i < n → Same H1 H → H D = some (.dK (out i)) → PutK1 D (out i) (out (i + 1)) H Nx → Y i H x H' → g x (wipe σ vs) H' fun σ2 H2 => wipe σ2 vs = wipe σ vs ∧ tt σ2 H2 fun b H3 =>
      if b = true then tk σ2 H3 fun y H4 => tv σ2 H4 fun z H5 => ∃ kvs k, y = kV k ∧ H5 D = some (.dK kvs) ∧ kvs.length < sizeLine ∧ Nx (upd H5 D (.dK (putK kvs k z))) else Nx H3) (hd : ∀ H, Same H1 H → H D = some (.dK (out n)) → Qd H) :
    ∃ W : Nat → Nat → Hp → Prop, (∃ m, W 0 m (upd H1 D (.dK []))) ∧ ∀ i m H, W i m H →
      (J.stop i H ∧ Qd H) ∨ (J.go i H ∧ ∃ Nx : Hp → Prop, (∀ H', Nx H' → ∃ m', m' < m ∧ W (i + 1) m' H') ∧ ∀ x H', J.yld i H x H' → g x (wipe σ vs) H' fun σ2 H2 => wipe σ2 vs = wipe σ vs ∧ tt σ2 H2 fun b H3 =>
        if b = true then tk σ2 H3 fun y H4 => tv σ2 H4 fun z H5 => ∃ kvs k, y = kV k ∧ H5 D = some (.dK kvs) ∧ kvs.length < sizeLine ∧ Nx (upd H5 D (.dK (putK kvs k z))) else Nx H3) :=
  dc_it w (OutK H1 D out) (outK_0 hD h0) (fun i H _ h => hG H h.1) (fun i x H H' hi h y => hs i x H H' _ hi h.1 h.2 (outK_put hD (hz i (by omega)) h) y) (fun H h => hd H h.1 h.2)
end
end L2
namespace K0
open PySem PySem.Spec PyProof.Rows L2
/-- a dict from names to tuples of names -/
structure TupsR (H : Hp) (c : Addr) (ns : List Str) (g : Str → List Str) : Prop where
  ex : ∃ ta : Str → Addr, H c = some (.dK (kmap (fun y => .ref (ta y)) ns)) ∧ ∀ y ∈ ns, TxR H (ta y) (g y)
theorem TupsR.same {H H' : Hp} {c : Addr} {ns : List Str} {g : Str → List Str} (t : TupsR H c ns g) (s : Same H H') : TupsR H' c ns g := by
  obtain ⟨ta, q1, q2⟩ := t.ex
  exact ⟨ta, s _ _ q1, fun x hx => (q2 x hx).same s⟩
theorem TxR.upd {H : Hp} {t D : Addr} {l : List Str} {u : HO} (h : TxR H t l) (n : t ≠ D) : TxR (upd H D u) t l := by
  rcases h with e | ⟨o, e⟩
  · exact .inl (by rw [upd_ne n]; exact e)
  · exact .inr ⟨o, by rw [upd_ne n]; exact e⟩
theorem TxR.ne {H : Hp} {t D : Addr} {l : List Str} {kvs : List (Key × V)} (h : TxR H t l) (e : H D = some (.dK kvs)) : t ≠ D := by
  rintro rfl
  rcases h with e2 | ⟨o, e2⟩
  · rw [e] at e2
    cases e2
  · rw [e] at e2
    cases e2
theorem tupsR_more {H : Hp} {D t : Addr} {ns : List Str} {g : Str → List Str} {x : Str} (T : TupsR H D ns g) (hx : x ∉ ns) (ht : TxR H t (g x)) :
    ∃ kvs, H D = some (.dK kvs) ∧ kvs.length = ns.length ∧ TupsR (upd H D (.dK (putK kvs (Sum.inr x) (.ref t)))) D (ns ++ [x]) g := by
  obtain ⟨ta, h1, h2⟩ := T.ex
  refine ⟨_, h1, kmap_len _ _, fun y => if y = x then t else ta y, ?_, fun y hy => ?_⟩
  · rw [upd_same]
    have e1 : kmap (fun y => V.ref (ta y)) ns = kmap (fun y => V.ref (if y = x then t else ta y)) ns := kmap_congr fun y hy => by
      rw [if_neg (fun e => hx (by rw [← e]; exact hy))]
    have e2 : V.ref t = (fun y => V.ref (if y = x then t else ta y)) x := by
      show V.ref t = V.ref (if x = x then t else ta x)
      rw [if_pos rfl]
    rw [e1, e2, kmap_put hx]
  · show TxR _ (if y = x then t else ta y) (g y)
    by_cases e : y = x
    · rw [if_pos e, e]
      exact ht.upd (ht.ne h1)
    · rw [if_neg e]
      have hy' : y ∈ ns := (List.mem_append.mp hy).resolve_right fun z => e (List.mem_singleton.mp z)
      have := h2 y hy'
      exact this.upd (this.ne h1)
/-- a dict comprehension from names to tuples of names -/
theorem dc_itT {J : It} {ns : List Str} {gg : Str → List Str} {G : Hp → Prop} {Y : Nat → Hp → V → Hp → Prop} (w : Walk J ns.length G Y) {g : TG} {tt : TT} {tk tv : TE} {vs : List Nat} {σ : L2.St} {H1 : Hp} {D : Addr} {Qd : Hp → Prop} (hnd : ns.Nodup) (hD : H1 D = none) (hz : ns.length ≤ 900) (hG : ∀ H, Same H1 H → G H)
    (hs : ∀ i x y H H' (Nx : Hp → Prop), ns[i]? = some y → Same H1 H → (∀ t H5, Same H H5 → TxR H5 t (gg y) → ∃ kvs k', V.str y = kV k' ∧ H5 D = some (.dK kvs) ∧ kvs.length < sizeLine ∧ Nx (upd H5 D (.dK (putK kvs k' (.ref t))))) → Y i H x H' → g x (wipe σ vs) H' fun σ2 H2 => wipe σ2 vs = wipe σ vs ∧ tt σ2 H2 fun b H3 =>
      if b = true then tk σ2 H3 fun y H4 => tv σ2 H4 fun z H5 => ∃ kvs k, y = kV k ∧ H5 D = some (.dK kvs) ∧ kvs.length < sizeLine ∧ Nx (upd H5 D (.dK (putK kvs k z))) else Nx H3) (hd : ∀ H, Same H1 H → TupsR H D ns gg → Qd H) :
    ∃ W : Nat → Nat → Hp → Prop, (∃ m, W 0 m (upd H1 D (.dK []))) ∧ ∀ i m H, W i m H →
      (J.stop i H ∧ Qd H) ∨ (J.go i H ∧ ∃ Nx : Hp → Prop, (∀ H', Nx H' → ∃ m', m' < m ∧ W (i + 1) m' H') ∧ ∀ x H', J.yld i H x H' → g x (wipe σ vs) H' fun σ2 H2 => wipe σ2 vs = wipe σ vs ∧ tt σ2 H2 fun b H3 =>
        if b = true then tk σ2 H3 fun y H4 => tv σ2 H4 fun z H5 => ∃ kvs k, y = kV k ∧ H5 D = some (.dK kvs) ∧ kvs.length < sizeLine ∧ Nx (upd H5 D (.dK (putK kvs k z))) else Nx H3) := by
  refine dc_it w (fun i H => Same H1 H ∧ TupsR H D (ns.take i) gg) ⟨same_upd hD, ⟨fun _ => 0, by rw [upd_same, List.take_zero]; rfl, fun y hy => by rw [List.take_zero] at hy; cases hy⟩⟩ (fun i H _ h => hG H h.1) (fun i x H H' hi h y => ?_) (fun H h => hd H h.1 (by have := h.2; rw [List.take_length] at this; exact this))
  have hy : ns[i]? = some ns[i] := List.getElem?_eq_getElem hi
  refine hs i x ns[i] H H' _ hy h.1 (fun t H5 s ht => ?_) y
  have hn := nodup_take hnd hy
  obtain ⟨kvs, e1, e2, e3⟩ := tupsR_more (h.2.same s) hn ht
  refine ⟨kvs, Sum.inr ns[i], rfl, e1, ?_, fun b o hb => ?_, ?_⟩
  · rw [e2, List.length_take]
    exact small1000 (by omega)
  · rw [upd_ne (ne_of_none hb hD)]
    exact s _ _ (h.1 _ _ hb)
  · rw [List.take_add_one, hy]
    exact e3
theorem take_map1 {α β : Type} {l : List α} {f : α → β} {i : Nat} {x : α} (h : l[i]? = some x) : (l.take (i + 1)).map f = (l.take i).map f ++ [f x] := by
  rw [List.take_add_one, h, List.map_append]
  rfl
theorem filt_take {α : Type} {p : α → Bool} {l : List α} {i : Nat} {x : α} (h : l[i]? = some x) : (l.take (i + 1)).filter p = (l.take i).filter p ++ (if p x = true then [x] else []) := by
  rw [List.take_add_one, h, List.filter_append]
  congr 1
  by_cases hp : p x = true
  · rw [if_pos hp, Option.toList_some, List.filter_cons_of_pos hp]
    rfl
  · rw [if_neg hp, Option.toList_some, List.filter_cons_of_neg hp]
    rfl
theorem take_size {α β : Type} {l : List α} {f : α → β} (h : l.length ≤ 900) : ∀ i : Nat, i ≤ (l.map f).length → ((l.take i).map f).length < sizeLine := fun i hi => by
  rw [List.length_map, List.length_take]
  exact small1000 (by omega)
theorem filt_size {α β : Type} {l : List α} {p : α → Bool} {f : α → β} (h : l.length ≤ 900) : ∀ i : Nat, (((l.take i).filter p).map f).length < sizeLine := fun i => by
  have := List.length_filter_le p (l.take i)
  rw [List.length_take] at this
  rw [List.length_map]
  exact small1000 (by omega)
end K0
end
section
set_option Elab.async false
set_option linter.all false
set_option maxRecDepth 100000
set_option maxHeartbeats 1000000
namespace L2
open PySem PySem.Spec PyProof.Rows PySem.Calls
/-! ### enumerate(tuple) -/
def IteT (K : PySem.W.Frag) (a : Addr) : It :=
  ⟨fun i H => ∃ (xs : List V) (x : V), SqT K H a xs ∧ xs[i]? = some x, fun i H v H' => ∃ T x, v = .ref T ∧ H T = none ∧ H' = upd H T (.tup [.int (i : Nat), x]) ∧ ∀ xs, SqT K H a xs → xs[i]? = some x, fun i H => ∃ xs : List V, SqT K H a xs ∧ xs.length ≤ i⟩
theorem turn_enumT {P : Program} {w : World} {K : PySem.W.Frag} {elts : List Expr} {kk : Nat} {tpos : Pos} (a e it : Addr) :
    Turn P w K (.Tuple elts kk tpos) (IteT K a) [e, it] e (fun i h => (∃ old, IsEnum h e it ((i : Nat) : Int) old) ∧ h.IsTupleIter it a i ∧ e ≠ it) where
  mem := by simp
  obj := fun i h st b hb => by
    obtain ⟨⟨old, he⟩, ⟨o, ho, hc, hd⟩, _⟩ := st
    have e' : b = e ∨ b = it := by simpa using hb
    rcases e' with z | z
    · rw [z]; exact ⟨_, he, fun v q => nomatch q⟩
    · rw [z]; exact ⟨o, ho, fun v q => by rw [hd] at q; cases q⟩
  keep := fun i h h' st k => let ⟨⟨old, he⟩, hi, hne⟩ := st; ⟨⟨old, k e (by simp) _ he⟩, hi.at fun o q => k it (by simp) o q, hne⟩
  item := by
    intro X hP hw hK hc i pins s σ H E I hf st hg
    subst hP hw hK
    obtain ⟨⟨old, he⟩, hit, hne⟩ := st
    obtain ⟨xs, x, hq, hx⟩ := hg
    obtain ⟨its, rv, p, hz⟩ := I.tuple hq
    have p : s.heap.IsTuple a its.toArray := p
    obtain ⟨u, hu, ru⟩ := rv.get hx
    have hel : e < s.heap.objs.size := Heap.lt_size he
    have hil : it < s.heap.objs.size := by obtain ⟨_, q, _⟩ := hit; exact Heap.lt_size q
    obtain ⟨ot, hot, hct, hdt⟩ := id p
    have hea : e ≠ a := fun z => by
      have q := he
      unfold IsEnum at q
      rw [z, hot] at q
      rw [Option.some.inj q] at hct
      injection hct with c1
      exact absurd c1 (by decide)
    have hia : a ≠ it := fun z => by
      obtain ⟨o', q, q2, _⟩ := id hit
      rw [← z, hot] at q
      rw [← Option.some.inj q, hct] at q2
      injection q2 with c1
      exact absurd c1 (by decide)
    refine wpAny_pyNext_enum_itemD (Draws.tuple (A := X.A.in1) (show X.A.in1.handled = none from I.ok.hd hc) it a hia its.toArray) he ⟨hit, p⟩ (by
      have := (List.getElem?_eq_some_iff.mp hu).1
      simpa using this) hne (by simp [hne, hea]) fun x' h' tk hP ho hit' hT hsz' hk => ?_
    obtain rfl : u = x' := by
      have q : its.toArray[i]? = some x' := hP
      rw [List.getElem?_toArray, hu] at q
      exact Option.some.inj q
    refine ⟨_, rfl, wpAny_letOwnedTupleGo_enum (s := { s with heap := h', toks := tk + 1 }) ho fun h'' he' sb => ?_⟩
    have hT2 : h''.get? s.heap.objs.size = some { cls := .type "tuple", data := .seq #[.int i tk, u] } := (sb.2 _ (Nat.ne_of_gt hel)).trans hT
    have new : ObjOk X.prog X.w (upd H s.heap.objs.size (.tup [.int (i : Nat), x])) h'' s.heap.objs.size (.tup [.int (i : Nat), x]) :=
      ⟨by show 2 ≤ sizeLine; decide, [.int i tk, u], .cons ⟨_, rfl⟩ (.cons ru .nil), ⟨_, hT2, rfl, _, rfl⟩⟩
    have I1 : Inv X pins σ (upd H s.heap.objs.size (.tup [.int (i : Nat), x])) { s with heap := h'', toks := tk + 1 } :=
      I.turnedNew (ch := [e, it]) (fun b ob hb q => (sb.2 b (fun z => hb (by simp [z]))).trans (hk b ob (fun z => hb (by simp [z])) (fun z => hb (by simp [z])) q)) hf (Nat.le_refl _) new
    refine ⟨.ref s.heap.objs.size, _, I1, rfl, ⟨_, x, rfl, I.hok.fresh (Nat.le_refl _), rfl, fun ys hy => by rw [I.tuple_inj hy hq]; exact hx⟩, ⟨⟨u, ?_⟩, hit'.1.at fun o q => (sb.2 it (Ne.symm hne)).trans q, hne⟩, fun b hb => ?_⟩
    · have e1 : ((i + 1 : Nat) : Int) = (i : Int) + 1 := by omega
      rw [e1]; exact he'
    · have hb' : b < s.heap.objs.size := by
        have e' : b = e ∨ b = it := by simpa using hb
        rcases e' with z | z
        · rw [z]; exact hel
        · rw [z]; exact hil
      rw [upd_ne (Nat.ne_of_lt hb')]
      exact (hf b hb).1
  done := by
    intro X hP hw hK hc i pins s σ H E I hf st hg
    subst hP hw hK
    obtain ⟨⟨old, he⟩, hit, hne⟩ := st
    obtain ⟨xs, hq, hx⟩ := hg
    obtain ⟨its, rv, p, hz⟩ := I.tuple hq
    have p : s.heap.IsTuple a its.toArray := p
    obtain ⟨f0, f1, f2, f3, f4, f5⟩ := hf it (by simp)
    have hl := rv.length
    have hT : s.TypeIs (.ref e) "enumerate" := ⟨_, he, rfl⟩
    unfold pyNext
    refine wpAny_bind (wpAny_attempt (wpAny_callSpecial?_slot (name := Str.ofString "__next__") hT F.slot_enumerate_next
      (wpAny_call_entry F.slot_enumerate_next hT F.entry_enumerate_next ?_ (F.args_enumerate_next_1 _))))
    show wpAny _ _ (field (.ref e) 2 >>= _) _ _ _
    refine wpAny_bind (wpAny_field he rfl (x := .ref it) rfl ?_)
    refine wpAny_bind (wpAny_nextOf_tuple_end (I.ok.hd hc) hit p (by simp; omega) fun h' x he' hx' => ?_)
    obtain ⟨o', ho, hc'⟩ := hx'
    refine wpAny_bind (wpAny_isInstance (T := "StopIteration") (b := true) ⟨o', ho, hc'⟩ isSubtype_stop ?_)
    exact wpAny_pure ⟨rfl, I.turned (t' := s.toks) (fun b ob hb q => he' b ob hb q) f0 f1 f3 f4 f5⟩
  self := fun A i s Q E st h => let ⟨⟨_, he⟩, _⟩ := st; wpAny_pyIter_enum he h
def iEnumT (K : PySem.W.Frag) (ta : TA) : TI := fun σ H R => ta σ H fun vs H1 => ∃ a xs, vs = [.ref a] ∧ SqT K H1 a xs ∧ R (IteT K a) H1
theorem pi_enumT {X : Cx} {e : Expr} {ta : TA} {p pos tpos : Pos} {elts : List Expr} {kk : Nat} (hg : Gl X "enumerate") (hm : X.mg "enumerate" = none) (ha : PA X [e] ta) (hs : starEach [e] X.env = [(false, eval e X.env)] := by rfl) :
    PI X (.Tuple elts kk tpos) (.Call (.Name "enumerate" p) [e] [] pos) (iEnumT X.K ta) := by
  refine ⟨fun pins s σ H R I h => ?_⟩
  refine Call_ (ld_blt I hg hm boot_enumerate (PyProof.Rows.callWith_type1 (thn (ha.run pos pins s σ H _ I h) fun us s1 ⟨vs, H1, I1, r1, q1⟩ => ?_) hs rfl))
  obtain ⟨a, xs, ex, hq, q⟩ := q1
  subst ex
  cases r1 with
  | cons r rr =>
    cases rr
    cases r
    obtain ⟨its, rv, p', hz⟩ := I1.tuple hq
    refine k0_enum_call (begins_tuple a its.toArray) p' fun h' he hit hsz' hk => wpAny_pyIter_enum he ?_
    have I2 : Inv X pins σ H1 { s1 with heap := h' } := I1.kept (t' := s1.toks) hk
    refine ⟨s1.heap.objs.size + 1, [s1.heap.objs.size + 1, s1.heap.objs.size], _, _, H1, rfl, I2, turn_enumT a (s1.heap.objs.size + 1) s1.heap.objs.size, ⟨⟨.none, he⟩, ⟨_, hit, rfl, rfl⟩, Nat.succ_ne_self _⟩, fun b hb => ?_, q⟩
    have e' : b = s1.heap.objs.size + 1 ∨ b = s1.heap.objs.size := by simpa using hb
    have hle : s1.heap.objs.size ≤ b := by
      rcases e' with z | z
      · rw [z]; exact Nat.le_add_right _ _
      · rw [z]; exact Nat.le_refl _
    exact I1.fpOk hle (I1.hok.fresh hle)
theorem walk_enumT {K : PySem.W.Frag} {a : Addr} {xs : List V} : Walk (IteT K a) xs.length (fun H => SqT K H a xs) (YPair (fun i => some (.int (i : Nat))) (fun i => xs[i]?)) := by
  refine ⟨fun i _ hi q => ⟨xs, xs[i], q, by simp [hi]⟩, fun _ q => ⟨xs, q, Nat.le_refl _⟩, fun i H v H' _ q y => ?_⟩
  obtain ⟨T, x, h1, h2, h3, h4⟩ := y
  exact ⟨T, .int (i : Nat), x, h1, h2, h3, rfl, h4 xs q⟩
end L2
end
section
set_option Elab.async false
set_option linter.all false
set_option maxRecDepth 100000
set_option maxHeartbeats 4000000
namespace K0
open PySem PySem.Spec PyProof.Rows L2
/-! ### the rows of rights -/
structure BRows (H : Hp) (l : Addr) (BR : List (Addr × RRow)) : Prop where
  lst : H l = some (.lst (BR.map fun q => V.ref q.1))
  tup : ∀ q ∈ BR, H q.1 = some (.tup [.str q.2.1, .str q.2.2.1, .str q.2.2.2])
abbrev bOf (BR : List (Addr × RRow)) : List RRow := BR.map (·.2)
theorem BRows.same {H H' : Hp} {l : Addr} {BR : List (Addr × RRow)} (r : BRows H l BR) (s : Same H H') : BRows H' l BR := ⟨s _ _ r.lst, fun q hq => s _ _ (r.tup q hq)⟩
theorem brow_at {BR : List (Addr × RRow)} {i : Nat} {x : V} (e : (BR.map fun q => V.ref q.1)[i]? = some x) (hi : i < BR.length) : x = .ref BR[i].1 := by
  rw [List.getElem?_map, List.getElem?_eq_getElem hi] at e
  exact (Option.some.inj e).symm
theorem brow_nm {BR : List (Addr × RRow)} {i : Nat} (hi : i < BR.length) : (rnm (bOf BR))[i]? = some BR[i].2.1 := by
  rw [List.getElem?_map, List.getElem?_map, List.getElem?_eq_getElem hi]
  rfl
theorem riv_upto {Cr : Addr} {H H' : Hp} {p q : Addr} {AR : List (Addr × Row)} (u : Upto p H H') (hp : ∃ C dx fs, H p = some (.ins C dx fs)) (n : q ≠ p) (r : RivAt Cr H q AR) : RivAt Cr H' q AR := by
  obtain ⟨C, dx, fs, hp⟩ := hp
  have kp : ∀ {a : Addr} {o : HO}, H a = some o → (∀ z1 z2 z3, o ≠ .ins z1 z2 z3) → H' a = some o := fun e h => u _ _ e (ne_of e hp (h _ _ _))
  obtain ⟨dx, tw, tr, db, dc, da, du, o, h1, h2, h3, h4, h5, h6, h7, h8, h9⟩ := r.ex
  have tp : ∀ {c : Addr} {ns : List Str} {g : Str → List Str}, TupsAt H c ns g → TupsAt H' c ns g := fun t => by
    obtain ⟨ta, q1, q2⟩ := t.ex
    exact ⟨ta, kp q1 (fun _ _ _ z => by cases z), fun x hx => (q2 x hx).to fun u e _ _ _ h _ => kp e h⟩
  exact ⟨dx, tw, tr, db, dc, da, du, o, u _ _ h1 n, kp h2 (fun _ _ _ z => by cases z), kp h3 (fun _ _ _ z => by cases z), fun z hz => kp (h4 z hz) (fun _ _ _ z => by cases z), kp h5 (fun _ _ _ z => by cases z), tp h6, tp h7, tp h8, h9.to fun _ e => kp e (fun _ _ _ z => by cases z)⟩
theorem txr_upto {H H' : Hp} {p t : Addr} {l : List Str} (u : Upto p H H') (hp : ∃ C dx fs, H p = some (.ins C dx fs)) (h : TxR H t l) : TxR H' t l := by
  obtain ⟨C, dx, fs, hp⟩ := hp
  rcases h with e | ⟨o, e⟩
  · exact .inl (u _ _ e (ne_of e hp (fun z => by cases z)))
  · exact .inr ⟨o, u _ _ e (ne_of e hp (fun z => by cases z))⟩
theorem tupsR_upto {H H' : Hp} {p c : Addr} {ns : List Str} {g : Str → List Str} (u : Upto p H H') (hp : ∃ C dx fs, H p = some (.ins C dx fs)) (t : TupsR H c ns g) : TupsR H' c ns g := by
  obtain ⟨ta, q1, q2⟩ := t.ex
  obtain ⟨C, dx, fs, hp2⟩ := id hp
  exact ⟨ta, u _ _ q1 (ne_of q1 hp2 (fun z => by cases z)), fun x hx => txr_upto u hp (q2 x hx)⟩
abbrev scIsRowR_N : List Str := ["river", "entry"]
theorem scIsRowR : FnScope scIsRowR_N ["river", "entry"] (defScope sIsRowR) := ⟨rfl, rfl, rfl, by decide +kernel, rfl, by decide +kernel, by decide +kernel⟩
def spIsRowR (Cr : Addr) : Sp := fun vs H Q _ => ∃ (q t : Addr) (r : RRow) (AR : List (Addr × Row)), vs = [.ref q, .ref t] ∧ RivAt Cr H q AR ∧ H t = some (.tup [.str r.1, .str r.2.1, .str r.2.2]) ∧ NameOk r.1 ∧ r.2.1 ∈ namesOf AR ∧ (r.2.2 = "sea" ∨ r.2.2 ∈ namesOf AR) ∧ ∀ H', Same H H' → Q (.bl true) H'
abbrev scNeedRowsR_N : List Str := ["river", "rows", "names", "place", "entry", "_", "intake", "last"]
theorem scNeedRowsR : FnScope scNeedRowsR_N ["river", "rows"] (defScope sNeedRowsR) := ⟨rfl, rfl, rfl, by decide +kernel, rfl, by decide +kernel, by decide +kernel⟩
def spNeedRowsR (Cr : Addr) : Sp := fun vs H Q _ => ∃ (q l : Addr) (AR : List (Addr × Row)) (BR : List (Addr × RRow)), vs = [.ref q, .ref l] ∧ RivAt Cr H q AR ∧ GoodRows (rowsOf AR) ∧ BRows H l BR ∧ RtOk (rowsOf AR) (bOf BR) ∧ ∀ H', Same H H' → Q .non H'
section
variable {P : Program} {w : World} {K : PySem.W.Frag} {mg : Str → Option Value} {base : Heap} {tS tM tL : Tok}
theorem ok_isrowR {f fN Cr : Addr} {fd fdN : FuncData} (F : FnP K "_is_row" sIsRowR f fd) (F_is_name : FnP K "is_name" sIsName fN fdN) (gis_name : mg "is_name" = some (.ref fN)) (M : Sc K Cr) (T : Rv K mg Cr) (B : Bl mg) (C : Gc mg tS tM tL) : FnOk P w K mg base CX0 2 f fd ["river", "entry"] (spIsRowR Cr) := by
  obtain ⟨fC, fdC, FC, hs, hf⟩ := M.has
  have GC : FnOk P w K mg base CX0 1 fC fdC ["self", "x"] (spHas (GHasS Cr)) := ok_containsS FC T B
  have bC : Binds K fdC ["self", "x"] [] := FC.bindsN fun _ _ _ _ _ _ us hl => match us, hl with | [_, _], _ => rfl
  have Gis_name : FnOk P w K mg base CX0 1 fN fdN ["value"] spIsName := ok_isname F_is_name B C
  have bis_name : Binds K fdN ["value"] [] := F_is_name.bindsN fun _ _ _ _ _ _ us hl => match us, hl with | [_], _ => rfl
  refine F.ok scIsRowR (fun vs H Q E h => ?_) (fun cdv A outer s H vs Q E hr h => ?_)
  · obtain ⟨q, t, r, AR, rfl, _⟩ := h
    rfl
  · obtain ⟨q, t, r, AR, rfl, R, ht, h1, h2, h3, k⟩ := h
    have hris_name : Room 1 _ := hr
    have Fis_name := F_is_name
    refine ⟨_, PSs.nox (pss_cons
      (ps_if (PW.pt (pw_or (pt_not (pt_val (pe_callB call_isi (by rfl) B.isinstance (by decide +kernel) (pa_cons (pv 1) (pa_cons (pe_bltn (v := .ty "tuple") (by rfl) B.tuple (by decide +kernel) rfl) pa_nil))))) (pw_or1 (pt_cmpR op_ne (pe_callB (lenK (K := K)) (by rfl) B.len PySem.boot_len (pa_cons (pv 1) pa_nil)) pe_int (nomark _))))) (pss_one
      (ps_ret pe_bl)) pss_nil)
      (pss_one
      (ps_ret (pe_and (pe_call Gis_name hris_name (by rfl) gis_name Fis_name.kp bis_name .nil pass0 (pa_cons (pe_ix (ixTK (K := K)) (pv 1) pe_int (fun _ _ => rfl)) pa_nil)) (pe_and (pe_cmpR (k0_in_own (K := K) GC hr hs hf bC) (pe_ix (ixTK (K := K)) (pv 1) pe_int (fun _ _ => rfl)) (pv 0) (by rfl)) (pe_one (pe_or (pe_cmpR op_eq (pe_ix (ixTK (K := K)) (pv 1) pe_int (fun _ _ => rfl)) (pe_glob (v := .str "sea") (by rfl) C.SEA ⟨_, rfl⟩) (nomark _)) (pe_one (pe_cmpR (k0_in_own (K := K) GC hr hs hf bC) (pe_ix (ixTK (K := K)) (pv 1) pe_int (fun _ _ => rfl)) (pv 0) (by rfl)))))))))), ?_⟩
    have g : ∀ H', Same H H' → SqT K H' t [.str r.1, .str r.2.1, .str r.2.2] := fun H' s => .inl (.inl (s _ _ ht))
    refine ⟨_, rfl, .ref t, .ty "tuple", _, _, true, rfl, .ty "tuple", .base (.tup ht), kit_ty (by decide +kernel), _, rfl, ?_⟩
    refine iteF ?_
    refine ⟨_, rfl, t, _, rfl, .inr (g _ (.refl _)), rfl, _, rfl, ?_⟩
    refine iteNS rfl ?_
    refine ⟨_, rfl, t, _, _, _, rfl, rfl, g _ (.refl _), atI_nat (j := 0) rfl, r.1, rfl, h1, fun H1 s1 => ⟨_, rfl, iteT ?_⟩⟩
    have R1 := Same.riv s1 R
    obtain ⟨dx, tw, tr, db, dc, da, du, o, i1, _⟩ := id R1.ex
    refine ⟨_, rfl, t, _, _, _, rfl, rfl, g _ s1, atI_nat (j := 1) rfl, _, rfl, q, dx, _, true, rfl, i1, ⟨AR, r.2.1, R1, rfl, (decide_eq_true h2).symm⟩, _, rfl, iteT ?_⟩
    refine ⟨_, rfl, t, _, _, _, rfl, rfl, g _ s1, atI_nat (j := 2) rfl, rfl, ?_⟩
    by_cases e : r.2.2 = "sea"
    · rw [e, decide_eq_true rfl]
      exact ⟨_, rfl, iteT (k H1 s1)⟩
    · rw [decide_eq_false (fun z => e (V.str.inj z))]
      refine ⟨_, rfl, iteF ?_⟩
      refine ⟨_, rfl, t, _, _, _, rfl, rfl, g _ s1, atI_nat (j := 2) rfl, _, rfl, q, dx, _, true, rfl, i1, ⟨AR, r.2.2, R1, rfl, (decide_eq_true (h3.resolve_left e)).symm⟩, ?_⟩
      exact k H1 s1
theorem ok_needrowsR {f fN fR fI Cr : Addr} {fd fdN fdR fdI : FuncData} (F : FnP K "_need_rows" sNeedRowsR f fd) (F_is_name : FnP K "is_name" sIsName fN fdN) (gis_name : mg "is_name" = some (.ref fN))
    (F_is_rowR : FnP K "_is_row" sIsRowR fR fdR) (g_is_rowR : mg "is_row_rights" = some (.ref fR)) (Fis_down : FnM K "is_down" "River.is_down" sIsDown fI fdI) (Mis_down : Meth K Cr "is_down" fI) (D : NdS P w K mg base Cr) (M : Sc K Cr) (T : Rv K mg Cr) (B : Bl mg) (C : Gc mg tS tM tL) :
    FnOk P w K mg base CX0 4 f fd ["river", "rows"] (spNeedRowsR Cr) := by
  have G_is_rowR : FnOk P w K mg base CX0 2 fR fdR ["river", "entry"] (spIsRowR Cr) := ok_isrowR F_is_rowR F_is_name gis_name M T B C
  have b_is_rowR : Binds K fdR ["river", "entry"] [] := F_is_rowR.bindsN fun _ _ _ _ _ _ us hl => match us, hl with | [_, _], _ => rfl
  have Gis_down : FnOk P w K mg base CX0 3 fI fdI ["self", "high", "low"] (spDownS Cr) := ok_isdownS Fis_down D T
  have bis_down : Binds K fdI ["self", "high", "low"] [] := Fis_down.bindsN fun _ _ _ _ _ _ us hl => match us, hl with | [_, _, _], _ => rfl
  refine F.ok scNeedRowsR (fun vs H Q E h => ?_) (fun cdv A outer s H vs Q E hr h => ?_)
  · obtain ⟨q, l, AR, BR, rfl, _⟩ := h
    rfl
  · obtain ⟨q, l, AR, BR, rfl, R, hG, hR, hB, k⟩ := h
    have hu := hu_of hr
    have hr_is_rowR : Room 2 _ := hr.mono (by decide)
    have hris_down : Room 3 _ := hr
    refine ⟨_, PSs.nox (pss_cons
      (ps_if (PW.pt (pw_or (pt_not (pt_val (pe_callB call_isi (by rfl) B.isinstance (by decide +kernel) (pa_cons (pv 1) (pa_cons (pe_bltn (v := .ty "list") (by rfl) B.list (by decide +kernel) rfl) pa_nil))))) (pw_or1 (pt_cmpR op_gt (pe_callB (lenK (K := K)) (by rfl) B.len PySem.boot_len (pa_cons (pv 1) pa_nil)) (pe_glob (v := .int 40) (by rfl) C.MOST_ROWS ⟨_, rfl⟩) (nomark _))))) (pss_one
      ps_never) pss_nil)
      (pss_cons
      (ps_set (i := 2) scNeedRowsR.nd rfl (Or.inl rfl) pe_dnewK)
      (pss_cons
      (ps_for PassesOwn.never rfl (pi_enum (by rfl) B.enumerate (pa_cons (pv 1) pa_nil)) (tgK (K := K) (n := 2) (by rfl) (pgs_cons (pg_name (i := 3) scNeedRowsR.nd rfl (Or.inl rfl)) (pgs_cons (pg_name (i := 4) scNeedRowsR.nd rfl (Or.inl rfl)) pgs_nil))) (pss_cons
      (ps_if (PW.pt (pw_or (pt_not (pt_val (pe_call G_is_rowR hr_is_rowR (by rfl) g_is_rowR F_is_rowR.kp b_is_rowR .nil pass0 (pa_cons (pv 0) (pa_cons (pv 4) pa_nil))))) (pw_or1 (pt_cmp (pc_din hu (pe_ix (ixTK (K := K)) (pv 4) pe_int (fun _ _ => rfl)) (pv 2)))))) (pss_one
      ps_never) pss_nil)
      (pss_one
      (ps_dput hu (pv 2) (pe_ix (ixTK (K := K)) (pv 4) pe_int (fun _ _ => rfl)) pe_bl rfl))))
      (pss_one
      (ps_for PassesOwn.never rfl (pi_enum (by rfl) B.enumerate (pa_cons (pv 1) pa_nil)) (tgK (K := K) (n := 2) (by rfl) (pgs_cons (pg_name (i := 3) scNeedRowsR.nd rfl (Or.inl rfl)) (pgs_cons (tgK (K := K) (n := 3) (by rfl) (pgs_cons (pg_name (i := 5) scNeedRowsR.nd rfl (Or.inl rfl)) (pgs_cons (pg_name (i := 6) scNeedRowsR.nd rfl (Or.inl rfl)) (pgs_cons (pg_name (i := 7) scNeedRowsR.nd rfl (Or.inl rfl)) pgs_nil)))) pgs_nil))) (pss_one
      (ps_if (PW.pt (pw_and (pt_cmpR op_ne (pv 7) (pe_glob (v := .str "sea") (by rfl) C.SEA ⟨_, rfl⟩) (nomark _)) (pw_and1 (pt_not (pt_val (pe_meth (pv 0) T.cl Mis_down Gis_down hris_down bis_down .nil pass0 (pa_cons (pv 6) (pa_cons (pv 7) pa_nil)))))))) (pss_one
      ps_never) pss_nil))))))), ?_⟩
    refine ⟨_, rfl, .ref l, .ty "list", _, _, true, rfl, .ty "list", .base (.lst hR.lst), kit_ty (by decide +kernel), _, rfl, ?_⟩
    refine iteF ?_
    have hm := hB.most
    have hlb : (bOf BR).length = BR.length := List.length_map _
    have hnd := hB.nd
    refine ⟨_, rfl, l, _, rfl, .inl (.inl (.inl hR.lst)), _, _, rfl, rfl, _, rfl, ?_⟩
    refine iteDn (by rw [List.length_map]; omega) ?_
    intro D hD
    have s0 : Same H (upd H D (.dK [])) := same_upd hD
    refine ⟨_, rfl, l, _, rfl, s0.seq (.inl (.inl hR.lst)), ?_⟩
    refine for_it (walk_enum (xs := BR.map fun q => V.ref q.1)) (fun i σ H2 => ∃ (v3 v4 v5 v6 v7 : Option V), σ = [some (.ref q), some (.ref l), some (.ref D), v3, v4, v5, v6, v7] ∧ Same H H2 ∧ H2 D = some (.dK (kmap (fun _ => .bl true) ((rnm (bOf BR)).take i))))
      ⟨_, _, _, _, _, rfl, s0, by rw [upd_same, List.take_zero]; rfl⟩ (fun _ _ _ _ h => by obtain ⟨_, _, _, _, _, _, s, _⟩ := h; exact s.seq (.inl (.inl hR.lst))) ?_ ?_
    · rintro i x σ H2 H3 hi ⟨v3, v4, v5, v6, v7, rfl, s2, hD2⟩ ⟨Tt, x1, x2, rfl, hT, rfl, e1, e2⟩
      rw [List.length_map] at hi
      have hx1 : x1 = .int (i : Int) := (Option.some.inj e1).symm
      subst hx1
      have hx2 : x2 = .ref BR[i].1 := brow_at e2 hi
      subst hx2
      have hmem : BR[i] ∈ BR := List.getElem_mem hi
      have hrow : BR[i].2 ∈ bOf BR := List.mem_map.mpr ⟨_, hmem, rfl⟩
      have s3 : Same H (upd H2 Tt (.tup [.int (i : Int), .ref BR[i].1])) := s2.trans (same_upd hT)
      have hD3 : (upd H2 Tt (.tup [.int (i : Int), .ref BR[i].1])) D = some (.dK (kmap (fun _ => .bl true) ((rnm (bOf BR)).take i))) := by
        rw [upd_ne (ne_of_none hD2 hT)]
        exact hD2
      have hni := brow_nm hi
      have hnot : BR[i].2.1 ∉ (rnm (bOf BR)).take i := nodup_take hnd hni
      have hlast : BR[i].2.2.2 = "sea" ∨ BR[i].2.2.2 ∈ namesOf AR := (hB.last _ hrow).imp_right fun z => course_sub hG (hB.inn _ hrow) _ z
      refine ⟨Tt, _, rfl, .inl (.inl upd_same), rfl, _, _, rfl, _, _, rfl, rfl, ?_⟩
      refine ⟨_, rfl, _, rfl, q, BR[i].1, BR[i].2, AR, rfl, Same.riv s3 R, s3 _ _ (hR.tup _ hmem), hB.ok _ hrow, hB.inn _ hrow, hlast, fun H4 s4 => ⟨_, rfl, ?_⟩⟩
      refine iteF ?_
      have s5 : Same H H4 := s3.trans s4
      have hD4 := s4 _ _ hD3
      have ht4 : SqT K H4 BR[i].1 [.str BR[i].2.1, .str BR[i].2.2.1, .str BR[i].2.2.2] := .inl (.inl (s5 _ _ (hR.tup _ hmem)))
      refine ⟨_, rfl, BR[i].1, _, _, _, rfl, rfl, ht4, atI_nat (j := 0) rfl, _, rfl, D, _, rfl, DGet.k (k := Sum.inr BR[i].2.1) hD4, _, rfl, ?_⟩
      rw [kmap_not hnot]
      refine iteF ?_
      refine ⟨_, rfl, _, rfl, BR[i].1, _, _, _, rfl, rfl, ht4, atI_nat (j := 0) rfl, D, _, rfl, DPut.k (k := Sum.inr BR[i].2.1) hD4 ?_, ?_⟩
      · rw [kmap_len, List.length_take, List.length_map]
        exact small1000 (by omega)
      · refine ⟨_, _, _, _, _, rfl, fun b o hb => ?_, ?_⟩
        · rw [upd_ne (ne_of_none hb hD)]
          exact s5 b o hb
        · have := kmap_put (f := fun _ => .bl true) hnot
          rw [upd_same, this, List.take_add_one, hni]
          rfl
    · rintro σ H2 ⟨v3, v4, v5, v6, v7, rfl, s2, hD2⟩
      refine ⟨_, rfl, l, _, rfl, s2.seq (.inl (.inl hR.lst)), ?_⟩
      refine for_it (walk_enum (xs := BR.map fun q => V.ref q.1)) (fun i σ H3 => ∃ (v3 v4 v5 v6 v7 : Option V), σ = [some (.ref q), some (.ref l), some (.ref D), v3, v4, v5, v6, v7] ∧ Same H2 H3)
        ⟨_, _, _, _, _, rfl, .refl _⟩ (fun _ _ _ _ h => by obtain ⟨_, _, _, _, _, _, s⟩ := h; exact (s2.trans s).seq (.inl (.inl hR.lst))) ?_ ?_
      · rintro i x σ H3 H4 hi ⟨v3, v4, v5, v6, v7, rfl, s3⟩ ⟨Tt, x1, x2, rfl, hT, rfl, e1, e2⟩
        rw [List.length_map] at hi
        have hx2 : x2 = .ref BR[i].1 := brow_at e2 hi
        subst hx2
        have hmem : BR[i] ∈ BR := List.getElem_mem hi
        have hrow : BR[i].2 ∈ bOf BR := List.mem_map.mpr ⟨_, hmem, rfl⟩
        have s4 : Same H2 (upd H3 Tt (.tup [x1, .ref BR[i].1])) := s3.trans (same_upd hT)
        have ht4 : SqT K (upd H3 Tt (.tup [x1, .ref BR[i].1])) BR[i].1 [.str BR[i].2.1, .str BR[i].2.2.1, .str BR[i].2.2.2] := .inl (.inl (s4 _ _ (s2 _ _ (hR.tup _ hmem))))
        refine ⟨Tt, _, rfl, .inl (.inl upd_same), rfl, _, _, rfl, _, _, rfl, _, _, rfl, ht4, rfl, _, _, rfl, _, _, rfl, _, _, rfl, rfl, rfl, ?_⟩
        refine ⟨_, rfl, rfl, _, rfl, ?_⟩
        refine ite2 (fun h1 => ?_) (fun h1 => ?_)
        · have hmm : BR[i].2.2.2 ∈ course (rowsOf AR) BR[i].2.2.1 := by
            rcases hB.last _ hrow with e | e
            · rw [decide_eq_true (congrArg V.str e)] at h1
              cases h1
            · exact e
          have R4 : RivAt Cr (upd H3 Tt (.tup [x1, .ref BR[i].1])) q AR := Same.riv (s2.trans s4) R
          obtain ⟨dx, tw, tr, db, dc, da, du, o, i1, _⟩ := id R4.ex
          refine ⟨_, rfl, q, dx, _, rfl, i1, g7no _ _ _ _ _ _ _ (by decide +kernel) (by decide +kernel) (by decide +kernel) (by decide +kernel) (by decide +kernel) (by decide +kernel) (by decide +kernel), _, rfl, _, rfl, q, _, _, AR, rfl, R4, hB.inn _ hrow, course_sub hG (hB.inn _ hrow) _ hmm, ?_⟩
          rw [decide_eq_true hmm]
          refine ⟨_, rfl, iteF ?_⟩
          exact ⟨_, _, _, _, _, rfl, s4⟩
        · exact ⟨_, _, _, _, _, rfl, s4⟩
      · rintro σ H3 ⟨v3, v4, v5, v6, v7, rfl, s3⟩
        exact k H3 (s2.trans s3)
end
end K0
end
section
set_option Elab.async false
set_option linter.all false
set_option maxRecDepth 100000
set_option maxHeartbeats 4000000
namespace K0
open PySem PySem.Spec PyProof.Rows L2
/-! ### Rights -/
abbrev sGInit : Stmt := inClass sRights 0
abbrev sGContains : Stmt := inClass sRights 4
abbrev sThose : Stmt := inClass sRights 5
abbrev sGRows : Stmt := inClass sRights 6
abbrev sGLast : Stmt := inClass sRights 8
abbrev sGWay : Stmt := inClass sRights 10
abbrev sGPassing : Stmt := inClass sRights 12
structure Rg (K : PySem.W.Frag) (mg : Str → Option Value) (C : Addr) : Prop where
  cl : Cls K C
  river : NoAttr K C "river"
  names : NoAttr K C "names"
  _rows : NoAttr K C "_rows"
  _ways : NoAttr K C "_ways"
  _lasts : NoAttr K C "_lasts"
  _passing : NoAttr K C "_passing"
  mgC : mg "Rights" = some (.ref C)
def r1 (a : V) : List (Str × V) := putF "river" a []
def r2 (a b : V) : List (Str × V) := putF "names" b (r1 a)
def r3 (a b c : V) : List (Str × V) := putF "_rows" c (r2 a b)
def r4 (a b c d : V) : List (Str × V) := putF "_ways" d (r3 a b c)
def r5 (a b c d e : V) : List (Str × V) := putF "_lasts" e (r4 a b c d)
def r6 (a b c d e g : V) : List (Str × V) := putF "_passing" g (r5 a b c d e)
section
variable (a b c d e g : V)
theorem rl1 : (r1 a).length ≤ 1 := putF_len _ _ _
theorem rl2 : (r2 a b).length ≤ 2 := Nat.le_trans (putF_len _ _ _) (Nat.succ_le_succ (rl1 a))
theorem rl3 : (r3 a b c).length ≤ 3 := Nat.le_trans (putF_len _ _ _) (Nat.succ_le_succ (rl2 a b))
theorem rl4 : (r4 a b c d).length ≤ 4 := Nat.le_trans (putF_len _ _ _) (Nat.succ_le_succ (rl3 a b c))
theorem rl5 : (r5 a b c d e).length ≤ 5 := Nat.le_trans (putF_len _ _ _) (Nat.succ_le_succ (rl4 a b c d))
theorem rr2n : (r2 a b).lookup ("names" : Str) = some b := by rw [r2, lookup_putF, if_pos rfl]
theorem rr5n : (r5 a b c d e).lookup ("names" : Str) = some b := by
  rw [r5, lookup_putF, if_neg (by decide +kernel), r4, lookup_putF, if_neg (by decide +kernel), r3, lookup_putF, if_neg (by decide +kernel), rr2n]
theorem rr5w : (r5 a b c d e).lookup ("_ways" : Str) = some d := by
  rw [r5, lookup_putF, if_neg (by decide +kernel), r4, lookup_putF, if_pos rfl]
theorem rr6r : (r6 a b c d e g).lookup ("river" : Str) = some a := by
  rw [r6, lookup_putF, if_neg (by decide +kernel), r5, lookup_putF, if_neg (by decide +kernel), r4, lookup_putF, if_neg (by decide +kernel), r3, lookup_putF, if_neg (by decide +kernel), r2, lookup_putF, if_neg (by decide +kernel), r1, lookup_putF, if_pos rfl]
theorem rr6n : (r6 a b c d e g).lookup ("names" : Str) = some b := by rw [r6, lookup_putF, if_neg (by decide +kernel), rr5n]
theorem rr6o : (r6 a b c d e g).lookup ("_rows" : Str) = some c := by
  rw [r6, lookup_putF, if_neg (by decide +kernel), r5, lookup_putF, if_neg (by decide +kernel), r4, lookup_putF, if_neg (by decide +kernel), r3, lookup_putF, if_pos rfl]
theorem rr6w : (r6 a b c d e g).lookup ("_ways" : Str) = some d := by rw [r6, lookup_putF, if_neg (by decide +kernel), rr5w]
theorem rr6p : (r6 a b c d e g).lookup ("_passing" : Str) = some g := by rw [r6, lookup_putF, if_pos rfl]
theorem rr5no {m : Str} (h1 : (["river", "names", "_rows", "_ways", "_lasts", "_passing"] : List Str).contains m = false) : (r5 a b c d e).lookup m = none := by
  simp only [List.contains_cons, List.contains_nil, Bool.or_false, Bool.or_eq_false_iff, beq_eq_false_iff_ne] at h1
  rw [r5, lookup_putF, if_neg h1.2.2.2.2.1, r4, lookup_putF, if_neg h1.2.2.2.1, r3, lookup_putF, if_neg h1.2.2.1, r2, lookup_putF, if_neg h1.2.1, r1, lookup_putF, if_neg h1.1]
  rfl
theorem rr6no {m : Str} (h1 : (["river", "names", "_rows", "_ways", "_lasts", "_passing"] : List Str).contains m = false) : (r6 a b c d e g).lookup m = none := by
  have h2 := h1
  simp only [List.contains_cons, List.contains_nil, Bool.or_false, Bool.or_eq_false_iff, beq_eq_false_iff_ne] at h1
  rw [r6, lookup_putF, if_neg h1.2.2.2.2.2, rr5no _ _ _ _ _ h2]
end
theorem ft_upto {H H' : Hp} {p t : Addr} {l : List Str} (u : Upto p H H') (hp : ∃ C dx fs, H p = some (.ins C dx fs)) (h : FT H t l) : FT H' t l := by
  obtain ⟨C, dx, fs, hp⟩ := hp
  obtain ⟨o, q, e⟩ := h
  exact ⟨o, q, u _ _ e (ne_of e hp (fun z => by cases z))⟩
/-- the last weirs as rows tell them -/
def lastB (B : List RRow) : List (Key × V) := kmap (fun n => V.str (rowB B n).2.2) (rnm B)
/-- rights of these rows stand at p, over the river at q -/
structure RigAt (Cg Cr : Addr) (H : Hp) (p q : Addr) (AR : List (Addr × Row)) (BR : List (Addr × RRow)) : Prop where
  ex : ∃ (dx tn tr dw dl dp : Addr), H p = some (.ins Cg dx (r6 (.ref q) (.ref tn) (.ref tr) (.ref dw) (.ref dl) (.ref dp))) ∧ RivAt Cr H q AR ∧ FT H tn (rnm (bOf BR)) ∧ H tr = some (.tup (BR.map fun q => V.ref q.1)) ∧
    (∀ z ∈ BR, H z.1 = some (.tup [.str z.2.1, .str z.2.2.1, .str z.2.2.2])) ∧ TupsR H dw (rnm (bOf BR)) (wayN (rowsOf AR) (bOf BR)) ∧ TupsR H dp (namesOf AR) (passR (rowsOf AR) (bOf BR)) ∧ H dl = some (.dK (lastB (bOf BR)))
theorem RigAt.same {Cg Cr : Addr} {H H' : Hp} {p q : Addr} {AR : List (Addr × Row)} {BR : List (Addr × RRow)} (r : RigAt Cg Cr H p q AR BR) (s : Same H H') : RigAt Cg Cr H' p q AR BR := by
  obtain ⟨dx, tn, tr, dw, dl, dp, h1, h2, h3, h4, h5, h6, h7, h8⟩ := r.ex
  exact ⟨dx, tn, tr, dw, dl, dp, s _ _ h1, Same.riv s h2, h3.same s, s _ _ h4, fun z hz => s _ _ (h5 z hz), h6.same s, h7.same s, s _ _ h8⟩
abbrev scThose_N : List Str := ["self", "weir", "name"]
abbrev scThose_S : Stmt := sThose
theorem scThose : FnScope scThose_N ["self", "weir"] (defScope sThose) := ⟨rfl, rfl, rfl, by decide +kernel, rfl, by decide +kernel, by decide +kernel⟩
def spThose (Cg : Addr) : Sp := fun vs H Q _ => ∃ (p dx tn dw : Addr) (fs : List (Str × V)) (y : Str) (R : List Row) (B : List RRow), vs = [.ref p, .str y] ∧ H p = some (.ins Cg dx fs) ∧ fs.lookup ("names" : Str) = some (.ref tn) ∧ fs.lookup ("_ways" : Str) = some (.ref dw) ∧ TxR H tn (rnm B) ∧ TupsR H dw (rnm B) (wayN R B) ∧ B.length ≤ 40 ∧
  ∀ t H', Same H H' → TxR H' t (passR R B y) → Q (.ref t) H'
abbrev scGInit_N : List Str := ["self", "river", "rows", "row", "name", "intake", "last", "weir"]
abbrev scGInit_S : Stmt := sGInit
theorem scGInit : FnScope scGInit_N ["self", "river", "rows"] (defScope sGInit) := ⟨rfl, rfl, rfl, by decide +kernel, rfl, by decide +kernel, by decide +kernel⟩
def spGInit (Cg Cr : Addr) : Sp := fun vs H Q _ => ∃ (p q l dx : Addr) (AR : List (Addr × Row)) (BR : List (Addr × RRow)), vs = [.ref p, .ref q, .ref l] ∧ H p = some (.ins Cg dx []) ∧ RivAt Cr H q AR ∧ GoodRows (rowsOf AR) ∧ BRows H l BR ∧ RtOk (rowsOf AR) (bOf BR) ∧
  ∀ H', Upto p H H' → RigAt Cg Cr H' p q AR BR → Q .non H'
section
variable {P : Program} {w : World} {K : PySem.W.Frag} {mg : Str → Option Value} {base : Heap} {tS tM tL : Tok}
theorem ok_those {f Cg : Addr} {fd : FuncData} (F : FnM K "_those_over" "Rights._those_over" sThose f fd) (TG : Rg K mg Cg) (B : Bl mg) : FnOk P w K mg base CX0 1 f fd ["self", "weir"] (spThose Cg) := by
  refine F.ok scThose (fun vs H Q E h => ?_) (fun cdv A outer s H vs Q E hr h => ?_)
  · obtain ⟨p, dx, tn, dw, fs, y, R, B, rfl, _⟩ := h
    rfl
  · obtain ⟨p, dx, tn, dw, fs, y, R, BB, rfl, hp, l1, l2, hn, hw, hB, k⟩ := h
    have hu := hu_of hr
    refine ⟨_, PSs.nox (pss_one
      (ps_ret (pe_callTy (tupleK (K := K)) (by rfl) B.tuple (by decide +kernel) (pa_cons (pe_lc (own := [("name", 2)]) (g := gName 2) (by rfl) scThose.nd (pi_tup (fldK (K := K) (pv 0) rfl)) (blkOk_by (own := [("name", 2)]) (N := scThose_N) (sc := defScope scThose_S) (by decide +kernel)) (fun _ _ _ _ _ => (pg_name (i := 2) scThose.nd rfl (Or.inl rfl))) (fun _ _ _ _ _ => (pts_one (pt_cmpR (inK (K := K)) (pv 1) (pe_dget hu (fldK (K := K) (pv 0) rfl) (pv 2) (fun _ _ => rfl)) (by rfl)))) (fun _ _ _ _ _ => (pv 2))) pa_nil)))), ?_⟩
    obtain ⟨ta, w1, w2⟩ := hw.ex
    have hlb : (rnm BB).length = BB.length := List.length_map _
    refine ⟨_, rfl, p, Cg, dx, _, _, rfl, hp, TG.cl, TG.names, l1, tn, rfl, ⟨_, .inl hn⟩, fun D hD => ?_⟩
    refine lc_tupO (K := K) (a := tn) (xs := (rnm BB).map V.str) hD (fun i => (((rnm BB).take i).filter fun n => decide (y ∈ wayN R BB n)).map V.str) (by rw [List.take_zero]; rfl) (fun i _ => filt_size (by omega) i) (fun H2 s => .inl (hn.same s)) ?_ ?_
    · intro i x H2 Nx hx s put skip
      rw [List.getElem?_map] at hx
      obtain ⟨n, hn2, rfl⟩ := Option.map_eq_some_iff.mp hx
      have hnm : n ∈ rnm BB := List.mem_of_getElem? hn2
      refine ⟨rfl, ?_⟩
      refine ⟨_, rfl, _, rfl, p, Cg, dx, _, _, rfl, s _ _ hp, TG.cl, TG._ways, l2, _, rfl, dw, _, rfl, dget_rn (.inl (s _ _ w1)) hnm, ta n, _, rfl, .inr (.inl ((w2 n hnm).same s)), rfl, flat_strs _, _, rfl, ?_⟩
      rw [inV_str]
      have e := filt_take (p := fun n => decide (y ∈ wayN R BB n)) hn2
      refine ite2 (fun h => ?_) (fun h => ?_)
      · have h : decide (y ∈ wayN R BB n) = true := h
        rw [if_pos h] at e
        refine ⟨_, rfl, put _ _ (.refl _) ?_⟩
        rw [e, List.map_append]
        rfl
      · have h : ¬ decide (y ∈ wayN R BB n) = true := h
        rw [if_neg h, List.append_nil] at e
        exact skip _ (.refl _) (congrArg _ e)
    · intro H2 s2 hl
      rw [List.length_map, List.take_length] at hl
      refine ⟨D, _, rfl, .inl ⟨.inl (.inl hl), fun t nt => ?_⟩⟩
      refine k t _ (s2.trans (same_upd nt)) (.inl ?_)
      rw [upd_same]
      rfl
/-- the functions that the making of rights calls -/
structure Mg (P : Program) (w : World) (K : PySem.W.Frag) (mg : Str → Option Value) (base : Heap) (Cg Cr : Addr) : Prop where
  isName : ∃ f fd, FnP K "is_name" sIsName f fd ∧ mg "is_name" = some (.ref f)
  isRow : ∃ f fd, FnP K "_is_row" sIsRowR f fd ∧ mg "is_row_rights" = some (.ref f)
  needRows : ∃ f fd, FnP K "_need_rows" sNeedRowsR f fd ∧ mg "need_rows_rights" = some (.ref f)
  isDown : ∃ f fd, FnM K "is_down" "River.is_down" sIsDown f fd ∧ Meth K Cr "is_down" f
  way : ∃ f fd, FnM K "way" "River.way" sWay f fd ∧ Meth K Cr "way" f
  those : ∃ f fd, FnM K "_those_over" "Rights._those_over" sThose f fd ∧ Meth K Cg "_those_over" f
  D : NdS P w K mg base Cr
  M : Sc K Cr
theorem ok_ginit {f Cg Cr : Addr} {fd : FuncData} (F : FnM K "__init__" "Rights.__init__" sGInit f fd) (G : Mg P w K mg base Cg Cr) (TG : Rg K mg Cg) (T : Rv K mg Cr) (B : Bl mg) (C : Gc mg tS tM tL) : FnOk P w K mg base CX0 5 f fd ["self", "river", "rows"] (spGInit Cg Cr) := by
  obtain ⟨a1, d1, F1, m1⟩ := G.isName
  obtain ⟨a2, d2, F2, m2⟩ := G.isRow
  obtain ⟨a3, d3, F_need_rowsR, g_need_rowsR⟩ := G.needRows
  obtain ⟨a4, d4, F4, m4⟩ := G.isDown
  obtain ⟨a5, d5, Fway, Mway⟩ := G.way
  obtain ⟨a6, d6, F_those_over, M_those_over⟩ := G.those
  have G_need_rowsR : FnOk P w K mg base CX0 4 a3 d3 ["river", "rows"] (spNeedRowsR Cr) := ok_needrowsR F_need_rowsR F1 m1 F2 m2 F4 m4 G.D G.M T B C
  have b_need_rowsR : Binds K d3 ["river", "rows"] [] := F_need_rowsR.bindsN fun _ _ _ _ _ _ us hl => match us, hl with | [_, _], _ => rfl
  have Gway : FnOk P w K mg base CX0 3 a5 d5 ["self", "intake", "last"] (spWayS Cr) := ok_wayS Fway G.D T C
  have bway : Binds K d5 ["self", "intake", "last"] [] := Fway.bindsN fun _ _ _ _ _ _ us hl => match us, hl with | [_, _, _], _ => rfl
  have G_those_over : FnOk P w K mg base CX0 1 a6 d6 ["self", "weir"] (spThose Cg) := ok_those F_those_over TG B
  have b_those_over : Binds K d6 ["self", "weir"] [] := F_those_over.bindsN fun _ _ _ _ _ _ us hl => match us, hl with | [_, _], _ => rfl
  refine F.ok scGInit (fun vs H Q E h => ?_) (fun cdv A outer s H vs Q E hr h => ?_)
  · obtain ⟨p, q, l, dx, AR, BR, rfl, _⟩ := h
    rfl
  · obtain ⟨p, q, l, dx, AR, BR, rfl, hp, R, hG, hR, hB, k⟩ := h
    have hu := hu_of hr
    have hr_need_rowsR : Room 4 _ := hr
    have hrway : Room 3 _ := hr.mono (by decide)
    have hr_those_over : Room 1 _ := hr.mono (by decide)
    refine ⟨_, PSs.nox (pss_cons
      (ps_expr (pe_call G_need_rowsR hr_need_rowsR (by rfl) g_need_rowsR F_need_rowsR.kp b_need_rowsR .nil pass0 (pa_cons (pv 1) (pa_cons (pv 2) pa_nil))))
      (pss_cons
      (ps_fld (pv 0) (pv 1) rfl)
      (pss_cons
      (ps_fld (pv 0) (pe_callTy (tupleF (K := K)) (by rfl) B.tuple (by decide +kernel) (pa_cons (pe_lc (own := [("row", 3)]) (g := gName 3) (tt := tYes) (by rfl) scGInit.nd (pi_list (pv 2)) (blkOk_by (own := [("row", 3)]) (N := scGInit_N) (sc := defScope scGInit_S) (by decide +kernel)) (fun _ _ _ _ _ => (pg_name (i := 3) scGInit.nd rfl (Or.inl rfl))) (fun _ _ _ _ _ => pts_nil) (fun _ _ _ _ _ => (pe_ix (ixTK (K := K)) (pv 3) pe_int (fun _ _ => rfl)))) pa_nil)) rfl)
      (pss_cons
      (ps_fld (pv 0) (pe_callTy (tupleK (K := K)) (by rfl) B.tuple (by decide +kernel) (pa_cons (pv 2) pa_nil)) rfl)
      (pss_cons
      (ps_fld (pv 0) (pe_dc (own := [("name", 4), ("intake", 5), ("last", 6)]) (tt := tYes) (by rfl) scGInit.nd (pi_list (pv 2)) (blkOk_by (own := [("name", 4), ("intake", 5), ("last", 6)]) (N := scGInit_N) (sc := defScope scGInit_S) (by decide +kernel)) (fun _ _ _ _ _ => (tgK (K := K) (n := 3) (by rfl) (pgs_cons (pg_name (i := 4) scGInit.nd rfl (Or.inl rfl)) (pgs_cons (pg_name (i := 5) scGInit.nd rfl (Or.inl rfl)) (pgs_cons (pg_name (i := 6) scGInit.nd rfl (Or.inl rfl)) pgs_nil))))) (fun _ _ _ _ _ => pts_nil) (fun _ _ _ _ _ => (pv 4)) (fun _ _ _ _ _ => (pe_meth (pv 1) T.cl Mway Gway hrway bway .nil pass0 (pa_cons (pv 5) (pa_cons (pv 6) pa_nil))))) rfl)
      (pss_cons
      (ps_fld (pv 0) (pe_dc (own := [("row", 3)]) (g := gName 3) (tt := tYes) (by rfl) scGInit.nd (pi_list (pv 2)) (blkOk_by (own := [("row", 3)]) (N := scGInit_N) (sc := defScope scGInit_S) (by decide +kernel)) (fun _ _ _ _ _ => (pg_name (i := 3) scGInit.nd rfl (Or.inl rfl))) (fun _ _ _ _ _ => pts_nil) (fun _ _ _ _ _ => (pe_ix (ixTK (K := K)) (pv 3) pe_int (fun _ _ => rfl))) (fun _ _ _ _ _ => (pe_ix (ixTK (K := K)) (pv 3) pe_int (fun _ _ => rfl)))) rfl)
      (pss_one
      (ps_fld (pv 0) (pe_dc (own := [("weir", 7)]) (g := gName 7) (tt := tYes) (by rfl) scGInit.nd (pi_tup (fldK (K := K) (pv 1) rfl)) (blkOk_by (own := [("weir", 7)]) (N := scGInit_N) (sc := defScope scGInit_S) (by decide +kernel)) (fun _ _ _ _ _ => (pg_name (i := 7) scGInit.nd rfl (Or.inl rfl))) (fun _ _ _ _ _ => pts_nil) (fun _ _ _ _ _ => (pv 7)) (fun _ _ _ _ _ => (pe_meth (pv 0) TG.cl M_those_over G_those_over hr_those_over b_those_over .nil pass0 (pa_cons (pv 7) pa_nil)))) rfl)))))))), ?_⟩
    have hm := hB.most
    have hlb : (bOf BR).length = BR.length := List.length_map _
    have hln : (rnm (bOf BR)).length = BR.length := by rw [List.length_map, List.length_map]
    have hnd := hB.nd
    have hRm := hG.most
    have hAl : (rowsOf AR).length = AR.length := List.length_map _
    have hnl : (namesOf AR).length = AR.length := nmlen AR
    have notp : ∀ {Hk : Hp} {fs : List (Str × V)} {o : HO} {a : Addr}, Hk p = some (.ins Cg dx fs) → Hk a = some o → (∀ z1 z2 z3, o ≠ .ins z1 z2 z3) → a ≠ p := fun h1 h2 n => ne_of h2 h1 (n _ _ _)
    have hqp : ∀ {Hk : Hp} {fs : List (Str × V)}, Hk p = some (.ins Cg dx fs) → RivAt Cr Hk q AR → fs.lookup ("weirs" : Str) = none → q ≠ p := fun h1 r hno e => by
      obtain ⟨dx2, tw, tr, db, dc, da, du, o, j1, _⟩ := r.ex
      rw [e, h1] at j1
      injection j1 with j1
      injection j1 with j2 j3 j4
      rw [j4, g7w] at hno
      cases hno
    have hq0 : q ≠ p := hqp hp R rfl
    -- need_rows
    refine ⟨_, rfl, _, rfl, q, l, AR, BR, rfl, R, hG, hR, hB, fun H1 t1 => ?_⟩
    have p1 := t1 _ _ hp
    have R1 := Same.riv t1 R
    have b1 := hR.same t1
    -- self.river
    refine ⟨_, rfl, _, rfl, p, Cg, dx, _, rfl, p1, TG.cl, TG.river, by show 0 < 1000; decide, ?_⟩
    have step : ∀ {Hk : Hp} {fs fs2 : List (Str × V)}, Hk p = some (.ins Cg dx fs) → Upto p H Hk → RivAt Cr Hk q AR → BRows Hk l BR →
        Upto p H (upd Hk p (.ins Cg dx fs2)) ∧ RivAt Cr (upd Hk p (.ins Cg dx fs2)) q AR ∧ BRows (upd Hk p (.ins Cg dx fs2)) l BR ∧ Upto p Hk (upd Hk p (.ins Cg dx fs2)) := fun {Hk fs fs2} h1 u r b =>
      ⟨u.trans Upto.at_, riv_upto Upto.at_ ⟨_, _, _, h1⟩ hq0 r, ⟨by rw [upd_ne (notp h1 b.lst (fun _ _ _ z => by cases z))]; exact b.lst, fun z hz => by rw [upd_ne (notp h1 (b.tup z hz) (fun _ _ _ z => by cases z))]; exact b.tup z hz⟩, Upto.at_⟩
    obtain ⟨u2, R2, b2, v2⟩ := step (fs2 := r1 (.ref q)) p1 (Upto.of t1) R1 b1
    have p2 : (upd H1 p (.ins Cg dx (r1 (.ref q)))) p = some (.ins Cg dx (r1 (.ref q))) := upd_same
    show tSeq _ _ _ _ (upd H1 p (.ins Cg dx (r1 (.ref q))))
    generalize upd H1 p (.ins Cg dx (r1 (.ref q))) = H2 at u2 R2 b2 v2 p2
    -- self.names
    refine ⟨_, rfl, l, rfl, ⟨_, .inl (.inl b2.lst)⟩, fun D hD => ?_⟩
    refine lc_listO (K := K) (a := l) (xs := BR.map fun q => V.ref q.1) hD (fun i => ((rnm (bOf BR)).take i).map V.str) (by rw [List.take_zero]; rfl) (fun i hi => take_size (by omega) i (by rw [List.length_map] at hi ⊢; omega)) (.inl (.inl b2.lst)) ?_ ?_
    · intro i x H3 Nx hx s put skip
      have hi : i < BR.length := by
        have := (List.getElem?_eq_some_iff.mp hx).1
        rw [List.length_map] at this
        exact this
      have ex := brow_at hx hi
      subst ex
      refine ⟨rfl, ?_⟩
      unfold tYes
      refine iteT ?_
      refine ⟨_, rfl, BR[i].1, _, _, _, rfl, rfl, .inl (.inl (s _ _ (b2.tup _ (List.getElem_mem hi)))), atI_nat (j := 0) rfl, put _ _ (.refl _) (take_map1 (brow_nm hi))⟩
    intro H3 s3 hl
    rw [List.length_map, ← hln, List.take_length] at hl
    refine ⟨D, _, rfl, .inl (.inl hl), fun tn otn ntn ptn => ?_⟩
    have s4 : Same H2 (upd H3 tn (.frz otn (.tup ((rnm (bOf BR)).map V.str)))) := s3.trans (same_upd ntn)
    have n4 : FT (upd H3 tn (.frz otn (.tup ((rnm (bOf BR)).map V.str)))) tn (rnm (bOf BR)) := ⟨otn, ptn, upd_same⟩
    generalize upd H3 tn (.frz otn (.tup ((rnm (bOf BR)).map V.str))) = H4 at s4 n4
    have p4 := s4 _ _ p2
    have R4 := Same.riv s4 R2
    have b4 := b2.same s4
    have u4 : Upto p H H4 := u2.trans (Upto.of s4)
    refine ⟨_, rfl, p, Cg, dx, _, rfl, p4, TG.cl, TG.names, by have := rl1 (.ref q); omega, ?_⟩
    obtain ⟨u5, R5, b5, v5⟩ := step (fs2 := r2 (.ref q) (.ref tn)) p4 u4 R4 b4
    have p5 : (upd H4 p (.ins Cg dx (r2 (.ref q) (.ref tn)))) p = some (.ins Cg dx (r2 (.ref q) (.ref tn))) := upd_same
    have n5 := ft_upto v5 ⟨_, _, _, p4⟩ n4
    show tSeq _ _ _ _ (upd H4 p (.ins Cg dx (r2 (.ref q) (.ref tn))))
    generalize upd H4 p (.ins Cg dx (r2 (.ref q) (.ref tn))) = H5 at u5 R5 b5 v5 p5 n5
    -- self._rows
    refine ⟨_, rfl, l, _, rfl, .inl ⟨.inl (.inl b5.lst), fun tr ntr => ?_⟩⟩
    have s6 : Same H5 (upd H5 tr (.tup (BR.map fun q => V.ref q.1))) := same_upd ntr
    have o6 : (upd H5 tr (.tup (BR.map fun q => V.ref q.1))) tr = some (.tup (BR.map fun q => V.ref q.1)) := upd_same
    generalize upd H5 tr (.tup (BR.map fun q => V.ref q.1)) = H6 at s6 o6
    have p6 := s6 _ _ p5
    have R6 := Same.riv s6 R5
    have b6 := b5.same s6
    have n6 := n5.same s6
    have u6 : Upto p H H6 := u5.trans (Upto.of s6)
    refine ⟨_, rfl, p, Cg, dx, _, rfl, p6, TG.cl, TG._rows, by have := rl2 (.ref q) (.ref tn); omega, ?_⟩
    obtain ⟨u7, R7, b7, v7⟩ := step (fs2 := r3 (.ref q) (.ref tn) (.ref tr)) p6 u6 R6 b6
    have p7 : (upd H6 p (.ins Cg dx (r3 (.ref q) (.ref tn) (.ref tr)))) p = some (.ins Cg dx (r3 (.ref q) (.ref tn) (.ref tr))) := upd_same
    have n7 := ft_upto v7 ⟨_, _, _, p6⟩ n6
    have o7 : (upd H6 p (.ins Cg dx (r3 (.ref q) (.ref tn) (.ref tr)))) tr = some (.tup (BR.map fun q => V.ref q.1)) := v7 _ _ o6 (notp p6 o6 (fun _ _ _ z => by cases z))
    show tSeq _ _ _ _ (upd H6 p (.ins Cg dx (r3 (.ref q) (.ref tn) (.ref tr))))
    generalize upd H6 p (.ins Cg dx (r3 (.ref q) (.ref tn) (.ref tr))) = H7 at u7 R7 b7 v7 p7 n7 o7
    -- self._ways
    refine ⟨_, rfl, l, rfl, ⟨_, .inl (.inl b7.lst)⟩, fun dw ndw => ?_⟩
    have hle : (BR.map fun q => V.ref q.1).length = (rnm (bOf BR)).length := by rw [hln, List.length_map]
    have wl := walk_list (K := K) (a := l) (xs := BR.map fun q => V.ref q.1)
    rw [hle] at wl
    refine dc_itT (gg := wayN (rowsOf AR) (bOf BR)) wl hnd ndw (by omega) (fun H8 s => .inl (.inl (s _ _ b7.lst))) ?_ ?_
    · rintro i x y H8 H8' Nx hy s put ⟨rfl, hx⟩
      have hi : i < BR.length := by
        have := (List.getElem?_eq_some_iff.mp hx).1
        rw [List.length_map] at this
        exact this
      have ex := brow_at hx hi
      subst ex
      rw [brow_nm hi] at hy
      obtain rfl : BR[i].2.1 = y := Option.some.inj hy
      have hmem : BR[i] ∈ BR := List.getElem_mem hi
      have hrow : BR[i].2 ∈ bOf BR := List.mem_map.mpr ⟨_, hmem, rfl⟩
      refine ⟨BR[i].1, _, rfl, .inl (.inl (s _ _ (b7.tup _ hmem))), rfl, _, _, rfl, _, _, rfl, _, _, rfl, rfl, rfl, ?_⟩
      unfold tYes
      refine iteT ?_
      have R8 := Same.riv s R7
      obtain ⟨dx2, tw, tr2, db, dc, da, du, o, i1, _⟩ := id R8.ex
      refine ⟨_, rfl, _, rfl, q, dx2, _, rfl, i1, g7no _ _ _ _ _ _ _ (by decide +kernel) (by decide +kernel) (by decide +kernel) (by decide +kernel) (by decide +kernel) (by decide +kernel) (by decide +kernel), _, rfl, _, rfl, q, BR[i].2, AR, rfl, R8, hG, hB.inn _ hrow, hB.last _ hrow, fun t H9 s9 ht => ?_⟩
      rw [← way_of hnd hrow] at ht
      exact put t H9 s9 ht
    intro H8 s8 hw8
    have p8 := s8 _ _ p7
    have R8 := Same.riv s8 R7
    have b8 := b7.same s8
    have n8 := n7.same s8
    have o8 := s8 _ _ o7
    have u8 : Upto p H H8 := u7.trans (Upto.of s8)
    refine ⟨_, rfl, p, Cg, dx, _, rfl, p8, TG.cl, TG._ways, by have := rl3 (.ref q) (.ref tn) (.ref tr); omega, ?_⟩
    obtain ⟨u9, R9, b9, v9⟩ := step (fs2 := r4 (.ref q) (.ref tn) (.ref tr) (.ref dw)) p8 u8 R8 b8
    have p9 : (upd H8 p (.ins Cg dx (r4 (.ref q) (.ref tn) (.ref tr) (.ref dw)))) p = some (.ins Cg dx (r4 (.ref q) (.ref tn) (.ref tr) (.ref dw))) := upd_same
    have n9 := ft_upto v9 ⟨_, _, _, p8⟩ n8
    have o9 : (upd H8 p (.ins Cg dx (r4 (.ref q) (.ref tn) (.ref tr) (.ref dw)))) tr = some (.tup (BR.map fun q => V.ref q.1)) := v9 _ _ o8 (notp p8 o8 (fun _ _ _ z => by cases z))
    have w9 := tupsR_upto v9 ⟨_, _, _, p8⟩ hw8
    show tSeq _ _ _ _ (upd H8 p (.ins Cg dx (r4 (.ref q) (.ref tn) (.ref tr) (.ref dw))))
    generalize upd H8 p (.ins Cg dx (r4 (.ref q) (.ref tn) (.ref tr) (.ref dw))) = H9 at u9 R9 b9 v9 p9 n9 o9 w9
    -- self._lasts
    refine ⟨_, rfl, l, rfl, ⟨_, .inl (.inl b9.lst)⟩, fun dl ndl => ?_⟩
    refine dc_itO (walk_list (K := K) (a := l) (xs := BR.map fun q => V.ref q.1)) ndl (fun i => kmap (fun n => .str (rowB (bOf BR) n).2.2) ((rnm (bOf BR)).take i)) (by rw [List.take_zero]; rfl) (fun i hi => by rw [kmap_len, List.length_take]; exact small1000 (by omega)) (fun H10 s => .inl (.inl (s _ _ b9.lst))) ?_ ?_
    · rintro i x H10 H10' Nx hi s hcur put ⟨rfl, hx⟩
      have hi : i < BR.length := by rw [List.length_map] at hi; exact hi
      have ex := brow_at hx hi
      subst ex
      have hmem : BR[i] ∈ BR := List.getElem_mem hi
      have hrow : BR[i].2 ∈ bOf BR := List.mem_map.mpr ⟨_, hmem, rfl⟩
      refine ⟨rfl, ?_⟩
      unfold tYes
      refine iteT ?_
      refine ⟨_, rfl, BR[i].1, _, _, _, rfl, rfl, .inl (.inl (s _ _ (b9.tup _ hmem))), atI_nat (j := 0) rfl, _, rfl, BR[i].1, _, _, _, rfl, rfl, .inl (.inl (s _ _ (b9.tup _ hmem))), atI_nat (j := 2) rfl, ?_⟩
      refine put (Sum.inr BR[i].2.1) _ _ (.refl _) ?_
      have e := kmap_put (f := fun n => V.str (rowB (bOf BR) n).2.2) (nodup_take hnd (brow_nm hi))
      rw [row_of hnd hrow] at e
      rw [List.take_add_one, brow_nm hi]
      exact e.symm
    intro H10 s10 l10
    have hLB : (kmap (fun n => V.str (rowB (bOf BR) n).2.2) ((rnm (bOf BR)).take (BR.map fun q => V.ref q.1).length)) = lastB (bOf BR) := by
      rw [hle, List.take_length]
      rfl
    rw [hLB] at l10
    have p10 := s10 _ _ p9
    have R10 := Same.riv s10 R9
    have b10 := b9.same s10
    have n10 := n9.same s10
    have o10 := s10 _ _ o9
    have w10 := w9.same s10
    have u10 : Upto p H H10 := u9.trans (Upto.of s10)
    refine ⟨_, rfl, p, Cg, dx, _, rfl, p10, TG.cl, TG._lasts, by have := rl4 (.ref q) (.ref tn) (.ref tr) (.ref dw); omega, ?_⟩
    obtain ⟨u11, R11, b11, v11⟩ := step (fs2 := r5 (.ref q) (.ref tn) (.ref tr) (.ref dw) (.ref dl)) p10 u10 R10 b10
    have p11 : (upd H10 p (.ins Cg dx (r5 (.ref q) (.ref tn) (.ref tr) (.ref dw) (.ref dl)))) p = some (.ins Cg dx (r5 (.ref q) (.ref tn) (.ref tr) (.ref dw) (.ref dl))) := upd_same
    have n11 := ft_upto v11 ⟨_, _, _, p10⟩ n10
    have o11 : (upd H10 p (.ins Cg dx (r5 (.ref q) (.ref tn) (.ref tr) (.ref dw) (.ref dl)))) tr = some (.tup (BR.map fun q => V.ref q.1)) := v11 _ _ o10 (notp p10 o10 (fun _ _ _ z => by cases z))
    have w11 := tupsR_upto v11 ⟨_, _, _, p10⟩ w10
    have l11 : (upd H10 p (.ins Cg dx (r5 (.ref q) (.ref tn) (.ref tr) (.ref dw) (.ref dl)))) dl = some (.dK (lastB (bOf BR))) := v11 _ _ l10 (notp p10 l10 (fun _ _ _ z => by cases z))
    show Ends.nx _ _ (upd H10 p (.ins Cg dx (r5 (.ref q) (.ref tn) (.ref tr) (.ref dw) (.ref dl))))
    generalize upd H10 p (.ins Cg dx (r5 (.ref q) (.ref tn) (.ref tr) (.ref dw) (.ref dl))) = H11 at u11 R11 b11 v11 p11 n11 o11 w11 l11
    -- self._passing
    obtain ⟨dx3, tw, tr3, db, dc, da, du, o, i1, i2, _⟩ := id R11.ex
    refine ⟨_, rfl, q, Cr, dx3, _, _, rfl, i1, T.cl, T.weirs, g7w _ _ _ _ _ _ _, tw, rfl, ⟨_, .inl (.inl i2)⟩, fun dp ndp => ?_⟩
    have hle2 : ((namesOf AR).map V.str).length = (namesOf AR).length := List.length_map _
    have wt := walk_tup (K := K) (a := tw) (xs := (namesOf AR).map V.str)
    rw [hle2] at wt
    refine dc_itT (gg := passR (rowsOf AR) (bOf BR)) wt hG.nm.nd ndp (by omega) (fun H12 s => .inl (.inl (s _ _ i2))) ?_ ?_
    · rintro i x y H12 H12' Nx hy s put ⟨rfl, hx⟩
      rw [List.getElem?_map, hy] at hx
      obtain rfl : V.str y = x := Option.some.inj hx
      refine ⟨rfl, ?_⟩
      unfold tYes
      refine iteT ?_
      refine ⟨_, rfl, _, rfl, p, dx, _, rfl, s _ _ p11, rr5no _ _ _ _ _ (by decide +kernel), _, rfl, p, dx, tn, dw, _, y, rowsOf AR, bOf BR, rfl, s _ _ p11, rr5n _ _ _ _ _, rr5w _ _ _ _ _, (n11.same s).rd, w11.same s, hm, fun t H13 s13 ht => put t H13 s13 ht⟩
    intro H12 s12 hp12
    have p12 := s12 _ _ p11
    refine ⟨_, rfl, p, Cg, dx, _, rfl, p12, TG.cl, TG._passing, by have := rl5 (.ref q) (.ref tn) (.ref tr) (.ref dw) (.ref dl); omega, ?_⟩
    have v13 : Upto p H12 (upd H12 p (.ins Cg dx (r6 (.ref q) (.ref tn) (.ref tr) (.ref dw) (.ref dl) (.ref dp)))) := Upto.at_
    have hpx : ∃ C dx fs, H12 p = some (.ins C dx fs) := ⟨_, _, _, p12⟩
    have b12 := b11.same s12
    refine k _ ((u11.trans (Upto.of s12)).trans v13) ⟨dx, tn, tr, dw, dl, dp, upd_same, riv_upto v13 hpx hq0 (Same.riv s12 R11), ft_upto v13 hpx (n11.same s12), v13 _ _ (s12 _ _ o11) (notp p12 (s12 _ _ o11) (fun _ _ _ z => by cases z)), fun z hz => v13 _ _ (b12.tup z hz) (notp p12 (b12.tup z hz) (fun _ _ _ z => by cases z)), tupsR_upto v13 hpx (w11.same s12), tupsR_upto v13 hpx hp12, v13 _ _ (s12 _ _ l11) (notp p12 (s12 _ _ l11) (fun _ _ _ z => by cases z))⟩
end
end K0
end
section
set_option Elab.async false
set_option linter.all false
set_option maxRecDepth 100000
set_option maxHeartbeats 4000000
namespace L2
open PySem PySem.Spec PyProof.Rows
def tTru (K : PySem.W.Frag) (ta : TE) : TT := fun σ H Q => ta σ H fun x H' => ∃ k, TruV K x H' k ∧ Q k H'
theorem pt_tru {X : Cx} {K : PySem.W.Frag} {a : Expr} {ta : TE} (ha : PE X a ta) (he : ∀ whole, isTrue a X.env whole = (do let v ← whole; standAt a.pos; holding [v] (truthy v)) := by intro _; rfl) (e : X.K = K := by rfl) : PT X a (tTru K ta) := e ▸ pt_truth ha he
end L2
namespace K0
open PySem PySem.Spec PyProof.Rows L2
/-! ### what rights are asked, for rights that there are -/
structure Gm (K : PySem.W.Frag) (Cg : Addr) : Prop where
  has : ∃ f fd, FnM K "__contains__" "Rights.__contains__" sGContains f fd ∧ PySem.W.findIn K (.ref Cg) "__contains__" = some (some (.ref f)) ∧ PySem.W.isFn K (.ref f) = true
abbrev GHasG (Cg Cr : Addr) : Hp → Addr → V → Bool → Prop := fun H p x b => ∃ q AR BR n, RigAt Cg Cr H p q AR BR ∧ x = .str n ∧ b = decide (n ∈ rnm (bOf BR))
theorem scGContains : FnScope ["self", "x"] ["self", "x"] (defScope sGContains) := ⟨rfl, rfl, rfl, by decide +kernel, rfl, by decide +kernel, by decide +kernel⟩
theorem scNeedR : FnScope ["rights", "name"] ["rights", "name"] (defScope sNeedR) := ⟨rfl, rfl, rfl, by decide +kernel, rfl, by decide +kernel, by decide +kernel⟩
theorem scGLast : FnScope ["self", "name"] ["self", "name"] (defScope sGLast) := ⟨rfl, rfl, rfl, by decide +kernel, rfl, by decide +kernel, by decide +kernel⟩
theorem scGWay : FnScope ["self", "name"] ["self", "name"] (defScope sGWay) := ⟨rfl, rfl, rfl, by decide +kernel, rfl, by decide +kernel, by decide +kernel⟩
theorem scGRows : FnScope ["self"] ["self"] (defScope sGRows) := ⟨rfl, rfl, rfl, by decide +kernel, rfl, by decide +kernel, by decide +kernel⟩
/-- what stands at p, and that all is in order -/
structure RigOk (Cg Cr : Addr) (H : Hp) (p q : Addr) (AR : List (Addr × Row)) (BR : List (Addr × RRow)) : Prop where
  at_ : RigAt Cg Cr H p q AR BR
  g : GoodRows (rowsOf AR)
  b : RtOk (rowsOf AR) (bOf BR)
theorem RigOk.same {Cg Cr : Addr} {H H' : Hp} {p q : Addr} {AR : List (Addr × Row)} {BR : List (Addr × RRow)} (r : RigOk Cg Cr H p q AR BR) (s : Same H H') : RigOk Cg Cr H' p q AR BR := ⟨r.at_.same s, r.g, r.b⟩
abbrev wyN (AR : List (Addr × Row)) (BR : List (Addr × RRow)) (n : Str) : List Str := wayN (rowsOf AR) (bOf BR) n
def spNeedG (Cg Cr : Addr) : Sp := fun vs H Q _ => ∃ (p q : Addr) (n : Str) (AR : List (Addr × Row)) (BR : List (Addr × RRow)), vs = [.ref p, .str n] ∧ RigOk Cg Cr H p q AR BR ∧ n ∈ rnm (bOf BR) ∧ Q .non H
def spLastG (Cg Cr : Addr) : Sp := fun vs H Q _ => ∃ (p q : Addr) (n : Str) (AR : List (Addr × Row)) (BR : List (Addr × RRow)), vs = [.ref p, .str n] ∧ RigOk Cg Cr H p q AR BR ∧ n ∈ rnm (bOf BR) ∧ Q (.str (lastW (wyN AR BR n))) H
def spWayG (Cg Cr : Addr) : Sp := fun vs H Q _ => ∃ (p q : Addr) (n : Str) (AR : List (Addr × Row)) (BR : List (Addr × RRow)), vs = [.ref p, .str n] ∧ RigOk Cg Cr H p q AR BR ∧ n ∈ rnm (bOf BR) ∧ ∀ t, TxR H t (wyN AR BR n) → Q (.ref t) H
def spPassG (Cg Cr : Addr) : Sp := fun vs H Q _ => ∃ (p q : Addr) (y : Str) (AR : List (Addr × Row)) (BR : List (Addr × RRow)), vs = [.ref p, .str y] ∧ RigOk Cg Cr H p q AR BR ∧ y ∈ namesOf AR ∧ ∀ t, TxR H t (passR (rowsOf AR) (bOf BR) y) → Q (.ref t) H
def spRowsG (Cg Cr : Addr) : Sp := fun vs H Q _ => ∃ (p q : Addr) (AR : List (Addr × Row)) (BR : List (Addr × RRow)), vs = [.ref p] ∧ RigOk Cg Cr H p q AR BR ∧ ∀ l, H l = none → Q (.ref l) (upd H l (.lst (BR.map fun q => .ref q.1)))
def metR (R : List Row) (B : List RRow) (a : Str) : List Str := (rnm B).filter fun o => decide (o ≠ a) && meetB R B a o
theorem way_ne {R : List Row} (g : GoodRows R) {B : List RRow} (b : RtOk R B) {n : Str} (hn : n ∈ rnm B) : atI ((wayN R B n).map V.str) (-1) = some (.str (lastW (wayN R B n))) ∧ (wayN R B n).length ≤ 40 := by
  obtain ⟨r, hr, rfl⟩ := List.mem_map.mp hn
  obtain ⟨m, k, w⟩ := way_is g (b.inn r hr) (b.last r hr)
  rw [way_of b.nd hr]
  have h1 := w.one; have h2 := w.most; have h3 := w.c.most; have h4 := g.most
  constructor
  · rw [w.last, w.eq]
    exact last_of h1
  · rw [w.eq, List.length_map, List.length_range]
    omega
section
variable {P : Program} {w : World} {K : PySem.W.Frag} {mg : Str → Option Value} {base : Heap} {tS tM tL : Tok}
theorem ok_gcontains {f Cg Cr : Addr} {fd : FuncData} (F : FnM K "__contains__" "Rights.__contains__" sGContains f fd) (TG : Rg K mg Cg) (B : Bl mg) : FnOk P w K mg base CX0 1 f fd ["self", "x"] (spHas (GHasG Cg Cr)) := by
  refine F.ok scGContains (fun vs H Q E h => ?_) (fun cdv A outer s H vs Q E hr h => ?_)
  · obtain ⟨p, x, b, rfl, _⟩ := h
    rfl
  · obtain ⟨p, x, b, rfl, ⟨q, AR, BR, n, R, rfl, rfl⟩, k⟩ := h
    have hu := hu_of hr
    refine ⟨_, PSs.nox (pss_one
      (ps_ret (pe_and (pe_callB call_isi (by rfl) B.isinstance (by decide +kernel) (pa_cons (pv 1) (pa_cons (pe_bltn (v := .ty "str") (by rfl) B.str (by decide +kernel) rfl) pa_nil))) (pe_one (pe_cmp (pc_din hu (pv 1) (fldK (K := K) (pv 0) rfl)) rfl))))), ?_⟩
    obtain ⟨dx, tn, tr, dw, dl, dp, h1, h2, h3, h4, h5, h6, h7, h8⟩ := R.ex
    obtain ⟨ta, w1, w2⟩ := h6.ex
    refine ⟨_, rfl, .str n, .ty "str", _, _, true, rfl, .ty "str", .base (.str n), kit_ty (by decide +kernel), true, rfl, iteT ?_⟩
    refine ⟨_, rfl, _, rfl, p, Cg, dx, _, _, rfl, h1, TG.cl, TG._ways, rr6w _ _ _ _ _ _, ?_⟩
    by_cases hy : n ∈ rnm (bOf BR)
    · refine ⟨dw, some (.ref (ta n)), rfl, dget_rn (.inl w1) hy, ?_⟩
      rw [decide_eq_true hy] at k
      exact k
    · refine ⟨dw, none, rfl, .inl ⟨_, Sum.inr n, .inl w1, rfl, (kmap_not hy).symm⟩, ?_⟩
      rw [decide_eq_false hy] at k
      exact k
theorem ok_needG {f Cg Cr : Addr} {fd : FuncData} (F : FnP K "need_right" sNeedR f fd) (M : Gm K Cg) (TG : Rg K mg Cg) (B : Bl mg) : FnOk P w K mg base CX0 2 f fd ["rights", "name"] (spNeedG Cg Cr) := by
  obtain ⟨fC, fdC, FC, hs, hf⟩ := M.has
  have GC : FnOk P w K mg base CX0 1 fC fdC ["self", "x"] (spHas (GHasG Cg Cr)) := ok_gcontains FC TG B
  have bC : Binds K fdC ["self", "x"] [] := FC.bindsN fun _ _ _ _ _ _ us hl => match us, hl with | [_, _], _ => rfl
  refine F.ok scNeedR (fun vs H Q E h => ?_) (fun cdv A outer s H vs Q E hr h => ?_)
  · obtain ⟨p, q, n, AR, BR, rfl, _⟩ := h
    rfl
  · obtain ⟨p, q, n, AR, BR, rfl, R, hn, k⟩ := h
    refine ⟨_, PSs.nox (pss_one
      (ps_if (pt_cmpR (k0_notIn_own (K := K) GC hr hs hf bC) (pv 1) (pv 0) (by rfl)) (pss_one
      ps_never) pss_nil)), ?_⟩
    obtain ⟨dx, tn, tr, dw, dl, dp, h1, _⟩ := id R.at_.ex
    refine ⟨_, rfl, _, rfl, p, dx, _, true, rfl, h1, ⟨q, AR, BR, n, R.at_, rfl, (decide_eq_true hn).symm⟩, _, rfl, ?_⟩
    exact iteF k
/-- need_right and what it promises -/
structure NdG (P : Program) (w : World) (K : PySem.W.Frag) (mg : Str → Option Value) (base : Heap) (Cg Cr : Addr) : Prop where
  ex : ∃ f fd, FnP K "need_right" sNeedR f fd ∧ mg "need_right" = some (.ref f) ∧ FnOk P w K mg base CX0 2 f fd ["rights", "name"] (spNeedG Cg Cr)
theorem ok_lastG {f Cg Cr : Addr} {fd : FuncData} (F : FnM K "last" "Rights.last" sGLast f fd) (D : NdG P w K mg base Cg Cr) (TG : Rg K mg Cg) : FnOk P w K mg base CX0 3 f fd ["self", "name"] (spLastG Cg Cr) := by
  obtain ⟨fN, fdN, Fneed_right, gneed_right, Gneed_right⟩ := D.ex
  have bneed_right : Binds K fdN ["rights", "name"] [] := Fneed_right.bindsN fun _ _ _ _ _ _ us hl => match us, hl with | [_, _], _ => rfl
  refine F.ok scGLast (fun vs H Q E h => ?_) (fun cdv A outer s H vs Q E hr h => ?_)
  · obtain ⟨p, q, n, AR, BR, rfl, _⟩ := h
    rfl
  · obtain ⟨p, q, n, AR, BR, rfl, R, hn, k⟩ := h
    have hu := hu_of hr
    have hrneed_right : Room 2 _ := hr
    refine ⟨_, PSs.nox (pss_cons
      (ps_expr (pe_call Gneed_right hrneed_right (by rfl) gneed_right Fneed_right.kp bneed_right .nil pass0 (pa_cons (pv 0) (pa_cons (pv 1) pa_nil))))
      (pss_one
      (ps_ret (pe_ix (ixTK (K := K)) (pe_dget hu (fldK (K := K) (pv 0) rfl) (pv 1) (fun _ _ => rfl)) (pe_un un_neg pe_int) (fun _ _ => rfl))))), ?_⟩
    obtain ⟨dx, tn, tr, dw, dl, dp, h1, h2, h3, h4, h5, h6, h7, h8⟩ := id R.at_.ex
    obtain ⟨ta, w1, w2⟩ := h6.ex
    refine ⟨_, rfl, _, rfl, p, q, n, AR, BR, rfl, R, hn, ?_⟩
    exact ⟨_, rfl, p, Cg, dx, _, _, rfl, h1, TG.cl, TG._ways, rr6w _ _ _ _ _ _, _, rfl, dw, _, rfl, dget_rn (.inl w1) hn, _, rfl, ta n, _, _, _, rfl, rfl, .inl (w2 n hn), (way_ne R.g R.b hn).1, k⟩
theorem ok_wayG {f Cg Cr : Addr} {fd : FuncData} (F : FnM K "way" "Rights.way" sGWay f fd) (D : NdG P w K mg base Cg Cr) (TG : Rg K mg Cg) : FnOk P w K mg base CX0 3 f fd ["self", "name"] (spWayG Cg Cr) := by
  obtain ⟨fN, fdN, Fneed_right, gneed_right, Gneed_right⟩ := D.ex
  have bneed_right : Binds K fdN ["rights", "name"] [] := Fneed_right.bindsN fun _ _ _ _ _ _ us hl => match us, hl with | [_, _], _ => rfl
  refine F.ok scGWay (fun vs H Q E h => ?_) (fun cdv A outer s H vs Q E hr h => ?_)
  · obtain ⟨p, q, n, AR, BR, rfl, _⟩ := h
    rfl
  · obtain ⟨p, q, n, AR, BR, rfl, R, hn, k⟩ := h
    have hu := hu_of hr
    have hrneed_right : Room 2 _ := hr
    refine ⟨_, PSs.nox (pss_cons
      (ps_expr (pe_call Gneed_right hrneed_right (by rfl) gneed_right Fneed_right.kp bneed_right .nil pass0 (pa_cons (pv 0) (pa_cons (pv 1) pa_nil))))
      (pss_one
      (ps_ret (pe_dget hu (fldK (K := K) (pv 0) rfl) (pv 1) (fun _ _ => rfl))))), ?_⟩
    obtain ⟨dx, tn, tr, dw, dl, dp, h1, h2, h3, h4, h5, h6, h7, h8⟩ := id R.at_.ex
    obtain ⟨ta, w1, w2⟩ := h6.ex
    refine ⟨_, rfl, _, rfl, p, q, n, AR, BR, rfl, R, hn, ?_⟩
    exact ⟨_, rfl, p, Cg, dx, _, _, rfl, h1, TG.cl, TG._ways, rr6w _ _ _ _ _ _, _, rfl, dw, _, rfl, dget_rn (.inl w1) hn, k _ (w2 n hn)⟩
theorem ok_rowsG {f Cg Cr : Addr} {fd : FuncData} (F : FnM K "rows" "Rights.rows" sGRows f fd) (TG : Rg K mg Cg) (B : Bl mg) : FnOk P w K mg base CX0 1 f fd ["self"] (spRowsG Cg Cr) := by
  refine F.ok scGRows (fun vs H Q E h => ?_) (fun cdv A outer s H vs Q E hr h => ?_)
  · obtain ⟨p, q, AR, BR, rfl, _⟩ := h
    rfl
  · obtain ⟨p, q, AR, BR, rfl, R, k⟩ := h
    refine ⟨_, PSs.nox (pss_one
      (ps_ret (pe_callTy (listK (K := K)) (by rfl) B.list (by decide +kernel) (pa_cons (fldK (K := K) (pv 0) rfl) pa_nil)))), ?_⟩
    obtain ⟨dx, tn, tr, dw, dl, dp, h1, h2, h3, h4, h5, h6, h7, h8⟩ := id R.at_.ex
    exact ⟨_, rfl, p, Cg, dx, _, _, rfl, h1, TG.cl, TG._rows, rr6o _ _ _ _ _ _, tr, _, rfl, .inr (.inl (.inl h4)), fun l nl => k l nl⟩
end
end K0
end
section
set_option Elab.async false
set_option linter.all false
set_option maxRecDepth 100000
set_option maxHeartbeats 4000000
namespace K0
open PySem PySem.Spec PyProof.Rows L2
/-! ### the law draws rights -/
structure RNm (ns : List Str) : Prop where
  nd : ns.Nodup
  ok : ∀ x ∈ ns, NameOk x
theorem cut_take (xs : List V) (m : Nat) : cutV xs none (some (m : Int)) = xs.take m := by
  unfold cutV
  rw [HT.sIx_nat, HT.sIx_none, List.drop_zero, Nat.sub_zero, List.take_eq_take_iff]
  omega
theorem nodup_set {ns : List Str} {x : Str} (h : ns.Nodup) (hx : x ∉ ns) : ∀ i : Nat, (ns.set i x).Nodup := by
  induction ns with
  | nil => exact fun i => by simp
  | cons a r ih =>
    obtain ⟨h1, h2⟩ := List.nodup_cons.mp h
    intro i
    cases i with
    | zero => exact List.nodup_cons.mpr ⟨fun z => hx (List.mem_cons_of_mem _ z), h2⟩
    | succ i =>
      refine List.nodup_cons.mpr ⟨fun z => ?_, ih h2 (fun z => hx (List.mem_cons_of_mem _ z)) i⟩
      rcases List.mem_or_eq_of_mem_set z with e | e
      · exact h1 e
      · exact hx (e ▸ List.mem_cons_self)
theorem split3 {α β γ : Type} {R C : α → β → γ → Prop} {G : Prop} (use : (∀ a b c, R a b c → C a b c) → G) (key : ∀ a b c, R a b c → C a b c) : G := use key
abbrev scRNames_N : List Str := ["_law_bag_here", "_law_rows", "_law_many", "_law_names_here", "_law_row"]
abbrev scRNames_S : Stmt := sRNames
theorem scRNames : FnScope scRNames_N ["_law_bag_here", "_law_rows", "_law_many"] (defScope sRNames) := ⟨rfl, rfl, rfl, by decide +kernel, rfl, by decide +kernel, by decide +kernel⟩
def spRNames : Sp := fun vs H Q _ => ∃ (p l : Addr) (m : Nat) (AR : List (Addr × Row)), vs = [.ref p, .ref l, .int (m : Int)] ∧ BagAt H p ∧ l ≠ p ∧ RowsAt H l AR ∧ GoodRows (rowsOf AR) ∧ m ≤ 41 ∧
  ∀ (H' : Hp) (z : Addr) (ns : List Str), Upto p H H' → BagAt H' p → H z = none → z ≠ p → H' z = some (.lst (ns.map V.str)) → ns.length = m → RNm ns → Q (.ref z) H'
/-- what stands between the steps -/
structure RnS (H : Hp) (p l : Addr) (AR : List (Addr × Row)) (m : Nat) (H' : Hp) (z : Addr) (ns : List Str) : Prop where
  u : Upto p H H'
  bag : BagAt H' p
  new : H z = none
  zp : z ≠ p
  lst : H' z = some (.lst (ns.map V.str))
  len : ns.length = m
  ok : RNm ns
  sea : ("sea" : Str) ∉ ns
section
variable {P : Program} {w : World} {K : PySem.W.Frag} {mg : Str → Option Value} {base : Heap} {tS tM tL : Tok}
theorem ok_rnames {f : Addr} {fd : FuncData} (F : FnP K "_law_right_names" sRNames f fd) (T : Hf K mg) : FnOk P w K mg base CX0 4 f fd ["_law_bag_here", "_law_rows", "_law_many"] spRNames := by
  have B := T.B
  obtain ⟨fT, fdT, F_law_take, g_law_take⟩ := T.take
  obtain ⟨fO, fdO, F_law_of, g_law_of⟩ := T.of
  obtain ⟨fM, fdM, F_law_mixed, g_law_mixed⟩ := T.mixed
  obtain ⟨fN, fdN, F_law_names, g_law_names⟩ := T.names
  have G_law_take : FnOk P w K mg base CX0 1 fT fdT ["_law_bag_here", "_law_many"] spTake := ok_take F_law_take B
  have b_law_take : Binds K fdT ["_law_bag_here", "_law_many"] [] := F_law_take.bindsN fun _ _ _ _ _ _ us hl => match us, hl with | [_, _], _ => rfl
  have G_law_mixed : FnOk P w K mg base CX0 2 fM fdM ["_law_bag_here", "_law_some"] (spMixed K) := ok_mixed F_law_mixed F_law_take B g_law_take
  have b_law_mixed : Binds K fdM ["_law_bag_here", "_law_some"] [] := F_law_mixed.bindsN fun _ _ _ _ _ _ us hl => match us, hl with | [_, _], _ => rfl
  have G_law_names : FnOk P w K mg base CX0 3 fN fdN ["_law_bag_here", "_law_many"] spNames := ok_names F_law_names F_law_take F_law_of B g_law_take g_law_of
  have b_law_names : Binds K fdN ["_law_bag_here", "_law_many"] [] := F_law_names.bindsN fun _ _ _ _ _ _ us hl => match us, hl with | [_, _], _ => rfl
  refine F.ok scRNames (fun vs H Q E h => ?_) (fun cdv A outer s H vs Q E hr h => ?_)
  · obtain ⟨p, l, m, AR, rfl, _⟩ := h
    rfl
  · obtain ⟨p, l, m, AR, rfl, hB, hlp, hR, hG, hm, k⟩ := h
    have hr_law_take : Room 1 _ := hr.mono (by decide)
    have hr_law_mixed : Room 2 _ := hr.mono (by decide)
    have hr_law_names : Room 3 _ := hr
    refine ⟨_, PSs.nox (pss_cons
      (ps_set (i := 3) scRNames.nd rfl (Or.inl rfl) (pe_call G_law_names hr_law_names (by rfl) g_law_names F_law_names.kp b_law_names .nil pass0 (pa_cons (pv 0) (pa_cons (pv 2) pa_nil))))
      (pss_cons
      (ps_if (PW.pt (pw_and (pt_cmpR op_le (pv 2) (pe_callB (lenK (K := K)) (by rfl) B.len PySem.boot_len (pa_cons (pv 1) pa_nil)) (nomark _)) (pw_and1 (pt_cmpR op_eq (pe_call G_law_take hr_law_take (by rfl) g_law_take F_law_take.kp b_law_take .nil pass0 (pa_cons (pv 0) (pa_cons pe_int pa_nil))) pe_int (nomark _))))) (pss_one
      (ps_set (i := 3) scRNames.nd rfl (Or.inl rfl) (pe_slice sl_list (pe_lc (own := [("_law_row", 4)]) (g := gName 4) (tt := tYes) (by rfl) scRNames.nd (pi_list (pe_call G_law_mixed hr_law_mixed (by rfl) g_law_mixed F_law_mixed.kp b_law_mixed .nil pass0 (pa_cons (pv 0) (pa_cons (pv 1) pa_nil)))) (blkOk_by (own := [("_law_row", 4)]) (N := scRNames_N) (sc := defScope scRNames_S) (by decide +kernel)) (fun _ _ _ _ _ => (pg_name (i := 4) scRNames.nd rfl (Or.inl rfl))) (fun _ _ _ _ _ => pts_nil) (fun _ _ _ _ _ => (pe_ix (ixTK (K := K)) (pv 4) pe_int (fun _ _ => rfl)))) po_none (po_some (pv 2))))) pss_nil)
      (pss_cons
      (ps_if (PW.pt (pw_and (pt_cmpR op_gt (pv 2) pe_int (nomark _)) (pw_and1 (pt_cmpR op_eq (pe_call G_law_take hr_law_take (by rfl) g_law_take F_law_take.kp b_law_take .nil pass0 (pa_cons (pv 0) (pa_cons pe_int pa_nil))) pe_int (nomark _))))) (pss_one
      (ps_asg pe_str (pg_sub (pv 3) (pe_call G_law_take hr_law_take (by rfl) g_law_take F_law_take.kp b_law_take .nil pass0 (pa_cons (pv 0) (pa_cons (pv 2) pa_nil))) set_list))) pss_nil)
      (pss_one
      (ps_ret (pv 3)))))), ?_⟩
    have hAl : (rowsOf AR).length = AR.length := List.length_map _
    have hRm := hG.most
    have hnl : (namesOf AR).length = AR.length := nmlen AR
    refine ⟨_, rfl, _, rfl, p, m, rfl, hB, by omega, fun H1 z ns u1 B1 nz zp hz hlen hok => ?_⟩
    have hseaN : ("sea" : Str) ∉ ns := fun q => hok.sea _ q rfl
    have st0 : RnS H p l AR m H1 z ns := ⟨u1, B1, nz, zp, hz, hlen, ⟨hok.nd, hok.ok⟩, hseaN⟩
    have hR1 : RowsAt H1 l AR := hR.upto hB hlp u1
    refine split3 (α := Hp) (β := Addr) (γ := List Str) (R := fun H2 z2 ns2 => RnS H p l AR m H2 z2 ns2) (C := ?C) ?use ?key
    case use =>
      intro key
      refine ⟨_, rfl, _, rfl, l, _, rfl, .inl (.inl (.inl hR1.lst)), _, _, rfl, rfl, _, rfl, ?_⟩
      refine ite2 (fun hc => ?_) (fun hc => ?_)
      · have hc : m ≤ AR.length := by
          have := of_decide_eq_true hc
          rw [List.length_map] at this
          omega
        refine ⟨_, rfl, p, 3, rfl, B1, by decide, by decide, fun r xs hr0 hr1 hx => ?_⟩
        have u2 : Upto p H (upd H1 p (.lst xs)) := u1.trans Upto.at_
        have B2 : BagAt (upd H1 p (.lst xs)) p := ⟨xs, upd_same, hx⟩
        have hz2 : (upd H1 p (.lst xs)) z = some (.lst (ns.map V.str)) := by rw [upd_ne zp]; exact hz
        have hR2 : RowsAt (upd H1 p (.lst xs)) l AR := hR1.upto B1 hlp Upto.at_
        generalize upd H1 p (.lst xs) = H2 at u2 B2 hz2 hR2
        refine ⟨rfl, _, rfl, ?_⟩
        refine ite2 (fun hc2 => ?_) (fun hc2 => ?_)
        · refine ⟨_, rfl, _, rfl, p, l, _, rfl, B2, hlp, .inl (.inl hR2.lst), by rw [List.length_map]; omega, fun H3 y zs u3 B3 ny nyp hy hp => ?_⟩
          obtain ⟨AR', ezs, hp'⟩ := perm_lift hp AR rfl
          subst ezs
          have hR3 : RowsAt H3 l AR := hR2.upto B2 hlp u3
          have tup3 : ∀ q ∈ AR', H3 q.1 = some (.tup [.str q.2.1, .str q.2.2]) := fun q hq => hR3.tup q (hp'.mem_iff.mp hq)
          have hlen' : AR'.length = AR.length := hp'.length_eq
          refine ⟨y, rfl, ⟨_, .inl (.inl hy)⟩, fun D hD => ?_⟩
          refine lc_listO (K := K) (a := y) (xs := AR'.map fun q => V.ref q.1) hD (fun i => ((namesOf AR').take i).map V.str) (by rw [List.take_zero]; rfl) (fun i hi => by rw [List.length_map, List.length_take, nmlen]; exact small1000 (by omega)) (.inl (.inl hy)) ?_ ?_
          · intro i x H4 Nx hx s put skip
            have hi : i < AR'.length := by
              have := (List.getElem?_eq_some_iff.mp hx).1
              rw [List.length_map] at this
              exact this
            have ex := row_at hx hi
            subst ex
            have hni : (namesOf AR')[i]? = some AR'[i].2.1 := by
              show ((AR'.map (·.2)).map (·.1))[i]? = _
              rw [List.getElem?_map, List.getElem?_map, List.getElem?_eq_getElem hi]
              rfl
            refine ⟨rfl, ?_⟩
            unfold tYes
            refine iteT ?_
            exact ⟨_, rfl, AR'[i].1, _, _, _, rfl, rfl, .inl (.inl (s _ _ (tup3 _ (List.getElem_mem hi)))), atI_nat (j := 0) rfl, put _ _ (.refl _) (take_map1 hni)⟩
          intro H4 s4 hl4
          rw [List.length_map, ← nmlen AR', List.take_length] at hl4
          refine ⟨_, rfl, _, rfl, D, _, rfl, .inl (.inl hl4), fun z2 nz2 => ?_⟩
          obtain ⟨b3, hb3, hv3⟩ := id B3
          have u5 : Upto p H (upd H4 z2 (.lst (cutV ((namesOf AR').map V.str) none (some (m : Int))))) := (((u2.trans u3).trans (Upto.of s4))).trans (Upto.of (same_upd nz2))
          have z2p : z2 ≠ p := fun e => by
            rw [e, s4 _ _ hb3] at nz2
            cases nz2
          have B5 : BagAt (upd H4 z2 (.lst (cutV ((namesOf AR').map V.str) none (some (m : Int))))) p := ⟨b3, by rw [upd_ne z2p.symm]; exact s4 _ _ hb3, hv3⟩
          have hz5 : (upd H4 z2 (.lst (cutV ((namesOf AR').map V.str) none (some (m : Int))))) z2 = some (.lst (((namesOf AR').take m).map V.str)) := by rw [upd_same, cut_take, List.map_take]
          generalize upd H4 z2 (.lst (cutV ((namesOf AR').map V.str) none (some (m : Int)))) = H5 at u5 B5 hz5
          have hHz2 : H z2 = none := by
            cases e : H z2 with
            | none => rfl
            | some o =>
              rw [s4 _ _ (u3 _ _ (u2 _ _ e z2p) z2p)] at nz2
              cases nz2
          have hG' : GoodRows (rowsOf AR') := hG.perm (hp'.map _)
          have hst : RnS H p l AR m H5 z2 ((namesOf AR').take m) := ⟨u5, B5, hHz2, z2p, hz5, by rw [List.length_take, nmlen]; omega, ⟨hG'.nm.nd.sublist (List.take_sublist _ _), fun x hx => hG'.nm.ok x (List.mem_of_mem_take hx)⟩, fun q => hG'.nm.sea _ (List.mem_of_mem_take q) rfl⟩
          generalize (namesOf AR').take m = ns5 at hst
          exact key H5 z2 ns5 hst
        · exact key H2 z ns ⟨u2, B2, nz, zp, hz2, hlen, ⟨hok.nd, hok.ok⟩, hseaN⟩
      · exact key H1 z ns st0
    case key =>
      intro H2 z2 ns2 S
      have B2 := S.bag
      refine ⟨_, rfl, _, _, rfl, rfl, _, rfl, ?_⟩
      refine ite2 (fun hc => ?_) (fun hc => ?_)
      · have hc : 0 < m := by
          have := of_decide_eq_true hc
          omega
        refine ⟨_, rfl, p, 6, rfl, B2, by decide, by decide, fun r xs hr0 hr1 hx => ⟨rfl, _, rfl, ?_⟩⟩
        have u3 : Upto p H (upd H2 p (.lst xs)) := S.u.trans Upto.at_
        have B3 : BagAt (upd H2 p (.lst xs)) p := ⟨xs, upd_same, hx⟩
        have hz3 : (upd H2 p (.lst xs)) z2 = some (.lst (ns2.map V.str)) := by rw [upd_ne S.zp]; exact S.lst
        generalize upd H2 p (.lst xs) = H3 at u3 B3 hz3
        refine ite2 (fun hc2 => ?_) (fun hc2 => ?_)
        · refine ⟨_, rfl, _, rfl, _, rfl, p, (m : Int), rfl, B3, by omega, by omega, fun r2 xs2 hr2 hr3 hx2 => ?_⟩
          obtain ⟨rn, rfl⟩ : ∃ rn : Nat, r2 = (rn : Int) := ⟨r2.toNat, by omega⟩
          have u4 : Upto p H (upd H3 p (.lst xs2)) := u3.trans Upto.at_
          have B4 : BagAt (upd H3 p (.lst xs2)) p := ⟨xs2, upd_same, hx2⟩
          have hz4 : (upd H3 p (.lst xs2)) z2 = some (.lst (ns2.map V.str)) := by rw [upd_ne S.zp]; exact hz3
          generalize upd H3 p (.lst xs2) = H4 at u4 B4 hz4
          have hlen2 := S.len
          have hrn : rn < ns2.length := by omega
          refine ⟨z2, _, _, rn, rfl, rfl, hz4, ?_, ?_⟩
          · unfold ixN
            rw [List.length_map]
            simp only [Int.natCast_nonneg, if_true]
            rw [if_pos (by omega)]
            rfl
          · rw [show (ns2.map V.str).set rn (.str "sea") = (ns2.set rn "sea").map V.str by rw [List.map_set]]
            obtain ⟨b4, hb4, hv4⟩ := id B4
            refine ⟨_, rfl, k _ z2 (ns2.set rn "sea") (fun b o hb hn => ?_) ⟨b4, by rw [upd_ne S.zp.symm]; exact hb4, hv4⟩ S.new S.zp upd_same (by rw [List.length_set]; exact hlen2) ⟨nodup_set S.ok.nd S.sea rn, fun x hx => ?_⟩⟩
            · rw [upd_ne (ne_of_none hb S.new)]
              exact u4 _ _ hb hn
            · rcases List.mem_or_eq_of_mem_set hx with e | e
              · exact S.ok.ok x e
              · rw [e]
                exact sea_ok
        · exact ⟨_, rfl, k H3 z2 ns2 u3 B3 S.new S.zp hz3 S.len S.ok⟩
      · exact ⟨_, rfl, k H2 z2 ns2 S.u B2 S.new S.zp S.lst S.len S.ok⟩
end
end K0
end
section
set_option Elab.async false
set_option linter.all false
set_option maxRecDepth 100000
namespace K0
open PySem PySem.Spec PyProof.Rows L2
theorem iteYes {c A B : Prop} [Decidable c] (hc : ¬ c) (h : A) : if (!decide c) = true then A else B := by
  rw [decide_eq_false hc]
  exact iteT h
theorem iteNo {c A B : Prop} [Decidable c] (hc : ¬ ¬ c) (h : B) : if (!decide c) = true then A else B := by
  rw [decide_eq_true (Decidable.not_not.mp hc)]
  exact iteF h
theorem low_sea {R : List Row} (g : GoodRows R) : lowR R "sea" = "sea" := by
  unfold lowR
  cases e : R.find? (fun r => decide (r.1 = ("sea" : Str))) with
  | none => rfl
  | some r =>
    have h1 := List.mem_of_find?_eq_some e
    have h0 := List.find?_some e
    have h2 := of_decide_eq_true h0
    exact absurd h2 (g.nm.sea _ (List.mem_map.mpr ⟨r, h1, rfl⟩))
theorem itr_sea {low : Str → Str} (h : low "sea" = "sea") : ∀ n, itr low n "sea" = "sea"
  | 0 => rfl
  | n + 1 => by
    show low (itr low n "sea") = "sea"
    rw [itr_sea h n, h]
theorem crs_snoc {low : Str → Str} (h : low "sea" = "sea") : ∀ (n : Nat) (x : Str), crs low (n + 1) x = crs low n x ++ (if itr low n x = "sea" then [] else [itr low n x])
  | 0, x => rfl
  | n + 1, x => by
    show (if x = "sea" then [] else x :: crs low (n + 1) (low x)) = (if x = "sea" then [] else x :: crs low n (low x)) ++ _
    rw [itr_shift]
    by_cases hx : x = "sea"
    · subst hx
      rw [if_pos rfl, if_pos rfl, h, itr_sea h n, if_pos rfl]
      rfl
    · rw [if_neg hx, if_neg hx, crs_snoc h n (low x)]
      rfl
theorem itr_in {R : List Row} (g : GoodRows R) {x : Str} (hx : x ∈ nmsOf R) : ∀ n, itr (lowR R) n x = "sea" ∨ itr (lowR R) n x ∈ nmsOf R
  | 0 => .inr hx
  | n + 1 => by
    show lowR R (itr (lowR R) n x) = "sea" ∨ lowR R (itr (lowR R) n x) ∈ nmsOf R
    rcases itr_in g hx n with e | e
    · rw [e]
      exact .inl (low_sea g)
    · obtain ⟨r, hr, e1, e2⟩ := low_row e
      obtain ⟨rk, hk⟩ := g.rank
      rw [← e2]
      rcases hk r hr with z | ⟨z, _⟩
      · exact .inl z
      · exact .inr z
theorem merge_rows {R : List Row} : ∀ {Q : List Row} {ns : List Str}, (ns ++ Q.map (·.1)).Nodup → (∀ r ∈ Q, lowR R r.1 = r.2) → mergeK (kmap (fun y => .str (lowR R y)) ns) (Q.map fun r => ((Sum.inr r.1 : Key), V.str r.2)) = kmap (fun y => .str (lowR R y)) (ns ++ Q.map (·.1))
  | [], ns, _, _ => by
    show kmap (fun y => V.str (lowR R y)) ns = kmap (fun y => V.str (lowR R y)) (ns ++ [])
    rw [List.append_nil]
  | r :: Q, ns, hd, hl => by
    have hd2 : ((ns ++ [r.1]) ++ Q.map (·.1)).Nodup := by
      rw [List.append_assoc]
      exact hd
    have hn : r.1 ∉ ns := fun z => by
      have := List.nodup_append.mp hd
      exact this.2.2 r.1 z r.1 (by rw [List.map_cons]; exact List.mem_cons_self) rfl
    have ih := merge_rows (Q := Q) hd2 fun q hq => hl q (List.mem_cons_of_mem _ hq)
    have e1 : putK (kmap (fun y => V.str (lowR R y)) ns) (Sum.inr r.1) (V.str r.2) = kmap (fun y => V.str (lowR R y)) (ns ++ [r.1]) := by
      have := kmap_put (f := fun y => V.str (lowR R y)) hn
      rw [hl r List.mem_cons_self] at this
      exact this
    show mergeK (putK (kmap (fun y => V.str (lowR R y)) ns) (Sum.inr r.1) (V.str r.2)) (Q.map fun r => ((Sum.inr r.1 : Key), V.str r.2)) = _
    rw [e1, ih, List.append_assoc]
    rfl
theorem merge_all {R : List Row} (g : GoodRows R) : mergeK [] (R.map fun r => ((Sum.inr r.1 : Key), V.str r.2)) = belowK R :=
  merge_rows (R := R) (Q := R) (ns := []) (by simpa using g.nm.nd) fun r hr => low_at g.nm.nd hr
theorem rows_pairs {K : PySem.W.Frag} {H : Hp} : ∀ {AR : List (Addr × Row)}, (∀ q ∈ AR, H q.1 = some (.tup [.str q.2.1, .str q.2.2])) → Paired (fun p (kv : Key × V) => SqT K H p [kV kv.1, kv.2]) (AR.map (·.1)) ((rowsOf AR).map fun r => ((Sum.inr r.1 : Key), V.str r.2))
  | [], _ => .nil
  | q :: AR, h => .cons (.inl (.inl (h q List.mem_cons_self))) (rows_pairs fun z hz => h z (List.mem_cons_of_mem _ hz))
abbrev scLCourse_N : List Str := ["_law_rows", "_law_weir", "_law_below", "_law_found", "_law_k"]
theorem scLCourse : FnScope scLCourse_N ["_law_rows", "_law_weir"] (defScope sLCourse) := ⟨rfl, rfl, rfl, by decide +kernel, rfl, by decide +kernel, by decide +kernel⟩
def spLCourse : Sp := fun vs H Q _ => ∃ (l : Addr) (AR : List (Addr × Row)) (y : Str), vs = [.ref l, .str y] ∧ RowsAt H l AR ∧ GoodRows (rowsOf AR) ∧ y ∈ namesOf AR ∧
  ∀ (H' : Hp) (c : Addr), Same H H' → H c = none → H' c = some (.lst ((course (rowsOf AR) y).map V.str)) → Q (.ref c) H'
section
variable {P : Program} {w : World} {K : PySem.W.Frag} {mg : Str → Option Value} {base : Heap} {tS tM tL : Tok}
theorem ok_lcourse {f : Addr} {fd : FuncData} (F : FnP K "_law_course" sLCourse f fd) (B : Bl mg) : FnOk P w K mg base CX0 1 f fd ["_law_rows", "_law_weir"] spLCourse := by
  refine F.ok scLCourse (fun vs H Q E h => ?_) (fun cdv A outer s H vs Q E hr h => ?_)
  · obtain ⟨l, AR, y, rfl, _⟩ := h
    rfl
  · obtain ⟨l, AR, y, rfl, hR, hG, hy, k⟩ := h
    have hu := hu_of hr
    refine ⟨_, PSs.nox (pss_cons
      (ps_par (i := 2) (j := 3) (by rfl) scLCourse.nd rfl rfl (by decide) rfl rfl (pa_cons (pe_callTy (call_dictP rfl) (by rfl) B.dict (by decide +kernel) (pa_cons (pv 0) pa_nil)) (pa_cons (pe_lst pa_nil) pa_nil)) (by rfl))
      (pss_cons
      (ps_for PassesOwn.never rfl (pi_range1 (by rfl) B.range (pa_cons (pe_callB (lenK (K := K)) (by rfl) B.len PySem.boot_len (pa_cons (pv 0) pa_nil)) pa_nil)) (pg_name (i := 4) scLCourse.nd rfl (Or.inl rfl)) (pss_one
      (ps_if (pt_cmpR op_ne (pv 1) pe_str (nomark _)) (pss_cons
      (ps_expr (pe_bm PySem.F.plainAttrs_list PySem.F.slot_list_append PySem.F.type_list_append mt_append (pv 3) (pa_cons (pv 1) pa_nil)))
      (pss_one
      (ps_set (i := 1) scLCourse.nd rfl (Or.inl rfl) (pe_dget hu (pv 2) (pv 1) (fun _ _ => rfl))))) pss_nil)))
      (pss_one
      (ps_ret (pv 3))))), ?_⟩
    have hRm := hG.most
    have hAl : (rowsOf AR).length = AR.length := List.length_map _
    refine ⟨_, rfl, l, AR.map (·.1), (rowsOf AR).map fun r => ((Sum.inr r.1 : Key), V.str r.2), rfl, ?_, rows_pairs hR.tup, fun d nd => ?_⟩
    · rw [List.map_map]
      exact .inl (.inl hR.lst)
    rw [merge_all hG]
    refine ⟨Nat.zero_le _, fun c nc => ⟨_, _, rfl, ?_⟩⟩
    have ndc : d ≠ c := ne_of_none upd_same nc
    have nc0 : H c = none := by
      rw [upd_ne ndc.symm] at nc
      exact nc
    have s1 : Same H (upd (upd H d (.dK (belowK (rowsOf AR)))) c (.lst [])) := (same_upd nd).trans (same_upd nc)
    refine ⟨_, rfl, l, _, rfl, .inl (.inl (.inl (s1 _ _ hR.lst))), ((AR.map fun q => V.ref q.1).length : Int), rfl, by omega, by rw [List.length_map]; omega, ?_⟩
    refine for_range (n := (AR.map fun q => V.ref q.1).length) (lo := 0) (fun i σ H2 => ∃ v, σ = [some (.ref l), some (.str (itr (lowR (rowsOf AR)) i y)), some (.ref d), some (.ref c), v] ∧ Same H H2 ∧ H2 d = some (.dK (belowK (rowsOf AR))) ∧ H2 c = some (.lst ((crs (lowR (rowsOf AR)) i y).map V.str)) ∧ (crs (lowR (rowsOf AR)) i y).length ≤ i)
      ⟨none, rfl, s1, by rw [upd_ne ndc, upd_same], upd_same, Nat.le_refl _⟩ ?_ ?_
    · rintro i σ H2 hi ⟨v, rfl, s2, hd2, hc2, hl2⟩
      have hls := low_sea hG
      refine ⟨_, rfl, rfl, ?_⟩
      have hcz := crs_snoc hls i y
      rcases itr_in hG hy i with e | e
      · have ec : crs (lowR (rowsOf AR)) (i + 1) y = crs (lowR (rowsOf AR)) i y := by rw [hcz, if_pos e, List.append_nil]
        have ei : itr (lowR (rowsOf AR)) (i + 1) y = itr (lowR (rowsOf AR)) i y := by
          show lowR (rowsOf AR) (itr (lowR (rowsOf AR)) i y) = _
          rw [e, hls]
        refine ⟨_, rfl, ?_⟩
        refine iteNo (fun z => z (congrArg V.str e)) ?_
        exact ⟨_, by rw [ei]; rfl, s2, hd2, by rw [ec]; exact hc2, by rw [ec]; omega⟩
      · have en : itr (lowR (rowsOf AR)) i y ≠ "sea" := hG.nm.sea _ e
        have ec : crs (lowR (rowsOf AR)) (i + 1) y = crs (lowR (rowsOf AR)) i y ++ [itr (lowR (rowsOf AR)) i y] := by rw [hcz, if_neg en]
        refine ⟨_, rfl, ?_⟩
        refine iteYes (fun z => en (V.str.inj z)) ?_
        have hi40 : i ≤ 40 := by rw [List.length_map] at hi; omega
        have dc : d ≠ c := ne_of hd2 hc2 (fun z => by cases z)
        refine ⟨_, rfl, .inl ⟨rfl, _, .inl (.inl hc2)⟩, _, rfl, c, _, _, rfl, rfl, hc2, by rw [List.length_map]; exact small1000 (by omega), ?_⟩
        refine ⟨_, rfl, _, rfl, d, _, rfl, dget_rn (.inl ((upd_ne dc).trans hd2)) e, ?_⟩
        refine ⟨_, rfl, fun b o hb => ?_, (upd_ne dc).trans hd2, ?_, ?_⟩
        · rw [upd_ne (ne_of_none hb nc0)]
          exact s2 b o hb
        · rw [upd_same, ec, List.map_append]
          rfl
        · rw [ec, List.length_append]
          show _ + 1 ≤ i + 1
          omega
    · rintro σ H2 ⟨v, rfl, s2, hd2, hc2, hl2⟩
      have en : (AR.map fun q => V.ref q.1).length = (rowsOf AR).length := by rw [List.length_map, hAl]
      rw [en] at hc2
      exact ⟨_, rfl, k H2 c s2 nc0 hc2⟩
end
end K0
end
section
set_option Elab.async false
set_option linter.all false
set_option maxRecDepth 100000
set_option maxHeartbeats 4000000
namespace K0
open PySem PySem.Spec PyProof.Rows L2
abbrev scLRights_N : List Str := ["_law_bag_here", "_law_rows", "_law_many", "_law_found", "_law_name", "_law_course_here", "_law_at"]
abbrev scLRights_S : Stmt := sLRights
theorem scLRights : FnScope scLRights_N ["_law_bag_here", "_law_rows", "_law_many"] (defScope sLRights) := ⟨rfl, rfl, rfl, by decide +kernel, rfl, by decide +kernel, by decide +kernel⟩
/-- rows of rights, of any number -/
structure RtPre (R : List Row) (B : List RRow) : Prop where
  nd : (B.map (·.1)).Nodup
  ok : ∀ r ∈ B, NameOk r.1
  inn : ∀ r ∈ B, r.2.1 ∈ nmsOf R
  last : ∀ r ∈ B, r.2.2 = "sea" ∨ r.2.2 ∈ course R r.2.1
def spLRights : Sp := fun vs H Q _ => ∃ (p l : Addr) (m : Nat) (AR : List (Addr × Row)), vs = [.ref p, .ref l, .int (m : Int)] ∧ BagAt H p ∧ l ≠ p ∧ RowsAt H l AR ∧ GoodRows (rowsOf AR) ∧ m ≤ 41 ∧
  ∀ (H' : Hp) (z : Addr) (BR : List (Addr × RRow)), Upto p H H' → BagAt H' p → H z = none → z ≠ p → BRows H' z BR → RtPre (rowsOf AR) (bOf BR) → BR.length = m → Q (.ref z) H'
theorem eqV_str (a b : Str) : eqV (.str a) (.str b) = decide (a = b) := by
  show (a == b) = _
  rw [Bool.eq_iff_iff, beq_iff_eq, decide_eq_true_eq]
theorem bOf_snoc (BR : List (Addr × RRow)) (z : Addr × RRow) : bOf (BR ++ [z]) = bOf BR ++ [z.2] := List.map_append
theorem BRows.upto {H H' : Hp} {p l : Addr} {BR : List (Addr × RRow)} (r : BRows H l BR) (B : BagAt H p) (n : l ≠ p) (u : Upto p H H') : BRows H' l BR :=
  ⟨u _ _ r.lst n, fun q hq => u _ _ (r.tup q hq) (bag_ne B (r.tup q hq))⟩
section
variable {P : Program} {w : World} {K : PySem.W.Frag} {mg : Str → Option Value} {base : Heap} {tS tM tL : Tok}
theorem ok_lrights {f fN fC : Addr} {fd fdN fdC : FuncData} (F : FnP K "_law_rights" sLRights f fd) (F_law_right_names : FnP K "_law_right_names" sRNames fN fdN) (g_law_right_names : mg "_law_right_names" = some (.ref fN)) (F_law_course : FnP K "_law_course" sLCourse fC fdC) (g_law_course : mg "_law_course" = some (.ref fC)) (T : Hf K mg) : FnOk P w K mg base CX0 5 f fd ["_law_bag_here", "_law_rows", "_law_many"] spLRights := by
  have B := T.B
  obtain ⟨fT, fdT, F_law_take, g_law_take⟩ := T.take
  obtain ⟨fO, fdO, F_law_of, g_law_of⟩ := T.of
  have G_law_take : FnOk P w K mg base CX0 1 fT fdT ["_law_bag_here", "_law_many"] spTake := ok_take F_law_take B
  have b_law_take : Binds K fdT ["_law_bag_here", "_law_many"] [] := F_law_take.bindsN fun _ _ _ _ _ _ us hl => match us, hl with | [_, _], _ => rfl
  have G_law_of : FnOk P w K mg base CX0 2 fO fdO ["_law_bag_here", "_law_some"] (spOf K) := ok_of F_law_of F_law_take B g_law_take
  have b_law_of : Binds K fdO ["_law_bag_here", "_law_some"] [] := F_law_of.bindsN fun _ _ _ _ _ _ us hl => match us, hl with | [_, _], _ => rfl
  have G_law_course : FnOk P w K mg base CX0 1 fC fdC ["_law_rows", "_law_weir"] spLCourse := ok_lcourse F_law_course B
  have b_law_course : Binds K fdC ["_law_rows", "_law_weir"] [] := F_law_course.bindsN fun _ _ _ _ _ _ us hl => match us, hl with | [_, _], _ => rfl
  have G_law_right_names : FnOk P w K mg base CX0 4 fN fdN ["_law_bag_here", "_law_rows", "_law_many"] spRNames := ok_rnames F_law_right_names T
  have b_law_right_names : Binds K fdN ["_law_bag_here", "_law_rows", "_law_many"] [] := F_law_right_names.bindsN fun _ _ _ _ _ _ us hl => match us, hl with | [_, _, _], _ => rfl
  refine F.ok scLRights (fun vs H Q E h => ?_) (fun cdv A outer s H vs Q E hr h => ?_)
  · obtain ⟨p, l, m, AR, rfl, _⟩ := h
    rfl
  · obtain ⟨p, l, m, AR, rfl, hB, hlp, hR, hG, hm, k⟩ := h
    have hr_law_take : Room 1 _ := hr.mono (by decide)
    have hr_law_of : Room 2 _ := hr.mono (by decide)
    have hr_law_course : Room 1 _ := hr.mono (by decide)
    have hr_law_right_names : Room 4 _ := hr
    refine ⟨_, PSs.nox (pss_cons
      (ps_set (i := 3) scLRights.nd rfl (Or.inl rfl) (pe_lst pa_nil))
      (pss_cons
      (ps_for PassesOwn.never rfl (pi_list (pe_call G_law_right_names hr_law_right_names (by rfl) g_law_right_names F_law_right_names.kp b_law_right_names .nil pass0 (pa_cons (pv 0) (pa_cons (pv 1) (pa_cons (pv 2) pa_nil))))) (pg_name (i := 4) scLRights.nd rfl (Or.inl rfl)) (pss_cons
      (ps_set (i := 5) scLRights.nd rfl (Or.inl rfl) (pe_call G_law_course hr_law_course (by rfl) g_law_course F_law_course.kp b_law_course .nil pass0 (pa_cons (pv 1) (pa_cons (pe_ix (ixTK (K := K)) (pe_call G_law_of hr_law_of (by rfl) g_law_of F_law_of.kp b_law_of .nil pass0 (pa_cons (pv 0) (pa_cons (pv 1) pa_nil))) pe_int (fun _ _ => rfl)) pa_nil))))
      (pss_cons
      (ps_set (i := 6) scLRights.nd rfl (Or.inl rfl) (pe_call G_law_take hr_law_take (by rfl) g_law_take F_law_take.kp b_law_take .nil pass0 (pa_cons (pv 0) (pa_cons (pe_op op_add (pe_callB (lenK (K := K)) (by rfl) B.len PySem.boot_len (pa_cons (pv 5) pa_nil)) pe_int) pa_nil))))
      (pss_one
      (ps_expr (pe_bm PySem.F.plainAttrs_list PySem.F.slot_list_append PySem.F.type_list_append mt_append (pv 3) (pa_cons (pe_tup (pa_cons (pv 4) (pa_cons (pe_ix (ixLK (K := K)) (pv 5) pe_int (fun _ _ => rfl)) (pa_cons (pe_ifExp (pt_cmpR op_lt (pv 6) (pe_callB (lenK (K := K)) (by rfl) B.len PySem.boot_len (pa_cons (pv 5) pa_nil)) (nomark _)) (pe_ix (ixLK (K := K)) (pv 5) (pv 6) (fun _ _ => rfl)) pe_str) pa_nil)))) pa_nil)))))))
      (pss_one
      (ps_ret (pv 3))))), ?_⟩
    have hAl : (rowsOf AR).length = AR.length := List.length_map _
    have hRm := hG.most
    have hR1 := hG.one
    have hnl : (namesOf AR).length = AR.length := nmlen AR
    refine ⟨by show 0 ≤ sizeLine; decide, fun F0 hF => ?_⟩
    obtain ⟨b0, hb0, hv0⟩ := id hB
    have pF : p ≠ F0 := ne_of_none hb0 hF
    have s1 : Same H (upd H F0 (.lst [])) := same_upd hF
    have hF1 : (upd H F0 (.lst [])) F0 = some (.lst []) := upd_same
    generalize upd H F0 (.lst []) = H1 at s1 hF1
    have hBa : BagAt H1 p := ⟨b0, s1 _ _ hb0, hv0⟩
    refine ⟨_, rfl, _, rfl, _, rfl, p, l, m, AR, rfl, hBa, hlp, hR.same s1, hG, hm, fun H2 Z ns u2 B2 hZ1 zp hZ hlen hok => ?_⟩
    have zF : Z ≠ F0 := fun e => by
      rw [e, hF1] at hZ1
      cases hZ1
    have hHZ : H Z = none := by
      cases e : H Z with
      | none => rfl
      | some o =>
        rw [s1 _ _ e] at hZ1
        cases hZ1
    refine ⟨Z, rfl, ⟨_, .inl (.inl hZ)⟩, ?_⟩
    refine for_list (K := K) (a := Z) (xs := ns.map V.str) (fun i σ H3 => ∃ v4 v5 v6 BR, σ = [some (.ref p), some (.ref l), some (.int (m : Int)), some (.ref F0), v4, v5, v6] ∧ Upto p H H3 ∧ BagAt H3 p ∧ H3 Z = some (.lst (ns.map V.str)) ∧ BRows H3 F0 BR ∧ rnm (bOf BR) = ns.take i ∧
        (∀ r ∈ bOf BR, r.2.1 ∈ namesOf AR) ∧ ∀ r ∈ bOf BR, r.2.2 = "sea" ∨ r.2.2 ∈ course (rowsOf AR) r.2.1)
      ⟨none, none, none, [], rfl, (Upto.of s1).trans u2, B2, hZ, ⟨u2 _ _ hF1 pF.symm, fun q hq => by cases hq⟩, by rw [List.take_zero]; rfl, (fun r hr => by cases hr), fun r hr => by cases hr⟩ (fun i σ H3 hi h => by
        obtain ⟨_, _, _, _, _, _, _, h, _⟩ := h
        exact .inl (.inl h)) ?_ ?_
    · rintro i x σ H3 hx ⟨v4, v5, v6, BR, rfl, u3, B3, hZ3, hb3, hn3, hi3, hl3⟩
      rw [List.getElem?_map] at hx
      obtain ⟨n, hn, rfl⟩ := Option.map_eq_some_iff.mp hx
      have hR3 : RowsAt H3 l AR := hR.upto hB hlp u3
      -- course
      refine ⟨_, rfl, _, rfl, _, rfl, p, l, _, rfl, B3, hlp, .inl (.inl hR3.lst), by rw [List.length_map]; omega, by rw [List.length_map]; omega, fun j v xs hv hx4 => ?_⟩
      have hj : j < AR.length := by
        have := (List.getElem?_eq_some_iff.mp hv).1
        rw [List.length_map] at this
        exact this
      have ev := row_at hv hj
      subst ev
      have u4 : Upto p H (upd H3 p (.lst xs)) := u3.trans Upto.at_
      have B4 : BagAt (upd H3 p (.lst xs)) p := ⟨xs, upd_same, hx4⟩
      have hZ4 : (upd H3 p (.lst xs)) Z = some (.lst (ns.map V.str)) := by rw [upd_ne zp]; exact hZ3
      have hb4 : BRows (upd H3 p (.lst xs)) F0 BR := hb3.upto B3 pF.symm Upto.at_
      have hR4 : RowsAt (upd H3 p (.lst xs)) l AR := hR3.upto B3 hlp Upto.at_
      generalize upd H3 p (.lst xs) = H4 at u4 B4 hZ4 hb4 hR4
      have hym : AR[j].2.1 ∈ namesOf AR := List.mem_map.mpr ⟨_, List.mem_map.mpr ⟨_, List.getElem_mem hj, rfl⟩, rfl⟩
      refine ⟨AR[j].1, _, _, _, rfl, rfl, .inl (.inl (hR4.tup _ (List.getElem_mem hj))), atI_nat (j := 0) rfl, l, AR, AR[j].2.1, rfl, hR4, hG, hym, fun H5 c s5 hc0 hc => ?_⟩
      have B5 : BagAt H5 p := by
        obtain ⟨b4, hb, hv⟩ := B4
        exact ⟨b4, s5 _ _ hb, hv⟩
      have u5 : Upto p H H5 := u4.trans (Upto.of s5)
      have hZ5 := s5 _ _ hZ4
      have hb5 := hb4.same s5
      have cp : c ≠ p := by
        obtain ⟨b4, hb, hv⟩ := B4
        exact (ne_of_none hb hc0).symm
      obtain ⟨mc, hcs⟩ := course_is hG hym
      have hcl := hcs.len
      have hc1 := hcs.one
      have hc2 := hcs.most
      -- at
      refine ⟨_, rfl, _, rfl, c, _, rfl, .inl (.inl (.inl hc)), _, _, rfl, rfl, p, _, rfl, B5, ?_, ?_, fun r xs6 hr0 hr1 hx6 => ?_⟩
      · rw [List.length_map]; omega
      · rw [List.length_map]; omega
      rw [List.length_map, hcl] at hr1
      obtain ⟨rn, rfl⟩ : ∃ rn : Nat, r = (rn : Int) := ⟨r.toNat, by omega⟩
      have u6 : Upto p H (upd H5 p (.lst xs6)) := u5.trans Upto.at_
      have B6 : BagAt (upd H5 p (.lst xs6)) p := ⟨xs6, upd_same, hx6⟩
      have hZ6 : (upd H5 p (.lst xs6)) Z = some (.lst (ns.map V.str)) := by rw [upd_ne zp]; exact hZ5
      have hb6 : BRows (upd H5 p (.lst xs6)) F0 BR := hb5.upto B5 pF.symm Upto.at_
      have hc6 : (upd H5 p (.lst xs6)) c = some (.lst ((course (rowsOf AR) AR[j].2.1).map V.str)) := by rw [upd_ne cp]; exact hc
      show Ends.nx _ _ (upd H5 p (.lst xs6))
      generalize upd H5 p (.lst xs6) = H6 at u6 B6 hZ6 hb6 hc6
      have hBl : BR.length = i := by
        have h1 := congrArg List.length hn3
        rw [List.length_map, List.length_map, List.length_take] at h1
        have := (List.getElem?_eq_some_iff.mp hn).1
        omega
      have hnl2 := (List.getElem?_eq_some_iff.mp hn).1
      have h0 : (course (rowsOf AR) AR[j].2.1)[0]? = some AR[j].2.1 := by
        rw [hcs.eq, List.getElem?_map, List.getElem?_range (by omega)]
        rfl
      have fin : ∀ y : Str, (y = "sea" ∨ y ∈ course (rowsOf AR) AR[j].2.1) → ∀ t, H6 t = none → (upd H6 t (.tup [.str n, .str AR[j].2.1, .str y])) F0 = some (.lst (BR.map fun q => V.ref q.1)) ∧ (BR.map fun q => V.ref q.1).length < sizeLine ∧ ∃ v4 v5 v6 BR', [some (V.ref p), some (.ref l), some (.int (m : Int)), some (.ref F0), some (.str n), some (.ref c), some (.int (rn : Int))] = [some (V.ref p), some (.ref l), some (.int (m : Int)), some (.ref F0), v4, v5, v6] ∧
          Upto p H (upd (upd H6 t (.tup [.str n, .str AR[j].2.1, .str y])) F0 (.lst ((BR.map fun q => V.ref q.1) ++ [.ref t]))) ∧ BagAt (upd (upd H6 t (.tup [.str n, .str AR[j].2.1, .str y])) F0 (.lst ((BR.map fun q => V.ref q.1) ++ [.ref t]))) p ∧ (upd (upd H6 t (.tup [.str n, .str AR[j].2.1, .str y])) F0 (.lst ((BR.map fun q => V.ref q.1) ++ [.ref t]))) Z = some (.lst (ns.map V.str)) ∧
          BRows (upd (upd H6 t (.tup [.str n, .str AR[j].2.1, .str y])) F0 (.lst ((BR.map fun q => V.ref q.1) ++ [.ref t]))) F0 BR' ∧ rnm (bOf BR') = ns.take (i + 1) ∧ (∀ r ∈ bOf BR', r.2.1 ∈ namesOf AR) ∧ ∀ r ∈ bOf BR', r.2.2 = "sea" ∨ r.2.2 ∈ course (rowsOf AR) r.2.1 := fun y hy t nt => by
        have tF : F0 ≠ t := ne_of_none hb6.lst nt
        obtain ⟨b6, hb6', hv6⟩ := B6
        have tp : p ≠ t := ne_of_none hb6' nt
        have tZ : Z ≠ t := ne_of_none hZ6 nt
        refine ⟨by rw [upd_ne tF]; exact hb6.lst, by rw [List.length_map]; exact small1000 (by omega), _, _, _, BR ++ [(t, (n, AR[j].2.1, y))], rfl, fun b o hb hne => ?_, ⟨b6, by rw [upd_ne pF, upd_ne tp]; exact hb6', hv6⟩, by rw [upd_ne zF, upd_ne tZ]; exact hZ6, ⟨by rw [upd_same, List.map_append]; rfl, fun q hq => ?_⟩, ?_, fun r hr => ?_, fun r hr => ?_⟩
        · rw [upd_ne (ne_of_none hb hF), upd_ne (ne_of_none (u6 _ _ hb hne) nt)]
          exact u6 _ _ hb hne
        · rcases List.mem_append.mp hq with e | e
          · have h4 := hb6.tup q e
            rw [upd_ne (ne_of h4 hb6.lst (fun z => by cases z)), upd_ne (ne_of_none h4 nt)]
            exact h4
          · rw [List.mem_singleton.mp e, upd_ne tF.symm, upd_same]
        · rw [bOf_snoc]
          show (bOf BR ++ [(n, AR[j].2.1, y)]).map (·.1) = _
          rw [List.map_append]
          show rnm (bOf BR) ++ [n] = _
          rw [hn3, List.take_add_one, hn]
          rfl
        · rw [bOf_snoc] at hr
          rcases List.mem_append.mp hr with e | e
          · exact hi3 r e
          · rw [List.mem_singleton.mp e]
            exact hym
        · rw [bOf_snoc] at hr
          rcases List.mem_append.mp hr with e | e
          · exact hl3 r e
          · rw [List.mem_singleton.mp e]
            exact hy
      refine ⟨_, rfl, .inl ⟨rfl, _, .inl (.inl hb6.lst)⟩, _, rfl, _, rfl, c, _, _, .str AR[j].2.1, rfl, rfl, .inl (.inl hc6), at_of (j := 0) (by decide) (by rw [List.getElem?_map, h0]; rfl), ?_⟩
      refine ⟨_, rfl, _, rfl, c, _, rfl, .inl (.inl (.inl hc6)), _, _, rfl, rfl, _, rfl, ?_⟩
      refine ite2 (fun hcc => ?_) (fun hcc => ?_)
      · have hrl : rn < (course (rowsOf AR) AR[j].2.1).length := by
          have := of_decide_eq_true hcc
          rw [List.length_map] at this
          omega
        refine ⟨_, rfl, _, rfl, c, _, _, .str (course (rowsOf AR) AR[j].2.1)[rn], rfl, rfl, .inl (.inl hc6), at_of (j := rn) (by omega) (by rw [List.getElem?_map, List.getElem?_eq_getElem hrl]; rfl), by show 3 ≤ sizeLine; decide, fun t nt => ?_⟩
        obtain ⟨f1, f2, f3⟩ := fin _ (.inr (List.getElem_mem hrl)) t nt
        exact ⟨F0, _, _, rfl, rfl, f1, f2, f3⟩
      · refine ⟨by show 3 ≤ sizeLine; decide, fun t nt => ?_⟩
        obtain ⟨f1, f2, f3⟩ := fin "sea" (.inl rfl) t nt
        exact ⟨F0, _, _, rfl, rfl, f1, f2, f3⟩
    · rintro σ H3 ⟨v4, v5, v6, BR, rfl, u3, B3, hZ3, hb3, hn3, hi3, hl3⟩
      rw [List.length_map, List.take_length] at hn3
      have hBl : BR.length = m := by
        have h1 := congrArg List.length hn3
        rw [List.length_map, List.length_map] at h1
        omega
      exact ⟨_, rfl, k H3 F0 BR u3 B3 hF pF.symm hb3 ⟨by show (rnm (bOf BR)).Nodup; rw [hn3]; exact hok.nd, fun r hr => hok.ok _ (by rw [← hn3]; exact List.mem_map.mpr ⟨r, hr, rfl⟩), hi3, hl3⟩ hBl⟩
end
end K0
end
section
set_option Elab.async false
set_option linter.all false
set_option maxRecDepth 100000
namespace PySem
open Sem PySem.Spec PyProof.Rows
/-! ### list.__repr__, whatever is under way -/
theorem k0_list_head {M : Model} {A : Around} {E : Value → Shared → Prop} {s : Shared} {Q : Fin → Shared → Prop} {a : Addr} {o : Obj} {x : Value} {l : List Value} {n} {b : Nat}
    (hget : s.heap.get? a = some o) (hd : o.data = .seq (x :: l).toArray n)
    (h : wpAny M A (do again (.builtin "list.__repr__.loop" ⟨[.ref a, rawInt 0, ← newList [], rawInt b], []⟩)) Q E s)
    (h2 : wpAny M A (do rule "list.__repr__.in-itself"; retStr "[...]") Q E s) : wpAny M A (Builtin.listReprAt b ⟨[.ref a], []⟩) Q E s := by
  intro Γ p hΓ
  have q1 := h Γ p hΓ
  have q2 := h2 Γ p hΓ
  unfold Builtin.listReprAt
  simp [slotArgs, Builtin.List.listItems, seqItems?, wp_load_of (h := hget), hd, stack]
  show wp M Γ (if (Γ.below.any _) = true then _ else _) _ _ p s
  split
  · exact q2
  · exact q1
section
variable {prog : Program} {w : World} {A : Around} {E : Value → Shared → Prop} {s : Shared} {a : Addr} {oa : Obj} {x : Value} {l : List Value} {na : Nat} {ts : List Str}
theorem k0_way : ("[...]" : Str).length ≤ 5 := by decide +kernel
theorem k0_list_fin {R : Result → Shared → Prop} {b : Nat}
    (ha : s.heap.get? a = some oa) (hda : oa.data = .seq (x :: l).toArray na) (hlen : ts.length = (x :: l).toArray.size)
    (hT : ∀ (i : Nat) (y : Value), (x :: l).toArray[i]? = some y → ∃ t, ts[i]? = some t ∧ ReprIs prog w y t)
    (hR : ∀ h' (m : Str) (u : Tok) tk, m.length ≤ (listText ts).length + 5 → (∀ b o, s.heap.get? b = some o → h'.get? b = some o) → R (.ok (.ret (.str m u))) { s with heap := h', toks := tk })
    (hsz : b + (listText ts).length ≤ sizeLine) :
    wpAny (model prog w) A.in1 (Builtin.listReprAt b ⟨[.ref a], []⟩)
      (fun fin s' => match fin with | .done f => R (.ok f) s' | .again c' => c'.quiet = true ∧ codeAny (model prog w) A c' R s') (fun e s' => R (.error e) s') s := by
  refine k0_list_head (A := A.in1) ha hda ?_ ?_
  · refine wpAny_bind (m := newList []) (wpAny_newObj_type ?_)
    refine wpAny_pure ⟨F.quiet_list_repr_loop _, ?_⟩
    refine codeAny_list_repr_start (P := s.heap.objs.size) (Nat.ne_of_lt (Heap.lt_size ha)) hlen hT (Heap.get?_push_of_some _ ha) hda (Heap.get?_push_size _ rfl) (fun h' u tk hk => ?_) hsz
    exact hR h' (listText ts) u tk (Nat.le_add_right _ _) fun b o e => hk b o (Nat.ne_of_lt (Heap.lt_size e)) (Heap.get?_push_of_some _ e)
  · refine wpAny_bind (wpAny_rule ?_)
    refine wpAny_bind (wpAny_mkStr (wpAny_pure ?_) (by decide +kernel))
    exact hR s.heap "[...]" _ _ (Nat.le_trans k0_way (Nat.le_add_left _ _)) fun _ _ e => e
theorem k0_list_repr {Q : Value → Shared → Prop} (hTy : s.TypeIs (.ref a) "list") (hu : A.units < cLine)
    (ha : s.heap.get? a = some oa) (hda : oa.data = .seq (x :: l).toArray na) (hlen : ts.length = (x :: l).toArray.size)
    (hT : ∀ (i : Nat) (y : Value), (x :: l).toArray[i]? = some y → ∃ t, ts[i]? = some t ∧ ReprIs prog w y t)
    (hQ : ∀ h' (m : Str) (u : Tok) tk, m.length ≤ (listText ts).length + 5 → (∀ b o, s.heap.get? b = some o → h'.get? b = some o) → Q (.str m u) { s with heap := h', toks := tk })
    (hsz : (listText ts).length ≤ sizeLine) : wpAny (model prog w) A (pyReprObj (.ref a)) Q E s := by
  refine wpAny_pyReprObj_slot hu hTy F.slot_list_repr.toG ?_
  refine wpAny_call (codeAny_call_builtin F.slot_list_repr.plain F.entry_list_repr (F.slot_list_repr.check _ _ _ _ _ _ _ _ hTy (F.args_list_repr_1 _)
    (k0_list_fin (b := 0) (R := fun r s' => match r with | .ok (.ret v) => ∃ x t, v = .str x t ∧ Q v s' | .ok _ => False | .error e => E e s') ha hda hlen hT (fun h' m u tk hm k => ⟨m, u, rfl, hQ h' m u tk hm k⟩) (by omega))))
end
end PySem
namespace L2
open PySem PySem.Spec PyProof.Rows
/-! ### {x!r} of a value that is no weir -/
def Plain (y : Str) : Prop := ∀ c ∈ y.cps.toList, c < 1114112
theorem Plain.hex {y : Str} (h : Plain y) : ∀ c ∈ y.cps.toList, c < 16 ^ 8 := fun c hc => Nat.lt_trans (h c hc) (by decide)
/-- values whose text is short: texts, None, a bool, a whole number, lists and tuples of texts -/
inductive Shown (K : PySem.W.Frag) (H : Hp) : V → Prop where
  | str (y : Str) (h : Plain y) (z : y.length ≤ 1000) : Shown K H (.str y)
  | non : Shown K H .non
  | bl (b : Bool) : Shown K H (.bl b)
  | int (i : Int) (h : i.natAbs.log2 < 1920) (z : (Str.ofString (toString i)).length ≤ 30000) : Shown K H (.int i)
  | lst {a : Addr} {l : List Str} (e : H a = some (.lst (l.map V.str))) (h : ∀ y ∈ l, Plain y) (z : fmtCost l ≤ 20000) : Shown K H (.ref a)
  | tup {a : Addr} {l : List Str} (e : H a = some (.tup (l.map V.str))) (h : ∀ y ∈ l, Plain y) (z : fmtCost l ≤ 20000) : Shown K H (.ref a)
theorem Shown.same {K : PySem.W.Frag} {H H' : Hp} {x : V} (h : Shown K H x) (s : ∀ b o, H b = some o → (∀ z1 z2 z3, o ≠ .ins z1 z2 z3) → H' b = some o) : Shown K H' x := by
  cases h with
  | str y h z => exact .str y h z
  | non => exact .non
  | bl b => exact .bl b
  | int i h z => exact .int i h z
  | lst e h z => exact .lst (s _ _ e (fun _ _ _ q => by cases q)) h z
  | tup e h z => exact .tup (s _ _ e (fun _ _ _ q => by cases q)) h z
def tShow (K : PySem.W.Frag) (te : TE) : TE := fun σ H Q => te σ H fun x H1 => Shown K H1 x ∧ ∀ m : Str, m.length ≤ 30000 → Q (.str m) H1
section
variable {X : Cx}
theorem piled_sum : ∀ ts : List Str, (ts.map (·.length)).sum + 2 * ts.length = piled ts
  | [] => rfl
  | t :: r => by
    have ih := piled_sum r
    rw [piled_cons, List.map_cons, List.sum_cons, List.length_cons]
    omega
theorem list_text (ts : List Str) : (listText ts).length ≤ piled ts + 2 := by
  have e2 : ((("]" : String) : Str)).length = 1 := rfl
  have h := textFrom_len_le ts 0 "["
  have e1 : ((("[" : String) : Str)).length = 1 := rfl
  have h3 := piled_sum ts
  show (textFrom 0 "[" ts ++ "]").length ≤ _
  rw [strLen_append, e2]
  omega
theorem k0_30 : 30000 ≤ sizeLine := by rw [sizeLine_eq]; omega
theorem pe_show {e : Expr} {te : TE} {pos : Pos} {k : Nat} (hr : Room k X.A) (he : PE X e te) : PE X (.FormattedValue e 114 none pos) (tShow X.K te) := by
  refine ⟨fun pins s σ H Q I h => ?_⟩
  refine wpAny_FormattedValue_repr (thn (he.run pins s σ H _ I h) fun v s1 hv => ?_)
  obtain ⟨x, H1, I1, r1, sh, q⟩ := hv
  have hu := hr.units
  have fin : ∀ (m : Str) (t : Tok) (s2 : Shared), Inv X pins σ H1 s2 → m.length ≤ 30000 → wpAny (model X.prog X.w) X.A (formatField (.str m t) Str.empty) (EP X pins σ Q) X.xe s2 := fun m t s2 I2 hm =>
    wpAny_formatField_str ⟨.str m, H1, I2, ⟨t, rfl⟩, q m hm⟩ ⟨.str m, H1, I2.tok _, ⟨_, rfl⟩, q m hm⟩ (Nat.le_trans hm k0_30)
  cases sh with
  | str y hc z =>
    obtain ⟨t, rfl⟩ := r1
    have h1 := StrLaws.reprText_len y hc.hex
    exact pyReprObj_str (fin _ _ _ (I1.tok _) (by omega)) (by have := k0_30; omega)
  | non =>
    cases r1
    exact pyReprObj_none (fin _ _ _ (I1.tok _) (by decide +kernel))
  | bl b =>
    cases r1
    refine pyReprObj_bool (fin _ _ _ (I1.tok _) ?_)
    cases b <;> decide +kernel
  | int i hi z =>
    obtain ⟨t, rfl⟩ := r1
    exact pyReprObj_int hi (fin _ _ _ (I1.tok _) z)
  | @lst a l ea hc z =>
    cases r1
    have hp := fmt_piled l fun y hy => (hc y hy).hex
    have ht := list_text (l.map reprText)
    have h30 := k0_30
    obtain ⟨u1, its, n, rv, ho⟩ := (show ObjOk X.prog X.w H1 s1.heap a (.lst (l.map V.str)) from I1.hok a _ ea)
    have hl : ∀ y ∈ l, (reprText y).length ≤ sizeLine := fun y hy => by
      have h1 := StrLaws.reprText_len y (hc y hy).hex
      have h2 := fmtCost_mem hy
      omega
    have hT : ∀ (i : Nat) (y : Value), its.toArray[i]? = some y → ∃ t, (l.map reprText)[i]? = some t ∧ ReprIs X.prog X.w y t := fun i y hy => by
      rw [List.getElem?_toArray] at hy
      have hlen := rv.length
      have hi : i < its.length := (List.getElem?_eq_some_iff.mp hy).1
      rw [List.length_map] at hlen
      have hi2 : i < l.length := by omega
      have e1 : (l.map V.str)[i]? = some (V.str l[i]) := by rw [List.getElem?_map, List.getElem?_eq_getElem hi2]; rfl
      obtain ⟨u, hu2, ru⟩ := rv.get e1
      rw [hy] at hu2
      have e2 := Option.some.inj hu2
      subst e2
      obtain ⟨t, rfl⟩ := ru
      exact ⟨reprText l[i], by rw [List.getElem?_map, List.getElem?_eq_getElem hi2]; rfl, ReprIs.str l[i] t (hl _ (List.getElem_mem hi2))⟩
    have hlen : (l.map reprText).length = its.toArray.size := by
      have hlen := rv.length
      rw [List.length_map] at hlen
      rw [List.length_map, List.size_toArray]
      exact hlen
    cases its with
    | nil => exact wpAny_pyReprObj_list_empty ⟨_, ho, rfl⟩ (by omega) ho rfl (fin _ _ _ (I1.tok _) (by decide +kernel))
    | cons u0 us => exact k0_list_repr ⟨_, ho, rfl⟩ (by omega) ho rfl hlen hT (fun h' m u tk hm k => fin m u _ (I1.kept k) (by omega)) (by omega)
  | @tup a l ea hc z =>
    cases r1
    have hp := fmt_piled l fun y hy => (hc y hy).hex
    have ht := fmt_text (l.map reprText)
    have h30 := k0_30
    obtain ⟨u1, its, rv, o, ho, hcl, n, hd⟩ := (show ObjOk X.prog X.w H1 s1.heap a (.tup (l.map V.str)) from I1.hok a _ ea)
    have hl : ∀ y ∈ l, (reprText y).length ≤ sizeLine := fun y hy => by
      have h1 := StrLaws.reprText_len y (hc y hy).hex
      have h2 := fmtCost_mem hy
      omega
    refine wpAny_pyReprObj_slot (by omega) ⟨o, ho, hcl⟩ F.slot_tuple_repr ?_
    exact fmt_tuple_repr (ts := l.map reprText) ho hcl hd (repr_all rv hl) (by omega) fun m u tk hm => ⟨m, u, rfl, fin m u _ (I1.tok _) (by omega)⟩
end
end L2
end
section
set_option Elab.async false
set_option linter.all false
set_option maxRecDepth 100000
set_option maxHeartbeats 1000000
namespace L2
open PySem PySem.Spec PyProof.Rows
open PySem.W (kxs_mw ks_superObj)
/-! ### an own exception whose __init__ says super().__init__(e) and self.f = v -/
/-- such an __init__, as the top has made it: C its class -/
structure SupF (P : Program) (K : PySem.W.Frag) (mg : Str → Option Value) (C : Addr) (x qual : Str) (params : Arguments) (body : List Stmt) (scope : Scope) (f : Addr) (fd : FuncData) : Prop where
  ex : ∃ (oc : Value) (od : Option Addr) (doc pm : Value) (cda : Addr) (ct : Value) (cc : Addr) (osl : Array (Option Value)),
    fd = PySem.W.ksFn x qual params body scope .none .none doc pm none (.ref cda) ct cc ∧ K.lookup f = some ⟨oc, od, .func fd, osl⟩ ∧ PySem.W.codeIn K (.ref cda) qual = true ∧
    (∃ (ccl : Value) (cdd : Option Addr) (vs : Array Value) (ccs : Array (Option Value)) (file : Str) (tf : Tok), K.lookup cda = some ⟨ccl, cdd, .fields vs, ccs⟩ ∧ vs[2]? = some (.str file tf) ∧ ((P.main.file : Str) == file) = true) ∧
    ∃ (cl : Value) (cld : Option Addr) (csl : Array (Option Value)), K.lookup cc = some ⟨cl, cld, .cell (some (.ref C)), csl⟩
  top : (P.main.scope.names.lookup ("super" : Str)).isSome = false
  exc : OexC K C
  sub : PySem.W.mroIn K C (.ref C) = some true
  subV : PySem.W.subIn K (.ref C) (.type "ValueError") = some true
  sup : PySem.W.ks_superIn K C C "__init__" = some (some (.builtin "ValueError.__init__"))
  opq : PySem.W.nsIn K cStatics "thirdparty.any" = some none
  sg : mg "super" = none
section
variable {X : Cx} {pins : List (Addr × Obj)} {σ : St} {H : Hp} {s : Shared} {a C u : Addr} {E : Value → Shared → Prop} {A : Around}
/-- the built-in __init__, bound to the object, called -/
theorem k0_mw_call {us : List Value} {Q : Value → Shared → Prop} (T : OexC X.K C) (I : Inv X pins σ H s) (e : H a = some (exo a C none)) (hu : s.heap.get? u = some (kxs_mw "ValueError.__init__" a)) (hl : us.length ≤ sizeLine) (h : ∀ s', Inv X pins σ H s' → Q .none s') :
    wpAny (model X.prog X.w) A (call (.ref u) us) Q E s := by
  obtain ⟨nm, q, N, bs, bm, sn, sub, ab, col, dd, k0, k1, k2, k3, k5, hC, hbm⟩ := T.cls
  obtain ⟨t1, ho⟩ := exo_at I.hok e
  have hC' := I.kIn _ _ hC
  obtain ⟨hh, g, d, tk, os⟩ := s
  refine wpAny_call (codeAny_of_tree ?_)
  show wpAny _ A.in1 (callAny (.ref u) ⟨us, []⟩) _ _ _
  simp only [callAny]
  refine wpAny_bind (wpAny_load hu ?_)
  simp only [kxs_mw, show (Value.type "method-wrapper" == Value.type "method" || Value.type "method-wrapper" == Value.type "builtin_function_or_method" || Value.type "method-wrapper" == Value.type "method-wrapper") = true by decide, if_true]
  refine PySem.W.KFB.if_so (by decide) ?_
  refine wpAny_bind (PySem.W.check_bound_init F.excBase_ValueError.toExcCallFacts hC' ho rfl ?_)
  refine wpAny_bind (wpAny_pure (wpAny_pure ?_))
  refine ⟨plainId_quiet F.excBase_ValueError.init.plain _, codeAny_builtin F.excBase_ValueError.initEntry ?_⟩
  refine PySem.W.exc_init_tree (cls := .ref C) (t0 := t1) (dv := none) (c2 := .none) (c3 := .none) (b4 := .bool false) ho hl fun h' k e' t' => ?_
  have J := I.write (t' := tk) (x := a) (e := a) (o := exo a C none) (by rw [e]; exact True.intro) (.inl rfl) k ⟨_, e'⟩ (exo_ok e')
  have eu : upd H a (exo a C none) = H := by
    funext b
    by_cases hb : b = a
    · rw [hb, upd_same, e]
    · rw [upd_ne hb]
  rw [eu] at J
  exact h _ J
end

/-! ### its body walked -/
abbrev supScope : Scope := { kind := .function, names := [("self", .local), ("name", .local), ("__class__", .free), ("super", .globalImplicit)], isGenerator := false, isCoroutine := false, more := [] }
abbrev supN : List Str := ["self", "name", "__class__"]
theorem supNS : NdefX.NScope supN ["self", "name"] ["__class__"] supScope := NdefX.nscope_by (by decide +kernel)
def spSup (K : PySem.W.Frag) (C : Addr) : Sp := fun vs H Q _ => ∃ (a : Addr) (x : V), vs = [.ref a, x] ∧ H a = some (exo a C none) ∧ Shown K H x ∧
  ∀ dx, H dx = none → dx ≠ a → Q .non (upd (upd H dx (exd dx [(("name" : Str), x)])) a (exo a C (some dx)))
section
variable {P : Program} {w : World} {K : PySem.W.Frag} {mg : Str → Option Value} {base : Heap} {C f : Addr} {fd : FuncData} {x qual : Str} {params : Arguments}
theorem ok_sup {txt : Str} {n : Nat} {p0 p1 p2 p3 p4 p5 p6 p7 p8 p9 p10 p11 p12 : Pos} {ar : Arg} (hp : (params.posonlyargs ++ params.args).head? = some ar) (har : ar.arg = "self") (htx : txt.length ≤ 1000)
    (S : SupF P K mg C x qual params [.Expr (.Call (.Attribute (.Call (.Name "super" p0) [] [] p1) "__init__" p2) [.JoinedStr [.Constant (.str txt) n p3, .FormattedValue (.Name "name" p4) 114 none p5] p6] [] p7) p8, .Assign [.Attribute (.Name "self" p9) "name" p10] (.Name "name" p11) p12] supScope f fd)
    (hno : PySem.W.findIn K (.ref C) "name" = some none)
    (he : ∀ (q : Str) (L f0 : Addr) (cd : Value) (cl : List (Str × Addr)), ∃ pl : Sem Bool, eval (.Call (.Attribute (.Call (.Name "super" p0) [] [] p1) "__init__" p2) [.JoinedStr [.Constant (.str txt) n p3, .FormattedValue (.Name "name" p4) 114 none p5] p6] [] p7) (PySem.W.envX q supScope L f0 cd cl) = (do
      let ov ← attributeBase (.Call (.Name "super" p0) [] [] p1) "__init__" (PySem.W.envX q supScope L f0 cd cl) (eval (.Call (.Name "super" p0) [] [] p1) (PySem.W.envX q supScope L f0 cd cl))
      standAt p2.atName
      let (f, first) ← holding [ov] (getMethod ov "__init__" pl)
      callWith p7 f first (backTo p7 (starEach [.JoinedStr [.Constant (.str txt) n p3, .FormattedValue (.Name "name" p4) 114 none p5] p6] (PySem.W.envX q supScope L f0 cd cl))) [])) :
    FnOk P w K mg base CX0 1 f fd ["self", "name"] (spSup K C) := by
  obtain ⟨oc, od, doc, pm, cda, ct, cc, osl, rfl, lk, hcd, ⟨ccl, cdd, cvs, ccs, file, tf, hcode, hvs, hfile⟩, cl, cld, csl, hcell⟩ := S.ex
  refine ⟨fun vs H Q E h => ?_, fun A outer s H args us vs Q E hr e0 hb r hsp => ?_⟩
  · obtain ⟨a, y, rfl, _⟩ := h
    rfl
  obtain ⟨a, y, rfl, ha, sh, k⟩ := hsp
  have KX : K.In s.heap := e0.mod.kin.keeps fun b o e => (e0.bs b o e).1
  have lim : s.heap.NoLimit := e0.mod.nolimit.keeps fun b o e => (e0.bs b o e).1
  have kN : ∀ {b : Addr} {o : Obj}, K.lookup b = some o → H b = none := fun e => (e0.bs _ _ (e0.mod.kin _ _ e)).2
  refine ks_codeAny_call_defAt hr.depth (KX _ _ lk) rfl lim (PySem.W.codeRec_of KX hcd) rfl hb (show ∀ y ∈ supScope.names, y.2 ≠ .cell by decide) (fun ⟨n, v⟩ hy => ?_) (fun h₁ hns kp => ?_)
  · have := supNS.par n (List.of_mem_zip hy).1
    exact this
  have CA : NdefX.CellsAt [(("__class__" : Str), cc)] ["__class__"] [some (V.ref C)] s.heap H := {
    len := rfl
    all := fun y c e => by
      have e2 : c = cc := by
        by_cases hy : y = "__class__"
        · subst hy
          simpa [List.lookup] using e.symm
        · have : (y == ("__class__" : Str)) = false := by simpa using hy
          simp [List.lookup, this] at e
      subst e2
      exact ⟨kN hcell, ⟨_, ⟨_, KX _ _ hcell, rfl⟩⟩⟩
    inj := fun y1 y2 c e1 e2 => by
      have key : ∀ {y : Str}, List.lookup y [(("__class__" : Str), cc)] = some c → y = "__class__" := fun {y} e => by
        by_cases hy : y = "__class__"
        · exact hy
        · have : (y == ("__class__" : Str)) = false := by simpa using hy
          simp [List.lookup, this] at e
      rw [key e1, key e2]
    has := fun i y e => by
      cases i with
      | zero =>
        cases e
        refine ⟨cc, by simp [List.lookup], fun v e2 => ?_⟩
        cases e2
        exact ⟨.ref C, rfl, ⟨_, KX _ _ hcell, rfl⟩⟩
      | succ i => cases e }
  have I0 := NdefX.inv_startN (CX := CX0) (E := E) (f := f) (tk := s.toks + ((["self", "name"] : List Str).zip us).length) (F := ⟨x, qual, params, [.Expr (.Call (.Attribute (.Call (.Name "super" p0) [] [] p1) "__init__" p2) [.JoinedStr [.Constant (.str txt) n p3, .FormattedValue (.Name "name" p4) 114 none p5] p6] [] p7) p8, .Assign [.Attribute (.Name "self" p9) "name" p10] (.Name "name" p11) p12], supScope, [("__class__", cc)], cda⟩) supNS hr.hd e0 rfl r CA hns kp
  generalize hs1 : ({ s with heap := h₁, toks := s.toks + ((["self", "name"] : List Str).zip us).length } : Shared) = s1 at I0
  obtain ⟨pl, hpl⟩ := he qual s.heap.objs.size f (.ref cda) [(("__class__" : Str), cc)]
  refine ks_wpAt_execs_cons (ks_wpAt_Expr_any (ks_wpAt_MethodCall (pl := pl) ?_ hpl))
  have hmg : mg "super" = none := S.sg
  have hos := exo_at I0.hok ha
  obtain ⟨t1, ho⟩ := hos
  obtain ⟨nm, q, N, bs, bm, sn, sub, ab, col, dd, k0, k1, k2, k3, k5, hC, hbm⟩ := S.exc.cls
  have hC1 := I0.kIn _ _ hC
  obtain ⟨mb, hb1, hb2⟩ := I0.mod.blt
  obtain ⟨m, hm, hlook⟩ := I0.loc
  have hself : m "self" = some (.ref a) := by
    obtain ⟨u, ru, lk2⟩ := hlook 0 "self" (.ref a) rfl rfl (.inl rfl)
    cases ru
    rcases lk2 with ⟨_, e⟩ | ⟨e, _⟩
    · exact e
    · exfalso
      revert e
      show ¬ ((List.lookup ("self" : Str) supScope.names = some .cell) ∨ (List.lookup ("self" : Str) supScope.names = some .free))
      decide
  refine ks_wpAt_super_base rfl rfl (by decide) rfl (I0.kIn _ _ lk) rfl hp rfl (I0.kIn _ _ hcode) rfl hvs hfile S.top ?_
  rw [har]
  refine PySem.W.ks_loadName_global rfl rfl (Calls.loadGlobal_builtin (I0.mod.glob.keeps I0.bk) hmg (hb1.keeps I0.bk) ((hb2 "super" (by decide)).trans Boot.super) ⟨rfl, ?_⟩)
  refine wpAny_loadName_free rfl rfl rfl ⟨_, I0.kIn _ _ hcell, rfl⟩ ?_
  refine wpAny_loadName_local rfl rfl hm hself ?_
  refine ks_wpAny_isType_cls hC1 rfl ⟨rfl, ?_⟩
  clear hs1
  obtain ⟨hh, g, d, tk, os⟩ := s1
  refine ks_wpAny_call_super hC1 rfl ho rfl (fun c e => by cases e) (PySem.W.looks_mroIn I0.kIn S.sub) (fun h' e kk => ?_)
  have I1 := I0.kept (h' := h') (t' := tk) kk
  have hcls : PySem.W.clsIn K C = some { name := nm, bases := bs, mro := .ref C :: bm, ns := N, qualname := q, hasDict := true, slotNames := sn, subclasses := sub, abstract := ab, collection := col, hasDel := false } := by unfold PySem.W.clsIn; rw [hC]
  have hsup := S.sup
  unfold PySem.W.ks_superIn at hsup
  rw [hcls] at hsup
  have J : PySem.W.InstAt h' a { cls := .ref C, dict := none, data := .fields #[.ref t1, .none, .none, .none, .bool false, .none] } C none := ⟨kk _ _ ho, rfl, rfl, trivial⟩
  refine PySem.W.kxs_getMethod PySem.W.kxs_ValueError e (PySem.W.looks_opaque I1.kIn S.opq) (l₀ := .ref C :: bm) (fun A Q E s k q => wpAny_bind ((PySem.W.looks_clsIn I1.kIn hcls) A _ E s k (wpAny_pure q))) rfl I1.kIn hsup (J.type.andThen (PySem.W.looks_subIn I1.kIn S.subV)) (PySem.W.ks_ne I1.kIn J hcls) (by decide) ?_
  have I2 := I1.kept (h' := h'.push (kxs_mw "ValueError.__init__" a)) (t' := tk + 1) fun b o e => Heap.get?_push_of_some _ e
  have hu0 : (h'.push (kxs_mw "ValueError.__init__" a)).get? h'.objs.size = some (kxs_mw "ValueError.__init__" a) := Heap.get?_push_size _ rfl
  have I3 := I2.pins_of (pins' := [(h'.objs.size, kxs_mw "ValueError.__init__" a)]) fun p hp => by
    cases List.mem_singleton.mp hp
    exact ⟨hu0, I1.hok.fresh (Nat.le_refl _), Nat.ne_of_gt I1.lt, I1.nofs (Nat.le_refl _), fun v z => by cases z⟩
  generalize h'.push (kxs_mw "ValueError.__init__" a) = h2 at hu0 I2 I3
  have hrX : Room 0 (A.deeper (NdefX.envF ⟨x, qual, params, [.Expr (.Call (.Attribute (.Call (.Name "super" p0) [] [] p1) "__init__" p2) [.JoinedStr [.Constant (.str txt) n p3, .FormattedValue (.Name "name" p4) 114 none p5] p6] [] p7) p8, .Assign [.Attribute (.Name "self" p9) "name" p10] (.Name "name" p11) p12], supScope, [(("__class__" : Str), cc)], cda⟩ f s.heap.objs.size)) := hr.deeper _
  show wpAny _ _ (callWith p7 (.ref h'.objs.size) [] (backTo p7 (starEach [.JoinedStr [.Constant (.str txt) n p3, .FormattedValue (.Name "name" p4) 114 none p5] p6] _)) []) _ _ _
  refine PySem.W.kxs_callWith (i := "ValueError.__init__") (x := a) rfl (PySem.Calls.evalArgs_plain ?_)
  have hPA : PA (NdefX.ncx CX0 P w K mg base supN ⟨x, qual, params, [.Expr (.Call (.Attribute (.Call (.Name "super" p0) [] [] p1) "__init__" p2) [.JoinedStr [.Constant (.str txt) n p3, .FormattedValue (.Name "name" p4) 114 none p5] p6] [] p7) p8, .Assign [.Attribute (.Name "self" p9) "name" p10] (.Name "name" p11) p12], supScope, [(("__class__" : Str), cc)], cda⟩ f A outer s H E) [.JoinedStr [.Constant (.str txt) n p3, .FormattedValue (.Name "name" p4) 114 none p5] p6] _ :=
    pa_cons (pe_joined (.cons pe_str (.cons (pe_show hrX (pv 1)) .nil))) pa_nil
  have hz : ∀ m : Str, m.length ≤ 30000 → (Str.empty ++ txt ++ m).length ≤ sizeLine := fun m hm => by
    have h30 : 40000 ≤ sizeLine := by rw [sizeLine_eq]; omega
    have e0 : Str.empty.length = 0 := rfl
    rw [strLen_append, strLen_append, e0]
    omega
  have hz0 : (Str.empty ++ txt).length ≤ sizeLine := by
    have h30 : 40000 ≤ sizeLine := by rw [sizeLine_eq]; omega
    have e0 : Str.empty.length = 0 := rfl
    rw [strLen_append, e0]
    omega
  refine thn (hPA.run p7 _ _ _ H (fun vs H2 => H2 = H ∧ ∃ m : Str, vs = [.str m]) I3 ?_) fun us s3 ⟨vs, H3, I4, r4, eH, m4, ev⟩ => ?_
  · refine ⟨txt, rfl, hz0, y, rfl, sh, fun m hm => ⟨m, rfl, hz m hm, rfl, _, rfl⟩⟩
  subst ev
  have eH2 : H = H3 := eH.symm
  clear eH
  subst eH2
  obtain ⟨u4, rfl, _⟩ := vals1 r4
  have hu3 : s3.heap.get? h'.objs.size = some (kxs_mw "ValueError.__init__" a) := (I4.pin _ (List.mem_append_right _ (List.mem_singleton.mpr rfl))).1
  refine ⟨hu3, ?_⟩
  show wpAny _ _ (call (.ref h'.objs.size) [u4]) _ _ _
  have I5 := I4.pins_of (pins' := []) fun p hp => by cases hp
  refine k0_mw_call S.exc I5 ha hu3 (by rw [sizeLine_eq]; show 1 ≤ _; omega) fun s5 I6 => ?_
  refine wpAt_of_wpAny ?_
  have hP2 : PSs (NdefX.ncx CX0 P w K mg base supN ⟨x, qual, params, [.Expr (.Call (.Attribute (.Call (.Name "super" p0) [] [] p1) "__init__" p2) [.JoinedStr [.Constant (.str txt) n p3, .FormattedValue (.Name "name" p4) 114 none p5] p6] [] p7) p8, .Assign [.Attribute (.Name "self" p9) "name" p10] (.Name "name" p11) p12], supScope, [(("__class__" : Str), cc)], cda⟩ f A outer s H E) [.Assign [.Attribute (.Name "self" p9) "name" p10] (.Name "name" p11) p12] _ :=
    pss_one (ps_ost (pv 0) (pv 1))
  refine wpAny_mono (hP2.run [] s5 _ H { nx := fun _ H' => Q .non H', rt := Q } I6 ⟨y, rfl, .ref a, rfl, a, C, rfl, S.exc, hno, .inl ⟨ha, fun dx h1 h2 => k dx h1 h2⟩⟩) (fun fl s' hs => ?_) fun e s' hs => hs
  cases fl with
  | ret u =>
    obtain ⟨v, σ', H', J, rv, q⟩ := hs
    exact ⟨v, H', J.os, J.bare, J.base, J.hok, rv, q⟩
  | next =>
    obtain ⟨σ', H', J, q⟩ := hs
    exact ⟨.non, H', J.os, J.bare, J.base, J.hok, rfl, q⟩
  | brk =>
    obtain ⟨_, _, _, q⟩ := hs
    exact False.elim q
  | cont =>
    obtain ⟨_, _, _, q⟩ := hs
    exact False.elim q
end
end L2
end
section
set_option Elab.async false
set_option linter.all false
set_option maxRecDepth 100000
set_option maxHeartbeats 4000000
namespace L2
open PySem PySem.Spec PyProof.Rows
/-! ### several except clauses, each with a name for the error or without -/
/-- a clause: its class, the slot of its name, its suite's reading -/
structure Clause where
  cls : Value
  slot : Option Nat
  ts : Addr → Value → Option Addr → TS
/-- what is wanted behind a clause's suite: its name is gone -/
def endsC (D : Ends) : Option Nat → Ends
  | none => D
  | some i => { nx := fun σ H => D.nx (σ.set i none) H, rt := D.rt, bk := fun σ H => D.bk (σ.set i none) H, ct := fun σ H => D.ct (σ.set i none) H }
def inC (σ : St) (a : Addr) : Option Nat → St
  | none => σ
  | some i => σ.set i (some (.ref a))
def wCl (K : PySem.W.Frag) (Wout : WX) (D : Ends) : List Clause → WX
  | [] => Wout
  | c :: r => fun cls d σ H => ∃ b, PySem.W.exmOne K cls c.cls = some b ∧ (b = true → ∀ a, H a = none → c.ts a cls d (endsC D c.slot) (inC σ a c.slot) H) ∧ (b = false → wCl K Wout D r cls d σ H)
/-- the name of a clause and its slot go together -/
def NameC (X : Cx) : Option Str → Option Nat → Prop
  | none, none => True
  | some n, some i => X.N.Nodup ∧ X.N[i]? = some n ∧ X.env.kindOf n = some .local
  | _, _ => False
inductive Clauses (X : Cx) : List ExceptHandler → List Clause → Prop
  | done : Clauses X [] []
  | more {x : Str} {nm : Option Str} {c : Clause} {b₀ : Stmt} {suite : List Stmt} {np p' : Pos} {hds : List ExceptHandler} {l : List Clause} (hc : Names X x c.cls) (hn : NameC X nm c.slot)
      (hsu : ∀ (a : Addr) (oe : Obj) (cls : Value) (d : Option Addr) (pn : List (Addr × Obj)), Zc cls d oe → (∃ vs, oe.data = .fields vs) → PSs (X.suite a ((a, oe) :: pn)) (b₀ :: suite) (c.ts a cls d)) (r : Clauses X hds l) :
      Clauses X (.ExceptHandler (some (.Name x np)) nm (b₀ :: suite) p' :: hds) (c :: l)
section
variable {X : Cx} {body : List Stmt} {h₀ : ExceptHandler} {hds : List ExceptHandler} {l : List Clause} {pos : Pos} {tb : WX → TS} {Wout : WX}
theorem k0_try_named (hs : X.stack = X.env :: X.outer) (hf : X.env.frame = some X.env.locals) (tk : Takes X Wout)
    (hb : ∀ (W : WX) (pn : List (Addr × Obj)) (xe : Value → Shared → Prop), Takes (X.tr pn xe) W → PassesOwn (model X.prog X.w) X.A X.env xe → PSs (X.tr pn xe) body (tb W))
    (hh : Clauses X (h₀ :: hds) l) : PS X (.Try body (h₀ :: hds) [] [] pos) (fun D σ H => tb (wCl X.K Wout D l) D σ H) := by
  refine ⟨fun pins s σ H D I h => wpAny_Try_except ?_⟩
  have ok := I.ok
  have hfr : X.A.frames = some (X.env :: X.outer) := ok.frames.trans (by rw [hs])
  -- an exception comes to the clauses
  have caught : ∀ (xe0 : Value → Shared → Prop) (u : Value) (s1 : Shared), XE (X.tr (X.pn ++ pins) xe0) (wCl X.K Wout D l) u s1 →
      wpAny (model X.prog X.w) X.A (noteFrame u X.env) (fun _ s2 => wpAny (model X.prog X.w) X.A (setFlight u none) (fun _ s3 => wpAny (model X.prog X.w) X.A (handleBy u X.env (h₀ :: hds)) (SP X pins D) X.xe s3) X.xe s2) X.xe s1 := by
    rintro xe0 u s1 ⟨a, B, sI, q0, σ1, H1, cls, d, rfl, J0, nb, up, sky, na, os, ag, w⟩
    have J : Inv X pins σ1 H1 sI := J0.ofTry ok
    have sky' : Sky B (X.env :: X.outer) a (Zc cls d) X.env.locals s1.heap := hs ▸ sky
    refine Sky.land Zc.steady hfr hf sky' fun h3 fl up3 => ?_
    obtain ⟨oe, vs, he, hz, hd⟩ := fl.there
    have Jh : Inv X pins σ1 H1 { s1 with heap := h3 } := J.landed nb fl.1 (up.trans up3) os ag
    have away : a ∉ frs (X.env :: X.outer) := fun hm => by
      obtain ⟨_, o2, e2, n2⟩ := fl.2.2.1.mem hm
      rw [he] at e2
      cases e2
      exact n2 _ hd
    have nL : a ≠ X.env.locals := fun z => away (List.mem_filterMap.mpr ⟨X.env, List.mem_cons_self, hf.trans (by rw [z])⟩)
    have nF : a ∉ X.fs := fun hm => by
      obtain ⟨e, he2, q⟩ := List.mem_filterMap.mp hm
      exact away (List.mem_filterMap.mpr ⟨e, List.mem_cons_of_mem _ he2, q⟩)
    have Sh := Jh.suite he hd na nL nF
    have LT : PySem.W.Looks (model X.prog X.w) h3 (typeOf (.ref a)) cls := fun A Q E s k q => wpAny_typeOf_ref (k _ _ he) (hz.1 ▸ q)
    suffices key : ∀ (hds : List ExceptHandler) (l : List Clause), Clauses X hds l → wCl X.K Wout D l cls d σ1 H1 → wpAny (model X.prog X.w) X.A (handleBy (.ref a) X.env hds) (SP X pins D) X.xe { s1 with heap := h3 } from key _ _ hh w
    intro hds l hk
    induction hk with
    | done =>
      -- no clause takes it: it goes on
      intro wo
      refine wpAny_handleBy_nil ?_
      obtain ⟨_, _, _, oe', vs', T, _, _, he', _, hd', hf1, _⟩ := id fl
      have out : wpAny (model X.prog X.w) X.A (setFlight (.ref a) X.env.frame) (fun _ s4 => wpAny (model X.prog X.w) X.A (throw (.ref a) : Sem Flow) (SP X pins D) X.xe s4) X.xe { s1 with heap := h3 } := by
        rw [hf]
        exact HandSPX.setFlight_upZ fl fun h4 held up4 => wpAny_throw (tk _ _ ⟨a, B, sI, pins, σ1, H1, cls, d, rfl, J, nb, (up.trans up3).trans up4, .inr (.inr (hs ▸ held)), na, os, ag, wo⟩)
      unfold PySem.passOn
      refine wpAny_bind (wpAny_field he' hd' hf1 ?_)
      rw [if_neg (fun z => by cases z)]
      first
        | exact wpAny_bind out
        | exact wpAny_bind (wpAny_pure (wpAny_bind out))
    | @more x nm c b₀ suite np p' hds l hc hn hsu r ih =>
      rintro ⟨b, hb1, yes, no⟩
      have named : ∀ {Q : Value → Shared → Prop} {E : Value → Shared → Prop}, Q c.cls { s1 with heap := h3 } → wpAny (model X.prog X.w) (X.A.mark (some (.ref a))) (eval (.Name x np) X.env) Q E { s1 with heap := h3 } := fun {Q E} q => by
        rcases hc with ⟨hg, hdb, hm | ⟨hm, hv, hnn⟩⟩
        · exact ld_glob (X := X.suite a ((a, oe) :: (X.pn ++ pins))) Sh hg hm q hdb
        · exact ld_blt (X := X.suite a ((a, oe) :: (X.pn ++ pins))) Sh hg hm hv q hnn hdb
      refine wpAny_handleBy_cons (codeAny_handlers_test (named ((PySem.W.exm_one (M := model X.prog X.w) Jh.kIn LT hb1).here ?_))) (fun z => by cases z)
      cases b with
      | false => exact (show wpAny _ X.A (handleBy (.ref a) X.env hds) _ _ _ from ih (no rfl))
      | true =>
        have ys := yes rfl a na
        match nm, hcs : c.slot, hn with
        | none, none, _ =>
          rw [hcs] at ys
          refine codeAny_handlers_suite (HandSPX.lands_againZ fl fun h4 fl4 up4 => ?_)
          obtain ⟨oe4, vs4, he4, hz4, hd4⟩ := fl4.there
          have J4 : Inv X pins σ1 H1 { s1 with heap := h4 } := J.landed nb fl4.1 ((up.trans up3).trans up4) os ag
          have S4 := J4.suite he4 hd4 na nL nF
          refine wpAny_mono ((hsu a oe4 cls d (X.pn ++ pins) hz4 ⟨_, hd4⟩).run [] _ _ H1 _ S4 ys) (fun f s6 q => ?_) (fun _ _ z => False.elim z)
          cases f with
          | ret u => exact let ⟨v6, σ6, H6, S6, r6, q6⟩ := q; ⟨v6, σ6, H6, S6.unsuite ok, r6, q6⟩
          | next => exact let ⟨σ6, H6, S6, q6⟩ := q; ⟨σ6, H6, S6.unsuite ok, q6⟩
          | brk => exact let ⟨σ6, H6, S6, q6⟩ := q; ⟨σ6, H6, S6.unsuite ok, q6⟩
          | cont => exact let ⟨σ6, H6, S6, q6⟩ := q; ⟨σ6, H6, S6.unsuite ok, q6⟩
        | some n, some i, ⟨hN, hi, hln⟩ =>
          rw [hcs] at ys
          refine codeAny_handlers_suite_as (HandSPX.lands_againZ fl fun h4 fl4 up4 => ?_)
          obtain ⟨oe4, vs4, he4, hz4, hd4⟩ := fl4.there
          have J4 : Inv X pins σ1 H1 { s1 with heap := h4 } := J.landed nb fl4.1 ((up.trans up3).trans up4) os ag
          have S4 := J4.suite he4 hd4 na nL nF
          refine store_ok (X := X.suite a ((a, oe4) :: (X.pn ++ pins))) (v := .ref a) S4 hN hi (.inl hln) rfl (fun s5 S5 => ?_) (.inr hln)
          refine wpAny_mono ((hsu a oe4 cls d (X.pn ++ pins) hz4 ⟨_, hd4⟩).run [] s5 _ H1 _ S5 ys) (fun f s6 q => ?_) (fun _ _ z => False.elim z)
          have gone : ∀ {σ6 : St} {H6 : Hp} {Q : Shared → Prop}, Inv (X.suite a ((a, oe4) :: (X.pn ++ pins))) [] σ6 H6 s6 → (∀ s7, Inv X pins (σ6.set i none) H6 s7 → Q s7) → wpAny (model X.prog X.w) X.A (do bindName X.env n .none; unbindBehindTheSuite X.env n p') (fun _ s7 => Q s7) X.xe s6 := fun S6 k => gone_ok (S6.unsuite ok) hN hi hln k
          cases f with
          | ret u => exact let ⟨v6, σ6, H6, S6, r6, q6⟩ := q; gone S6 fun s7 J7 => ⟨_, _, _, J7, r6, q6⟩
          | next => exact let ⟨σ6, H6, S6, q6⟩ := q; gone S6 fun s7 J7 => ⟨_, _, J7, q6⟩
          | brk => exact let ⟨σ6, H6, S6, q6⟩ := q; gone S6 fun s7 J7 => ⟨_, _, J7, q6⟩
          | cont => exact let ⟨σ6, H6, S6, q6⟩ := q; gone S6 fun s7 J7 => ⟨_, _, J7, q6⟩
  refine wpAny_mono ((hb (wCl X.K Wout D l) (X.pn ++ pins) (fun u s1 => wpAny (model X.prog X.w) X.A (noteFrame u X.env) (fun _ s2 => wpAny (model X.prog X.w) X.A (setFlight u none) (fun _ s3 => wpAny (model X.prog X.w) X.A (handleBy u X.env (h₀ :: hds)) (SP X pins D) X.xe s3) X.xe s2) X.xe s1)
    (fun u s1 x => caught _ u s1 x) PassesOwn.looking).run [] s σ H D (I.toTry _) h) (fun f s1 q => ?_) fun _ _ z => z
  · cases f with
    | ret u => exact let ⟨v, σ1, H1, J1, r1, q1⟩ := q; ⟨v, σ1, H1, J1.ofTry ok, r1, q1⟩
    | next => exact let ⟨σ1, H1, J1, q1⟩ := q; wpAny_execs_nil ⟨σ1, H1, J1.ofTry ok, q1⟩
    | brk => exact let ⟨σ1, H1, J1, q1⟩ := q; ⟨σ1, H1, J1.ofTry ok, q1⟩
    | cont => exact let ⟨σ1, H1, J1, q1⟩ := q; ⟨σ1, H1, J1.ofTry ok, q1⟩
end
end L2
end
section
set_option Elab.async false
set_option linter.all false
set_option maxRecDepth 100000
set_option maxHeartbeats 2000000
namespace K0
open PySem PySem.Spec PyProof.Rows L2
/-! ### a heap without some addresses -/
def but (ls : List Addr) (H : Hp) : Hp := fun a => if a ∈ ls then none else H a
theorem but_in {ls : List Addr} {H : Hp} {a : Addr} (h : a ∈ ls) : but ls H a = none := if_pos h
theorem but_out {ls : List Addr} {H : Hp} {a : Addr} (h : a ∉ ls) : but ls H a = H a := if_neg h
theorem but_some {ls : List Addr} {H : Hp} {a : Addr} {o : HO} (h : but ls H a = some o) : a ∉ ls ∧ H a = some o := by
  by_cases e : a ∈ ls
  · rw [but_in e] at h
    cases h
  · rw [but_out e] at h
    exact ⟨e, h⟩
theorem but_same {ls : List Addr} {H H' : Hp} (k : ∀ a o, H a = some o → a ∉ ls → H' a = some o) : Same (but ls H) (but ls H') := fun a o h => by
  obtain ⟨n, h⟩ := but_some h
  rw [but_out n]
  exact k a o h n
theorem but_of {ls : List Addr} {H H' : Hp} (s : Same H H') : Same (but ls H) (but ls H') := but_same fun a o h _ => s a o h
theorem but_le {ls : List Addr} {H : Hp} : Same (but ls H) H := fun a o h => (but_some h).2
theorem but_upto {b : Addr} {H H' : Hp} (u : Upto b H H') : Same (but [b] H) (but [b] H') := but_same fun a o h n => u a o h fun e => n (by rw [e]; exact List.mem_singleton.mpr rfl)
theorem but_sub {ls ls' : List Addr} {H : Hp} (s : ∀ a ∈ ls', a ∈ ls) : Same (but ls H) (but ls' H) := fun a o h => by
  obtain ⟨n, h⟩ := but_some h
  rw [but_out fun z => n (s a z)]
  exact h
/-! ### values as data -/
mutual
inductive Dq (H : Hp) : V → PyData → Prop
  | non : Dq H .non .none
  | bl (b : Bool) : Dq H (.bl b) (.bool b)
  | int (i : Int) : Dq H (.int i) (.int i)
  | str (x : Str) : Dq H (.str x) (.str x)
  | lst {a : Addr} {xs : List V} {ds : List PyData} : H a = some (.lst xs) → DqAll H xs ds → Dq H (.ref a) (.list ds)
  | tup {a : Addr} {xs : List V} {ds : List PyData} : H a = some (.tup xs) → DqAll H xs ds → Dq H (.ref a) (.tuple ds)
inductive DqAll (H : Hp) : List V → List PyData → Prop
  | nil : DqAll H [] []
  | cons {v : V} {vs : List V} {d : PyData} {ds : List PyData} : Dq H v d → DqAll H vs ds → DqAll H (v :: vs) (d :: ds)
end
mutual
theorem Dq.up {H H' : Hp} (s : Same H H') : ∀ (d : PyData) (v : V), Dq H v d → Dq H' v d
  | .none, _, h => by cases h; exact .non
  | .bool b, _, h => by cases h; exact .bl b
  | .int i, _, h => by cases h; exact .int i
  | .str x, _, h => by cases h; exact .str x
  | .list ds, _, h => by
    cases h with
    | lst q k => exact .lst (s _ _ q) (DqAll.up s ds _ k)
  | .tuple ds, _, h => by
    cases h with
    | tup q k => exact .tup (s _ _ q) (DqAll.up s ds _ k)
  | .dict kvs, _, h => by cases h
theorem DqAll.up {H H' : Hp} (s : Same H H') : ∀ (ds : List PyData) (vs : List V), DqAll H vs ds → DqAll H' vs ds
  | [], _, h => by cases h; exact .nil
  | d :: ds, _, h => by
    cases h with
    | cons a b => exact .cons (Dq.up s d _ a) (DqAll.up s ds _ b)
end
theorem Dq.same {H H' : Hp} (s : Same H H') {d : PyData} {v : V} (h : Dq H v d) : Dq H' v d := Dq.up s d v h
theorem DqAll.same {H H' : Hp} (s : Same H H') {ds : List PyData} {vs : List V} (h : DqAll H vs ds) : DqAll H' vs ds := DqAll.up s ds vs h
mutual
theorem Dq.dp' {K : PySem.W.Frag} {H : Hp} : ∀ (d : PyData) (v : V), Dq H v d → Dp K H v d
  | .none, _, h => by cases h; exact .non
  | .bool b, _, h => by cases h; exact .bl b
  | .int i, _, h => by cases h; exact .int i
  | .str x, _, h => by cases h; exact .str x
  | .list ds, _, h => by
    cases h with
    | lst q k => exact .lst (.inl (.inl q)) (DqAll.dp' ds _ k)
  | .tuple ds, _, h => by
    cases h with
    | tup q k => exact .tup (.inl (.inl q)) (DqAll.dp' ds _ k)
  | .dict kvs, _, h => by cases h
theorem DqAll.dp' {K : PySem.W.Frag} {H : Hp} : ∀ (ds : List PyData) (vs : List V), DqAll H vs ds → DpAll K H vs ds
  | [], _, h => by cases h; exact .nil
  | d :: ds, _, h => by
    cases h with
    | cons a b => exact .cons (Dq.dp' d _ a) (DqAll.dp' ds _ b)
end
theorem Dq.dp {K : PySem.W.Frag} {H : Hp} {d : PyData} {v : V} (h : Dq H v d) : Dp K H v d := Dq.dp' d v h
theorem DqAll.dp {K : PySem.W.Frag} {H : Hp} {ds : List PyData} {vs : List V} (h : DqAll H vs ds) : DpAll K H vs ds := DqAll.dp' ds vs h
theorem DqAll.len {H : Hp} : ∀ {vs : List V} {ds : List PyData}, DqAll H vs ds → vs.length = ds.length
  | _, _, .nil => rfl
  | _, _, .cons _ k => congrArg (· + 1) (DqAll.len k)
theorem DqAll.at_ {H : Hp} : ∀ {vs : List V} {ds : List PyData} {i : Nat} {v : V}, DqAll H vs ds → vs[i]? = some v → ∃ d, ds[i]? = some d ∧ Dq H v d
  | _, _, _, _, .nil, e => by cases e
  | _, _, 0, _, .cons a _, e => by cases e; exact ⟨_, rfl, a⟩
  | _, _, i + 1, _, .cons _ k, e => DqAll.at_ (i := i) k e
theorem DqAll.app {H : Hp} : ∀ {vs vs' : List V} {ds ds' : List PyData}, DqAll H vs ds → DqAll H vs' ds' → DqAll H (vs ++ vs') (ds ++ ds')
  | _, _, _, _, .nil, k => k
  | _, _, _, _, .cons a b, k => .cons a (DqAll.app b k)
theorem DqAll.take {H : Hp} : ∀ (n : Nat) {vs : List V} {ds : List PyData}, DqAll H vs ds → DqAll H (vs.take n) (ds.take n)
  | 0, _, _, _ => .nil
  | _ + 1, _, _, .nil => .nil
  | n + 1, _, _, .cons a b => .cons a (DqAll.take n b)
theorem DqAll.drop {H : Hp} : ∀ (n : Nat) {vs : List V} {ds : List PyData}, DqAll H vs ds → DqAll H (vs.drop n) (ds.drop n)
  | 0, _, _, h => h
  | _ + 1, _, _, .nil => .nil
  | n + 1, _, _, .cons _ b => DqAll.drop n b
theorem DqAll.set {H : Hp} {v : V} {d : PyData} (x : Dq H v d) : ∀ (n : Nat) {vs : List V} {ds : List PyData}, DqAll H vs ds → DqAll H (vs.set n v) (ds.set n d)
  | _, _, _, .nil => .nil
  | 0, _, _, .cons _ b => .cons x b
  | n + 1, _, _, .cons a b => .cons a (DqAll.set x n b)
/-- the type of a value, by its data -/
def tyD : PyData → String
  | .none => "NoneType"
  | .bool _ => "bool"
  | .int _ => "int"
  | .str _ => "str"
  | .list _ => "list"
  | .tuple _ => "tuple"
  | .dict _ => "dict"
theorem dq_ty {K : PySem.W.Frag} {H : Hp} {v : V} {d : PyData} (h : Dq H v d) : TyX K H v (.type (tyD d)) := by
  cases h with
  | non => exact .base .non
  | bl b => exact .base (.bl b)
  | int i => exact .base (.int i)
  | str x => exact .base (.str x)
  | lst q _ => exact .base (.lst q)
  | tup q _ => exact .base (.tup q)
/-- data whose texts are plain and at most m long, lists and tuples at most m long and k deep -/
inductive Fit (m : Nat) : Nat → PyData → Prop where
  | non {k : Nat} : Fit m k .none
  | bl {k : Nat} (b : Bool) : Fit m k (.bool b)
  | int {k : Nat} (i : Int) : Fit m k (.int i)
  | str {k : Nat} (y : Str) (p : Plain y) (z : y.cps.toList.length ≤ m) : Fit m k (.str y)
  | lst {k : Nat} (ds : List PyData) (h : ∀ d ∈ ds, Fit m k d) (z : ds.length ≤ m) : Fit m (k + 1) (.list ds)
  | tup {k : Nat} (ds : List PyData) (h : ∀ d ∈ ds, Fit m k d) (z : ds.length ≤ m) : Fit m (k + 1) (.tuple ds)
theorem Fit.mono {m m' k k' : Nat} {d : PyData} (h : Fit m k d) : m ≤ m' → k ≤ k' → Fit m' k' d := by
  induction h generalizing k' with
  | non => exact fun _ _ => .non
  | bl b => exact fun _ _ => .bl b
  | int i => exact fun _ _ => .int i
  | str y p z => exact fun hm _ => .str y p (Nat.le_trans z hm)
  | @lst k ds h z ih =>
    intro hm hk
    obtain ⟨j, rfl⟩ : ∃ j, k' = j + 1 := ⟨k' - 1, by omega⟩
    exact .lst ds (fun d hd => ih d hd hm (by omega)) (Nat.le_trans z hm)
  | @tup k ds h z ih =>
    intro hm hk
    obtain ⟨j, rfl⟩ : ∃ j, k' = j + 1 := ⟨k' - 1, by omega⟩
    exact .tup ds (fun d hd => ih d hd hm (by omega)) (Nat.le_trans z hm)
theorem canLay_all {ds : List PyData} (h : ∀ d ∈ ds, PyData.canLay0 d = true) : PyData.canLayAll0 ds = true := by
  induction ds with
  | nil => simp only [PyData.canLayAll0]
  | cons d ds ih =>
    simp only [PyData.canLayAll0, h d List.mem_cons_self, ih fun x hx => h x (List.mem_cons_of_mem _ hx), Bool.and_self]
theorem depth_all {ds : List PyData} {k : Nat} (h : ∀ d ∈ ds, PyData.depth d ≤ k) : PyData.depthAll ds ≤ k := by
  induction ds with
  | nil => simp only [PyData.depthAll]; omega
  | cons d ds ih =>
    have h1 := h d List.mem_cons_self
    have h2 := ih fun x hx => h x (List.mem_cons_of_mem _ hx)
    simp only [PyData.depthAll]
    omega
theorem Fit.lay {m k : Nat} {d : PyData} (h : Fit m k d) : PyData.canLay0 d = true ∧ PyData.depth d ≤ k := by
  induction h with
  | non => exact ⟨by simp only [PyData.canLay0], by simp only [PyData.depth]; omega⟩
  | bl b => exact ⟨by simp only [PyData.canLay0], by simp only [PyData.depth]; omega⟩
  | int i => exact ⟨by simp only [PyData.canLay0], by simp only [PyData.depth]; omega⟩
  | str y p z => exact ⟨by simp only [PyData.canLay0, plain_ok p], by simp only [PyData.depth]; omega⟩
  | lst ds h z ih => exact ⟨by simp only [PyData.canLay0, canLay_all fun d hd => (ih d hd).1], by
      have := depth_all fun d hd => (ih d hd).2
      simp only [PyData.depth]
      omega⟩
  | tup ds h z ih => exact ⟨by simp only [PyData.canLay0, canLay_all fun d hd => (ih d hd).1], by
      have := depth_all fun d hd => (ih d hd).2
      simp only [PyData.depth]
      omega⟩
theorem Fit.shaped {m k : Nat} {d : PyData} (h : Fit m k d) (hk : k ≤ 64) : SeqAt.shaped d = true := by
  obtain ⟨h1, h2⟩ := h.lay
  unfold SeqAt.shaped
  rw [h1, Bool.true_and]
  exact decide_eq_true (by omega)
theorem eqvAll_refl {ds : List PyData} (h : ∀ d ∈ ds, PyData.eqv d d = true) : PyData.eqvAll ds ds = true := by
  induction ds with
  | nil => simp only [PyData.eqvAll]
  | cons d ds ih => simp only [PyData.eqvAll, h d List.mem_cons_self, ih fun x hx => h x (List.mem_cons_of_mem _ hx), Bool.and_self]
theorem Fit.refl {m k : Nat} {d : PyData} (h : Fit m k d) : PyData.eqv d d = true := by
  induction h with
  | non => simp only [PyData.eqv]
  | bl b => cases b <;> decide +kernel
  | int i => simp only [PyData.eqv, beq_self_eq_true]
  | str y p z => simp only [PyData.eqv, beq_self_eq_true]
  | lst ds h z ih => simp only [PyData.eqv]; exact eqvAll_refl ih
  | tup ds h z ih => simp only [PyData.eqv]; exact eqvAll_refl ih
end K0
end
section
set_option Elab.async false
set_option linter.all false
set_option maxRecDepth 100000
set_option maxHeartbeats 2000000
namespace K0
open PySem PySem.Spec PyProof.Rows L2
/-! ### is it a name, of any data -/
def nameD (d : PyData) : Prop := ∃ y, d = .str y ∧ NameOk y
/-- a fact as a Bool -/
noncomputable def pB (p : Prop) : Bool := @decide p (Classical.propDecidable p)
theorem pB_t {p : Prop} (h : p) : pB p = true := @decide_eq_true p (Classical.propDecidable p) h
theorem pB_f {p : Prop} (h : ¬ p) : pB p = false := @decide_eq_false p (Classical.propDecidable p) h
theorem pB_iff {p q : Prop} (h : p ↔ q) : pB p = pB q := by
  by_cases e : p
  · rw [pB_t e, pB_t (h.mp e)]
  · rw [pB_f e, pB_f fun z => e (h.mpr z)]
theorem pB_d {p : Prop} [i : Decidable p] : pB p = decide p := by
  by_cases e : p
  · rw [pB_t e, decide_eq_true e]
  · rw [pB_f e, decide_eq_false e]
noncomputable def nameB (d : PyData) : Bool := pB (nameD d)
theorem nameB_t {d : PyData} (h : nameD d) : nameB d = true := pB_t h
theorem nameB_f {d : PyData} (h : ¬ nameD d) : nameB d = false := pB_f h
def isS : PyData → Bool
  | .str _ => true
  | _ => false
def isT : PyData → Bool
  | .tuple _ => true
  | _ => false
def isL : PyData → Bool
  | .list _ => true
  | _ => false
section
variable {K : PySem.W.Frag}
theorem kit_str (d : PyData) : PySem.W.kitOne K (.type (tyD d)) (.type "str") = some (isS d) := by
  cases d with
  | none => exact (show PySem.W.kitOne K (.type "NoneType") (.type "str") = some false from kit_ty (by decide +kernel))
  | bool b => exact (show PySem.W.kitOne K (.type "bool") (.type "str") = some false from kit_ty (by decide +kernel))
  | int i => exact (show PySem.W.kitOne K (.type "int") (.type "str") = some false from kit_ty (by decide +kernel))
  | str x => exact (show PySem.W.kitOne K (.type "str") (.type "str") = some true from kit_ty (by decide +kernel))
  | list xs => exact (show PySem.W.kitOne K (.type "list") (.type "str") = some false from kit_ty (by decide +kernel))
  | tuple xs => exact (show PySem.W.kitOne K (.type "tuple") (.type "str") = some false from kit_ty (by decide +kernel))
  | dict kvs => exact (show PySem.W.kitOne K (.type "dict") (.type "str") = some false from kit_ty (by decide +kernel))
theorem kit_tuple (d : PyData) : PySem.W.kitOne K (.type (tyD d)) (.type "tuple") = some (isT d) := by
  cases d with
  | none => exact (show PySem.W.kitOne K (.type "NoneType") (.type "tuple") = some false from kit_ty (by decide +kernel))
  | bool b => exact (show PySem.W.kitOne K (.type "bool") (.type "tuple") = some false from kit_ty (by decide +kernel))
  | int i => exact (show PySem.W.kitOne K (.type "int") (.type "tuple") = some false from kit_ty (by decide +kernel))
  | str x => exact (show PySem.W.kitOne K (.type "str") (.type "tuple") = some false from kit_ty (by decide +kernel))
  | list xs => exact (show PySem.W.kitOne K (.type "list") (.type "tuple") = some false from kit_ty (by decide +kernel))
  | tuple xs => exact (show PySem.W.kitOne K (.type "tuple") (.type "tuple") = some true from kit_ty (by decide +kernel))
  | dict kvs => exact (show PySem.W.kitOne K (.type "dict") (.type "tuple") = some false from kit_ty (by decide +kernel))
theorem kit_list (d : PyData) : PySem.W.kitOne K (.type (tyD d)) (.type "list") = some (isL d) := by
  cases d with
  | none => exact (show PySem.W.kitOne K (.type "NoneType") (.type "list") = some false from kit_ty (by decide +kernel))
  | bool b => exact (show PySem.W.kitOne K (.type "bool") (.type "list") = some false from kit_ty (by decide +kernel))
  | int i => exact (show PySem.W.kitOne K (.type "int") (.type "list") = some false from kit_ty (by decide +kernel))
  | str x => exact (show PySem.W.kitOne K (.type "str") (.type "list") = some false from kit_ty (by decide +kernel))
  | list xs => exact (show PySem.W.kitOne K (.type "list") (.type "list") = some true from kit_ty (by decide +kernel))
  | tuple xs => exact (show PySem.W.kitOne K (.type "tuple") (.type "list") = some false from kit_ty (by decide +kernel))
  | dict kvs => exact (show PySem.W.kitOne K (.type "dict") (.type "list") = some false from kit_ty (by decide +kernel))
end
def lowB (c : Nat) : Bool := decide (97 ≤ c ∧ c ≤ 122)
theorem lt1 (a b : Nat) : decide (([a] : List Nat) < [b]) = decide (a < b) := by
  refine decide_eq_decide.mpr ⟨fun z => ?_, fun z => ?_⟩
  · rw [List.cons_lt_cons_iff] at z
    rcases z with z | ⟨_, z⟩
    · exact z
    · exact absurd z (List.not_lt_nil _)
  · rw [List.cons_lt_cons_iff]
    exact .inl z
def spIsNameD : Sp := fun vs H Q _ => ∃ (v : V) (d : PyData) (m k : Nat), vs = [v] ∧ Dq H v d ∧ Fit m k d ∧ m ≤ 900 ∧ ∀ H', Same H H' → Q (.bl (nameB d)) H'
section
variable {P : Program} {w : World} {K : PySem.W.Frag} {mg : Str → Option Value} {base : Heap} {tS tM tL : Tok}
theorem ok_isnameD {f : Addr} {fd : FuncData} (F : FnP K "is_name" sIsName f fd) (B : Bl mg) (C : Gc mg tS tM tL) : FnOk P w K mg base CX0 1 f fd ["value"] spIsNameD := by
  refine F.ok scIsName (fun vs H Q E h => ?_) (fun cdv A outer s H vs Q E hr h => ?_)
  · obtain ⟨v, d, m, k, rfl, _⟩ := h
    rfl
  · obtain ⟨v, d, m, kk, rfl, hd, fit, hm, k⟩ := h
    refine ⟨_, PSs.nox (pss_cons
      (ps_if (pt_not (pt_val (pe_callB call_isi (by rfl) B.isinstance (by decide +kernel) (pa_cons (pv 0) (pa_cons (pe_bltn (v := .ty "str") (by rfl) B.str (by decide +kernel) rfl) pa_nil))))) (pss_one
      (ps_ret pe_bl)) pss_nil)
      (pss_one
      (ps_ret (pe_and (pe_chain op_le op_le pe_int (pe_callB call_len_str (by rfl) B.len PySem.boot_len (pa_cons (pv 0) pa_nil)) (pe_glob (v := .int 8) (by rfl) C.LONGEST_NAME ⟨_, rfl⟩)) (pe_one (pe_callB (cr_all rfl) (by rfl) B.all (by decide +kernel) (pa_cons (pe_lc (own := [("letter", 1)]) (g := gName 1) (tt := tYes) (by rfl) scIsName.nd (pi_str (pv 0)) (blkOk_by (own := [("letter", 1)]) (N := scIsName_N) (sc := defScope scIsName_S) (by decide +kernel)) (fun _ _ _ _ _ => (pg_name (i := 1) scIsName.nd rfl (Or.inl rfl))) (fun _ _ _ _ _ => pts_nil) (fun _ _ _ _ _ => (pe_chain op_le_str op_le_str pe_str (pv 1) pe_str))) pa_nil))))))), ?_⟩
    cases hS : isS d with
    | false =>
      have nn : ¬ nameD d := fun ⟨y, e, _⟩ => by rw [e] at hS; cases hS
      rw [nameB_f nn] at k
      refine ⟨_, rfl, v, .ty "str", _, _, false, rfl, .ty "str", dq_ty hd, by rw [kit_str, hS], _, rfl, ?_⟩
      exact iteT (k _ (.refl _))
    | true =>
      obtain ⟨x, rfl⟩ : ∃ x, d = .str x := by
        cases d with
        | str x => exact ⟨x, rfl⟩
        | _ => cases hS
      cases hd
      have hx9 : x.cps.toList.length ≤ m := by
        cases fit with
        | str _ _ z => exact z
      refine ⟨_, rfl, .str x, .ty "str", _, _, true, rfl, .ty "str", .base (.str x), kit_ty (by decide +kernel), _, rfl, ?_⟩
      refine iteF ?_
      have hz : x.length ≤ sizeLine := Nat.le_of_lt (small1000 (by rw [len_list]; omega))
      refine ⟨_, rfl, x, rfl, hz, 1, (x.length : Int), rfl, rfl, _, rfl, ?_⟩
      have hn : nameD (.str x) ↔ (1 ≤ x.length ∧ x.length ≤ 8) ∧ ∀ c ∈ x.cps.toList, Low c := by
        rw [len_list]
        constructor
        · rintro ⟨y, e, h⟩
          cases e
          exact ⟨⟨h.one, h.most⟩, h.low⟩
        · rintro ⟨⟨h1, h2⟩, h3⟩
          exact ⟨x, rfl, h1, h2, h3⟩
      rcases Classical.em (¬ 1 ≤ x.length) with h1 | h1
      · rw [nameB_f fun z => h1 (hn.mp z).1.1] at k
        refine iteDn (by omega) ?_
        exact ⟨_, rfl, iteF (k _ (.refl _))⟩
      have h1 := Classical.not_not.mp h1
      refine iteD (by omega) ?_
      refine ⟨_, _, rfl, rfl, _, rfl, ?_⟩
      rcases Classical.em (¬ x.length ≤ 8) with h2 | h2
      · rw [nameB_f fun z => h2 (hn.mp z).1.2] at k
        refine iteDn (by omega) ?_
        exact k _ (.refl _)
      have h2 := Classical.not_not.mp h2
      refine iteD (by omega) ?_
      refine ⟨_, rfl, x, rfl, fun D hD => ?_⟩
      refine lc_it (walk_str (z := x)) (fun i H2 => Same H H2 ∧ H2 D = some (.lst (((x.cps.toList.take i).map lowB).map V.bl))) ⟨same_upd hD, by rw [upd_same, List.take_zero]; rfl⟩ (fun _ _ _ _ => trivial) ?_ ?_
      · rintro i v H2 H3 hi ⟨s2, hD2⟩ ⟨e, c, hc, ev⟩
        subst e
        subst ev
        rw [← Array.getElem?_toList] at hc
        have hsz : (((x.cps.toList.take i).map lowB).map V.bl).length < sizeLine := by
          rw [List.length_map, List.length_map, List.length_take]
          exact small1000 (by omega)
        have nx : Same H (upd H3 D (.lst ((((x.cps.toList.take i).map lowB).map V.bl) ++ [V.bl (lowB c)]))) ∧ (upd H3 D (.lst ((((x.cps.toList.take i).map lowB).map V.bl) ++ [V.bl (lowB c)]))) D = some (.lst (((x.cps.toList.take (i + 1)).map lowB).map V.bl)) := by
          refine ⟨fun b o hb => ?_, ?_⟩
          · rw [upd_ne (ne_of_none hb hD)]
            exact s2 b o hb
          · rw [upd_same, List.take_add_one, hc, List.map_append, List.map_append]
            rfl
        refine ⟨rfl, ?_⟩
        unfold tYes
        refine iteT ?_
        refine ⟨_, rfl, "a", ⟨#[c]⟩, rfl, rfl, _, rfl, ?_⟩
        have la : (("a" : Str)).cps.toList = [97] := by decide +kernel
        have lz : (("z" : Str)).cps.toList = [122] := by decide +kernel
        have lc : (⟨#[c]⟩ : Str).cps.toList = [c] := rfl
        have q1 : (!decide ((⟨#[c]⟩ : Str).cps.toList < (("a" : Str)).cps.toList)) = decide (97 ≤ c) := by
          rw [la, lc, lt1]
          by_cases z : c < 97
          · rw [decide_eq_true z, decide_eq_false (by omega)]; rfl
          · rw [decide_eq_false z, decide_eq_true (by omega)]; rfl
        have q2 : (!decide ((("z" : Str)).cps.toList < (⟨#[c]⟩ : Str).cps.toList)) = decide (c ≤ 122) := by
          rw [lz, lc, lt1]
          by_cases z : 122 < c
          · rw [decide_eq_true z, decide_eq_false (by omega)]; rfl
          · rw [decide_eq_false z, decide_eq_true (by omega)]; rfl
        have hlb : lowB c = (decide (97 ≤ c) && decide (c ≤ 122)) := by
          unfold lowB
          rw [Bool.eq_iff_iff]
          simp
        rw [hlb] at nx
        by_cases z : 97 ≤ c
        · have q3 := q1.trans (decide_eq_true z)
          rw [decide_eq_true z, Bool.true_and, ← q2] at nx
          refine Eq.mpr (if_pos q3) ?_
          exact ⟨⟨#[c]⟩, "z", rfl, rfl, _, hD2, hsz, nx⟩
        · have q3 := q1.trans (decide_eq_false z)
          rw [decide_eq_false z, Bool.false_and] at nx
          refine Eq.mpr (if_neg (fun y => Bool.false_ne_true (q3.symm.trans y))) ?_
          exact ⟨_, hD2, hsz, nx⟩
      · rintro H2 ⟨s2, hD2⟩
        have e : x.cps.toList.take x.cps.size = x.cps.toList := List.take_of_length_le (by rw [Array.length_toList]; exact Nat.le_refl _)
        rw [e] at hD2
        refine ⟨D, x.cps.toList.map lowB, rfl, .inl (.inl hD2), ?_⟩
        have e2 : ((x.cps.toList.map lowB).all id) = nameB (.str x) := by
          by_cases h3 : ∀ c ∈ x.cps.toList, Low c
          · rw [nameB_t (hn.mpr ⟨⟨h1, h2⟩, h3⟩), List.all_eq_true]
            intro b hb
            obtain ⟨c, hc, rfl⟩ := List.mem_map.mp hb
            exact decide_eq_true ⟨(h3 c hc).1, (h3 c hc).2⟩
          · rw [nameB_f fun z => h3 (hn.mp z).2]
            obtain ⟨c, hc⟩ := Classical.not_forall.mp h3
            obtain ⟨hc, hl⟩ := Classical.not_imp.mp hc
            rw [List.all_eq_false]
            refine ⟨lowB c, List.mem_map.mpr ⟨c, hc, rfl⟩, fun z => hl ?_⟩
            have := of_decide_eq_true z
            exact ⟨this.1, this.2⟩
        rw [e2]
        exact k H2 s2
end
end K0
end
section
set_option Elab.async false
set_option linter.all false
set_option maxRecDepth 100000
set_option maxHeartbeats 4000000
namespace L2
open PySem PySem.Spec PyProof.Rows
theorem tyes_i {σ : St} {H : Hp} {P : Bool → Hp → Prop} (h : P true H) : tYes σ H P := h
section
variable {X : Cx} {K : PySem.W.Frag}
theorem anyK (hc : X.calm = true) (e : X.K = K := by rfl) : CallR X (.builtin "any") (rAny K) := e ▸ cr_any hc
theorem allK (hc : X.calm = true) (e : X.K = K := by rfl) : CallR X (.builtin "all") (rAll K) := e ▸ cr_all hc
end
end L2
namespace K0
open PySem PySem.Spec PyProof.Rows L2
/-! ### is it a name, is it a row, by the law and by the program -/
abbrev scLIsName_N : List Str := ["_law_word", "_law_letter"]
abbrev scLIsName_S : Stmt := sLIsName
theorem scLIsName : FnScope scLIsName_N ["_law_word"] (defScope sLIsName) := ⟨rfl, rfl, rfl, by decide +kernel, rfl, by decide +kernel, by decide +kernel⟩
abbrev scLIsPair_N : List Str := ["_law_entry", "_law_earlier", "_law_one"]
abbrev scLIsPair_S : Stmt := sLIsPair
theorem scLIsPair : FnScope scLIsPair_N ["_law_entry", "_law_earlier"] (defScope sLIsPair) := ⟨rfl, rfl, rfl, by decide +kernel, rfl, by decide +kernel, by decide +kernel⟩
def rowD (r : Row) : PyData := .tuple [.str r.1, .str r.2]
def pairD (d : PyData) : Prop := ∃ r : Row, d = rowD r ∧ RowOk r
theorem rowD_inj {r r' : Row} (h : rowD r = rowD r') : r = r' := by
  unfold rowD at h
  injection h with h
  injection h with h1 h
  injection h with h2
  injection h1 with h1
  injection h2 with h2
  exact Prod.ext h1 h2
def spIsRowD : Sp := fun vs H Q _ => ∃ (v : V) (d : PyData) (m k : Nat), vs = [v] ∧ Dq H v d ∧ Fit m k d ∧ m ≤ 900 ∧ ∀ H', Same H H' → Q (.bl (pB (pairD d))) H'
/-- earlier rows, all in order -/
def spIsPair : Sp := fun vs H Q _ => ∃ (v : V) (d : PyData) (m k : Nat) (l : Addr) (ws : List V) (R : List Row), vs = [v, .ref l] ∧ Dq H v d ∧ Fit m k d ∧ m ≤ 900 ∧ H l = some (.lst ws) ∧ DqAll H ws (R.map rowD) ∧ R.length ≤ 900 ∧
  ∀ H', Same H H' → Q (.bl (pB (∃ r : Row, d = rowD r ∧ RowOk r ∧ ∀ r' ∈ R, r'.1 ≠ r.1))) H'
theorem dqT {H : Hp} {v : V} {d : PyData} (h : Dq H v d) (t : isT d = true) : ∃ (a : Addr) (xs : List V) (ds : List PyData), v = .ref a ∧ d = .tuple ds ∧ H a = some (.tup xs) ∧ DqAll H xs ds := by
  cases h with
  | tup q k => exact ⟨_, _, _, rfl, rfl, q, k⟩
  | _ => cases t
theorem dqL {H : Hp} {v : V} {d : PyData} (h : Dq H v d) (t : isL d = true) : ∃ (a : Addr) (xs : List V) (ds : List PyData), v = .ref a ∧ d = .list ds ∧ H a = some (.lst xs) ∧ DqAll H xs ds := by
  cases h with
  | lst q k => exact ⟨_, _, _, rfl, rfl, q, k⟩
  | _ => cases t
theorem fitT {m k : Nat} {ds : List PyData} (h : Fit m k (.tuple ds)) : ds.length ≤ m ∧ ∀ d ∈ ds, Fit m k d := by
  cases h with
  | tup _ h z => exact ⟨z, fun d hd => (h d hd).mono (Nat.le_refl _) (Nat.le_succ _)⟩
theorem alpha_mem (c : Nat) : decide (c ∈ (Str.ofString "abcdefghijklmnopqrstuvwxyz").cps.toList) = lowB c := by
  have e : (Str.ofString "abcdefghijklmnopqrstuvwxyz").cps.toList = (List.range 26).map (· + 97) := by decide +kernel
  rw [e]
  refine decide_eq_decide.mpr ⟨fun h => ?_, fun h => ?_⟩
  · obtain ⟨i, hi, rfl⟩ := List.mem_map.mp h
    have := List.mem_range.mp hi
    omega
  · exact List.mem_map.mpr ⟨c - 97, List.mem_range.mpr (by omega), by omega⟩
section
variable {P : Program} {w : World} {K : PySem.W.Frag} {mg : Str → Option Value} {base : Heap} {tS tM tL : Tok}
theorem ok_lisname {f : Addr} {fd : FuncData} (F : FnP K "_law_is_name" sLIsName f fd) (B : Bl mg) : FnOk P w K mg base CX0 1 f fd ["_law_word"] spIsNameD := by
  refine F.ok scLIsName (fun vs H Q E h => ?_) (fun cdv A outer s H vs Q E hr h => ?_)
  · obtain ⟨v, d, m, k, rfl, _⟩ := h
    rfl
  · obtain ⟨v, d, m, kk, rfl, hd, fit, hm, k⟩ := h
    refine ⟨_, PSs.nox (pss_cons
      (ps_if (PW.pt (pw_or (pt_not (pt_val (pe_callB call_isi (by rfl) B.isinstance (by decide +kernel) (pa_cons (pv 0) (pa_cons (pe_bltn (v := .ty "str") (by rfl) B.str (by decide +kernel) rfl) pa_nil))))) (pw_or1 (pt_not (pt_chain op_le op_le pe_int (pe_callB call_len_str (by rfl) B.len PySem.boot_len (pa_cons (pv 0) pa_nil)) pe_int))))) (pss_one
      (ps_ret pe_bl)) pss_nil)
      (pss_one
      (ps_ret (pe_callB (allK (K := K) rfl) (by rfl) B.all (by decide +kernel) (pa_cons (pe_lc (own := [("_law_letter", 1)]) (g := gName 1) (tt := tYes) (by rfl) scLIsName.nd (pi_str (pv 0)) (blkOk_by (own := [("_law_letter", 1)]) (N := scLIsName_N) (sc := defScope scLIsName_S) (by decide +kernel)) (fun _ _ _ _ _ => (pg_name (i := 1) scLIsName.nd rfl (Or.inl rfl))) (fun _ _ _ _ _ => pts_nil) (fun _ _ _ _ _ => (pe_cmpR op_in_sign (pv 1) pe_str (by rfl)))) pa_nil))))), ?_⟩
    cases hS : isS d with
    | false =>
      have nn : ¬ nameD d := fun ⟨y, e, _⟩ => by rw [e] at hS; cases hS
      rw [nameB_f nn] at k
      refine ⟨_, rfl, v, .ty "str", _, _, false, rfl, .ty "str", dq_ty hd, by rw [kit_str, hS], _, rfl, ?_⟩
      exact iteT (k _ (.refl _))
    | true =>
      obtain ⟨x, rfl⟩ : ∃ x, d = .str x := by
        cases d with
        | str x => exact ⟨x, rfl⟩
        | _ => cases hS
      cases hd
      have hx9 : x.cps.toList.length ≤ m := by
        cases fit with
        | str _ _ z => exact z
      refine ⟨_, rfl, .str x, .ty "str", _, _, true, rfl, .ty "str", .base (.str x), kit_ty (by decide +kernel), _, rfl, ?_⟩
      refine iteF ?_
      have hz : x.length ≤ sizeLine := Nat.le_of_lt (small1000 (by rw [len_list]; omega))
      have hn : nameD (.str x) ↔ (1 ≤ x.length ∧ x.length ≤ 8) ∧ ∀ c ∈ x.cps.toList, Low c := by
        rw [len_list]
        constructor
        · rintro ⟨y, e, h⟩
          cases e
          exact ⟨⟨h.one, h.most⟩, h.low⟩
        · rintro ⟨⟨h1, h2⟩, h3⟩
          exact ⟨x, rfl, h1, h2, h3⟩
      refine ⟨_, rfl, x, rfl, hz, 1, (x.length : Int), rfl, rfl, _, rfl, ?_⟩
      rcases Classical.em (¬ 1 ≤ x.length) with h1 | h1
      · rw [nameB_f fun z => h1 (hn.mp z).1.1] at k
        refine iteDn (by omega) ?_
        exact ⟨_, rfl, iteT (k _ (.refl _))⟩
      have h1 := Classical.not_not.mp h1
      refine iteD (by omega) ?_
      refine ⟨_, _, rfl, rfl, _, rfl, ?_⟩
      rcases Classical.em (¬ x.length ≤ 8) with h2 | h2
      · rw [nameB_f fun z => h2 (hn.mp z).1.2] at k
        refine iteYes (by omega) ?_
        exact k _ (.refl _)
      have h2 := Classical.not_not.mp h2
      refine iteNS (by omega) ?_
      refine ⟨_, rfl, x, rfl, fun D hD => ?_⟩
      refine lc_it (walk_str (z := x)) (fun i H2 => Same H H2 ∧ H2 D = some (.lst (((x.cps.toList.take i).map lowB).map V.bl))) ⟨same_upd hD, by rw [upd_same, List.take_zero]; rfl⟩ (fun _ _ _ _ => trivial) ?_ ?_
      · rintro i v H2 H3 hi ⟨s2, hD2⟩ ⟨e, c, hc, ev⟩
        subst e
        subst ev
        rw [← Array.getElem?_toList] at hc
        refine ⟨rfl, ?_⟩
        unfold tYes
        refine iteT ?_
        refine ⟨_, rfl, c, _, rfl, rfl, ?_⟩
        rw [alpha_mem]
        refine ⟨_, hD2, ?_, fun b o hb => ?_, ?_⟩
        · rw [List.length_map, List.length_map, List.length_take]
          exact small1000 (by omega)
        · rw [upd_ne (ne_of_none hb hD)]
          exact s2 b o hb
        · rw [upd_same, List.take_add_one, hc, List.map_append, List.map_append]
          rfl
      · rintro H2 ⟨s2, hD2⟩
        have e : x.cps.toList.take x.cps.size = x.cps.toList := List.take_of_length_le (by rw [Array.length_toList]; exact Nat.le_refl _)
        rw [e] at hD2
        refine ⟨D, x.cps.toList.map lowB, rfl, .inl (.inl hD2), ?_⟩
        have e2 : ((x.cps.toList.map lowB).all id) = nameB (.str x) := by
          by_cases h3 : ∀ c ∈ x.cps.toList, Low c
          · rw [nameB_t (hn.mpr ⟨⟨h1, h2⟩, h3⟩), List.all_eq_true]
            intro b hb
            obtain ⟨c, hc, rfl⟩ := List.mem_map.mp hb
            exact decide_eq_true ⟨(h3 c hc).1, (h3 c hc).2⟩
          · rw [nameB_f fun z => h3 (hn.mp z).2]
            obtain ⟨c, hc⟩ := Classical.not_forall.mp h3
            obtain ⟨hc, hl⟩ := Classical.not_imp.mp hc
            rw [List.all_eq_false]
            refine ⟨lowB c, List.mem_map.mpr ⟨c, hc, rfl⟩, fun z => hl ?_⟩
            have := of_decide_eq_true z
            exact ⟨this.1, this.2⟩
        rw [e2]
        exact k H2 s2
theorem ok_isrowD {f fN : Addr} {fd fdN : FuncData} (F : FnP K "_is_row" sIsRow f fd) (F_is_name : FnP K "is_name" sIsName fN fdN) (gis_name : mg "is_name" = some (.ref fN)) (B : Bl mg) (C : Gc mg tS tM tL) : FnOk P w K mg base CX0 2 f fd ["entry"] spIsRowD := by
  have Gis_name : FnOk P w K mg base CX0 1 fN fdN ["value"] spIsNameD := ok_isnameD F_is_name B C
  have bis_name : Binds K fdN ["value"] [] := F_is_name.bindsN fun _ _ _ _ _ _ us hl => match us, hl with | [_], _ => rfl
  refine F.ok scIsRow (fun vs H Q E h => ?_) (fun cdv A outer s H vs Q E hr h => ?_)
  · obtain ⟨v, d, m, k, rfl, _⟩ := h
    rfl
  · obtain ⟨v, d, m, kk, rfl, hd, fit, hm, k⟩ := h
    have hris_name : Room 1 _ := hr.mono (by decide)
    have Fis_name := F_is_name
    refine ⟨_, PSs.nox (pss_cons
      (ps_if (PW.pt (pw_or (pt_not (pt_val (pe_callB call_isi (by rfl) B.isinstance (by decide +kernel) (pa_cons (pv 0) (pa_cons (pe_bltn (v := .ty "tuple") (by rfl) B.tuple (by decide +kernel) rfl) pa_nil))))) (pw_or1 (pt_cmpR op_ne (pe_callB call_len_seq (by rfl) B.len PySem.boot_len (pa_cons (pv 0) pa_nil)) pe_int (nomark _))))) (pss_one
      (ps_ret pe_bl)) pss_nil)
      (pss_one
      (ps_ret (pe_and (pe_call Gis_name hris_name (by rfl) gis_name Fis_name.kp bis_name .nil pass0 (pa_cons (pe_ix ix_tup (pv 0) pe_int (fun _ _ => rfl)) pa_nil)) (pe_and (pe_call Gis_name hris_name (by rfl) gis_name Fis_name.kp bis_name .nil pass0 (pa_cons (pe_ix ix_tup (pv 0) pe_int (fun _ _ => rfl)) pa_nil)) (pe_one (pe_cmpR op_ne (pe_ix ix_tup (pv 0) pe_int (fun _ _ => rfl)) (pe_glob (v := .str "sea") (by rfl) C.SEA ⟨_, rfl⟩) (nomark _)))))))), ?_⟩
    cases hT : isT d with
    | false =>
      have nn : ¬ pairD d := fun ⟨y, e, _⟩ => by rw [e] at hT; cases hT
      rw [pB_f nn] at k
      refine ⟨_, rfl, v, .ty "tuple", _, _, false, rfl, .ty "tuple", dq_ty hd, by rw [kit_tuple, hT], _, rfl, ?_⟩
      exact iteT (k _ (.refl _))
    | true =>
      obtain ⟨a, xs, ds, rfl, rfl, ha, hx⟩ := dqT hd hT
      have hlen := hx.len
      obtain ⟨hdl, fds⟩ := fitT fit
      refine ⟨_, rfl, .ref a, .ty "tuple", _, _, true, rfl, .ty "tuple", .base (.tup ha), kit_ty (by decide +kernel), _, rfl, ?_⟩
      refine iteF ?_
      refine ⟨_, rfl, a, _, rfl, .inr (.inl (.inl ha)), rfl, _, rfl, ?_⟩
      rcases Classical.em (¬ xs.length = 2) with h2 | h2
      · have nn : ¬ pairD (.tuple ds) := fun ⟨y, e, _⟩ => by
          unfold rowD at e
          injection e with e
          rw [e] at hlen
          exact h2 hlen
        rw [pB_f nn] at k
        refine iteYes (fun z => h2 (by have := V.int.inj z; omega)) ?_
        exact k _ (.refl _)
      have h2 := Classical.not_not.mp h2
      refine iteNo (fun z => z (congrArg V.int (by omega))) ?_
      obtain ⟨x, y, rfl⟩ : ∃ x y, xs = [x, y] := by
        match xs, h2 with
        | [x, y], _ => exact ⟨x, y, rfl⟩
      obtain ⟨dx, dy, rfl⟩ : ∃ dx dy, ds = [dx, dy] := by
        match ds, hlen with
        | [x, y], _ => exact ⟨x, y, rfl⟩
      obtain ⟨hdx, hdy⟩ : Dq H x dx ∧ Dq H y dy := by
        cases hx with
        | cons a b =>
          cases b with
          | cons b _ => exact ⟨a, b⟩
      have fx := fds dx List.mem_cons_self
      have fy := fds dy (List.mem_cons_of_mem _ List.mem_cons_self)
      have hp : pairD (.tuple [dx, dy]) ↔ (nameD dx ∧ nameD dy) ∧ dx ≠ .str "sea" := by
        constructor
        · rintro ⟨r, e, h⟩
          unfold rowD at e
          injection e with e
          injection e with e1 e
          injection e with e2
          subst e1 e2
          exact ⟨⟨⟨_, rfl, h.a⟩, ⟨_, rfl, h.b⟩⟩, fun z => h.s (PyData.str.inj z)⟩
        · rintro ⟨⟨⟨p, rfl, hp⟩, ⟨q, rfl, hq⟩⟩, hs⟩
          exact ⟨(p, q), rfl, hp, hq, fun z => hs (congrArg PyData.str z)⟩
      refine ⟨_, rfl, a, _, _, _, rfl, rfl, .inl (.inl ha), atI_nat (j := 0) rfl, x, dx, m, kk, rfl, hdx, fx, hm, fun H1 s1 => ⟨_, rfl, ?_⟩⟩
      rcases Classical.em (¬ nameD dx) with h3 | h3
      · rw [pB_f fun z => h3 (hp.mp z).1.1] at k
        rw [nameB_f h3]
        exact iteF (k _ s1)
      have h3 := Classical.not_not.mp h3
      rw [nameB_t h3]
      refine iteT ?_
      refine ⟨_, rfl, a, _, _, _, rfl, rfl, .inl (.inl (s1 _ _ ha)), atI_nat (j := 1) rfl, y, dy, m, kk, rfl, hdy.same s1, fy, hm, fun H2 s2 => ⟨_, rfl, ?_⟩⟩
      rcases Classical.em (¬ nameD dy) with h4 | h4
      · rw [pB_f fun z => h4 (hp.mp z).1.2] at k
        rw [nameB_f h4]
        exact iteF (k _ (s1.trans s2))
      have h4 := Classical.not_not.mp h4
      rw [nameB_t h4]
      refine iteT ?_
      obtain ⟨p, rfl, hp1⟩ := h3
      cases hdx
      refine ⟨_, rfl, a, _, _, _, rfl, rfl, .inl (.inl ((s1.trans s2) _ _ ha)), atI_nat (j := 0) rfl, rfl, ?_⟩
      have e : pB (pairD (.tuple [.str p, dy])) = !decide (V.str p = V.str "sea") := by
        by_cases hs : p = "sea"
        · rw [pB_f fun z => (hp.mp z).2 (congrArg PyData.str hs), decide_eq_true (congrArg V.str hs)]
          rfl
        · rw [pB_t (hp.mpr ⟨⟨⟨p, rfl, hp1⟩, h4⟩, fun z => hs (PyData.str.inj z)⟩), decide_eq_false fun z => hs (V.str.inj z)]
          rfl
      rw [e] at k
      exact k _ (s1.trans s2)
theorem ok_lispair {f fN : Addr} {fd fdN : FuncData} (F : FnP K "_law_is_pair" sLIsPair f fd) (F_law_is_name : FnP K "_law_is_name" sLIsName fN fdN) (g_law_is_name : mg "_law_is_name" = some (.ref fN)) (B : Bl mg) : FnOk P w K mg base CX0 2 f fd ["_law_entry", "_law_earlier"] spIsPair := by
  have G_law_is_name : FnOk P w K mg base CX0 1 fN fdN ["_law_word"] spIsNameD := ok_lisname F_law_is_name B
  have b_law_is_name : Binds K fdN ["_law_word"] [] := F_law_is_name.bindsN fun _ _ _ _ _ _ us hl => match us, hl with | [_], _ => rfl
  refine F.ok scLIsPair (fun vs H Q E h => ?_) (fun cdv A outer s H vs Q E hr h => ?_)
  · obtain ⟨v, d, m, k, l, ws, R, rfl, _⟩ := h
    rfl
  · obtain ⟨v, d, m, kk, l, ws, R, rfl, hd, fit, hm, hl, hw, hRl, k⟩ := h
    have hr_law_is_name : Room 1 _ := hr.mono (by decide)
    refine ⟨_, PSs.nox (pss_cons
      (ps_if (PW.pt (pw_or (pt_not (pt_val (pe_callB call_isi (by rfl) B.isinstance (by decide +kernel) (pa_cons (pv 0) (pa_cons (pe_bltn (v := .ty "tuple") (by rfl) B.tuple (by decide +kernel) rfl) pa_nil))))) (pw_or (pt_cmpR op_ne (pe_callB (lenK (K := K)) (by rfl) B.len PySem.boot_len (pa_cons (pv 0) pa_nil)) pe_int (nomark _)) (pw_or (pt_not (pt_val (pe_call G_law_is_name hr_law_is_name (by rfl) g_law_is_name F_law_is_name.kp b_law_is_name .nil pass0 (pa_cons (pe_ix (ixTK (K := K)) (pv 0) pe_int (fun _ _ => rfl)) pa_nil)))) (pw_or1 (pt_not (pt_val (pe_call G_law_is_name hr_law_is_name (by rfl) g_law_is_name F_law_is_name.kp b_law_is_name .nil pass0 (pa_cons (pe_ix (ixTK (K := K)) (pv 0) pe_int (fun _ _ => rfl)) pa_nil))))))))) (pss_one
      (ps_ret pe_bl)) pss_nil)
      (pss_one
      (ps_ret (pe_and (pe_cmpR op_ne (pe_ix (ixTK (K := K)) (pv 0) pe_int (fun _ _ => rfl)) pe_str (nomark _)) (pe_one (pe_not (pe_callB (anyK (K := K) rfl) (by rfl) B.any (by decide +kernel) (pa_cons (pe_lc (own := [("_law_one", 2)]) (g := gName 2) (tt := tYes) (by rfl) scLIsPair.nd (pi_list (pv 1)) (blkOk_by (own := [("_law_one", 2)]) (N := scLIsPair_N) (sc := defScope scLIsPair_S) (by decide +kernel)) (fun _ _ _ _ _ => (pg_name (i := 2) scLIsPair.nd rfl (Or.inl rfl))) (fun _ _ _ _ _ => pts_nil) (fun _ _ _ _ _ => (pe_cmpR op_eq (pe_ix (ixTK (K := K)) (pv 2) pe_int (fun _ _ => rfl)) (pe_ix (ixTK (K := K)) (pv 0) pe_int (fun _ _ => rfl)) (nomark _)))) pa_nil)))))))), ?_⟩
    cases hT : isT d with
    | false =>
      have nn : ¬ ∃ r : Row, d = rowD r ∧ RowOk r ∧ ∀ r' ∈ R, r'.1 ≠ r.1 := fun ⟨y, e, _⟩ => by rw [e] at hT; cases hT
      rw [pB_f nn] at k
      refine ⟨_, rfl, v, .ty "tuple", _, _, false, rfl, .ty "tuple", dq_ty hd, by rw [kit_tuple, hT], _, rfl, ?_⟩
      exact iteT (k _ (.refl _))
    | true =>
      obtain ⟨a, xs, ds, rfl, rfl, ha, hx⟩ := dqT hd hT
      have hlen := hx.len
      obtain ⟨hdl, fds⟩ := fitT fit
      refine ⟨_, rfl, .ref a, .ty "tuple", _, _, true, rfl, .ty "tuple", .base (.tup ha), kit_ty (by decide +kernel), _, rfl, ?_⟩
      refine iteF ?_
      refine ⟨_, rfl, a, _, rfl, .inr (.inl (.inl ha)), rfl, _, rfl, ?_⟩
      rcases Classical.em (¬ xs.length = 2) with h2 | h2
      · have nn : ¬ ∃ r : Row, PyData.tuple ds = rowD r ∧ RowOk r ∧ ∀ r' ∈ R, r'.1 ≠ r.1 := fun ⟨y, e, _⟩ => by
          unfold rowD at e
          injection e with e
          rw [e] at hlen
          exact h2 hlen
        rw [pB_f nn] at k
        refine iteYes (fun z => h2 (by have := V.int.inj z; omega)) ?_
        exact k _ (.refl _)
      have h2 := Classical.not_not.mp h2
      refine iteNo (fun z => z (congrArg V.int (by omega))) ?_
      obtain ⟨x, y, rfl⟩ : ∃ x y, xs = [x, y] := by
        match xs, h2 with
        | [x, y], _ => exact ⟨x, y, rfl⟩
      obtain ⟨dx, dy, rfl⟩ : ∃ dx dy, ds = [dx, dy] := by
        match ds, hlen with
        | [x, y], _ => exact ⟨x, y, rfl⟩
      obtain ⟨hdx, hdy⟩ : Dq H x dx ∧ Dq H y dy := by
        cases hx with
        | cons a b =>
          cases b with
          | cons b _ => exact ⟨a, b⟩
      have fx := fds dx List.mem_cons_self
      have fy := fds dy (List.mem_cons_of_mem _ List.mem_cons_self)
      have hp : (∃ r : Row, PyData.tuple [dx, dy] = rowD r ∧ RowOk r ∧ ∀ r' ∈ R, r'.1 ≠ r.1) ↔ (nameD dx ∧ nameD dy) ∧ dx ≠ .str "sea" ∧ ∀ r' ∈ R, dx ≠ .str r'.1 := by
        constructor
        · rintro ⟨r, e, h, hn⟩
          unfold rowD at e
          injection e with e
          injection e with e1 e
          injection e with e2
          subst e1 e2
          exact ⟨⟨⟨_, rfl, h.a⟩, ⟨_, rfl, h.b⟩⟩, fun z => h.s (PyData.str.inj z), fun r' hr' z => hn r' hr' (PyData.str.inj z).symm⟩
        · rintro ⟨⟨⟨p, rfl, hp⟩, ⟨q, rfl, hq⟩⟩, hs, hn⟩
          exact ⟨(p, q), rfl, ⟨hp, hq, fun z => hs (congrArg PyData.str z)⟩, fun r' hr' z => hn r' hr' (congrArg PyData.str z.symm)⟩
      refine ⟨_, rfl, a, _, _, _, rfl, rfl, .inl (.inl ha), atI_nat (j := 0) rfl, x, dx, m, kk, rfl, hdx, fx, hm, fun H1 s1 => ⟨_, rfl, ?_⟩⟩
      rcases Classical.em (¬ nameD dx) with h3 | h3
      · rw [pB_f fun z => h3 (hp.mp z).1.1] at k
        rw [nameB_f h3]
        exact iteT (k _ s1)
      have h3 := Classical.not_not.mp h3
      rw [nameB_t h3]
      refine iteF ?_
      refine ⟨_, rfl, a, _, _, _, rfl, rfl, .inl (.inl (s1 _ _ ha)), atI_nat (j := 1) rfl, y, dy, m, kk, rfl, hdy.same s1, fy, hm, fun H2 s2 => ⟨_, rfl, ?_⟩⟩
      rcases Classical.em (¬ nameD dy) with h4 | h4
      · rw [pB_f fun z => h4 (hp.mp z).1.2] at k
        rw [nameB_f h4]
        exact iteT (k _ (s1.trans s2))
      have h4 := Classical.not_not.mp h4
      rw [nameB_t h4]
      refine iteF ?_
      obtain ⟨p, rfl, hp1⟩ := h3
      cases hdx
      have s12 := s1.trans s2
      refine ⟨_, rfl, a, _, _, _, rfl, rfl, .inl (.inl (s12 _ _ ha)), atI_nat (j := 0) rfl, rfl, _, rfl, ?_⟩
      by_cases hs : p = "sea"
      · rw [pB_f fun z => (hp.mp z).2.1 (congrArg PyData.str hs)] at k
        refine iteNo (fun z => z (congrArg V.str hs)) ?_
        exact k _ s12
      refine iteYes (fun z => hs (V.str.inj z)) ?_
      refine ⟨_, rfl, l, rfl, ⟨_, .inl (.inl (s12 _ _ hl))⟩, fun D nD => ?_⟩
      have hwl := hw.len
      rw [List.length_map] at hwl
      refine lc_listO (K := K) (a := l) (xs := ws) nD (fun j => ((R.take j).map fun r => decide (r.1 = p)).map V.bl) (by rw [List.take_zero]; rfl) (fun j _ => by rw [List.length_map, List.length_map, List.length_take]; exact small1000 (by omega)) (.inl (.inl (s12 _ _ hl))) ?_ ?_
      · intro j x H3 Nx hx s3 put skip
        obtain ⟨dj, hdj, qj⟩ := hw.at_ hx
        rw [List.getElem?_map] at hdj
        obtain ⟨r, hr, rfl⟩ := Option.map_eq_some_iff.mp hdj
        obtain ⟨c, cs, _, rfl, ec, hc, hcs⟩ := dqT qj rfl
        unfold rowD at ec
        injection ec with ec
        subst ec
        obtain ⟨v1, v2, rfl, q1⟩ : ∃ v1 v2, cs = [v1, v2] ∧ Dq H v1 (.str r.1) := by
          cases hcs with
          | cons a b =>
            cases b with
            | cons b c =>
              cases c
              exact ⟨_, _, rfl, a⟩
        cases q1
        have s13 := s12.trans s3
        refine ⟨rfl, tyes_i (iteT ?_)⟩
        refine ⟨_, rfl, c, _, _, _, rfl, rfl, .inl (.inl (s13 _ _ hc)), atI_nat (j := 0) rfl, _, rfl, a, _, _, _, rfl, rfl, .inl (.inl (s13 _ _ ha)), atI_nat (j := 0) rfl, rfl, ?_⟩
        refine put _ _ (.refl _) ?_
        rw [List.take_add_one, hr, List.map_append, List.map_append]
        have e : decide (V.str r.1 = V.str p) = decide (r.1 = p) := decide_eq_decide.mpr ⟨fun z => V.str.inj z, fun z => congrArg V.str z⟩
        rw [e]
        rfl
      intro H3 s3 hD3
      rw [hwl, List.take_length] at hD3
      refine ⟨D, _, rfl, .inl (.inl hD3), ?_⟩
      have e : (!((R.map fun r => decide (r.1 = p)).any id)) = pB (∃ r : Row, PyData.tuple [.str p, dy] = rowD r ∧ RowOk r ∧ ∀ r' ∈ R, r'.1 ≠ r.1) := by
        by_cases hr : ∃ r ∈ R, r.1 = p
        · obtain ⟨r, hr, e⟩ := hr
          rw [pB_f fun z => (hp.mp z).2.2 r hr (congrArg PyData.str e.symm), List.any_eq_true.mpr ⟨decide (r.1 = p), List.mem_map.mpr ⟨r, hr, rfl⟩, decide_eq_true e⟩]
          rfl
        · rw [pB_t (hp.mpr ⟨⟨⟨p, rfl, hp1⟩, h4⟩, fun z => hs (PyData.str.inj z), fun r' hr' z => hr ⟨r', hr', (PyData.str.inj z).symm⟩⟩), List.any_eq_false.mpr fun x hx => by
            obtain ⟨r, hr', rfl⟩ := List.mem_map.mp hx
            exact fun z => hr ⟨r, hr', of_decide_eq_true z⟩]
          rfl
      refine ⟨_, rfl, ?_⟩
      rw [e]
      exact k _ (s12.trans s3)
end
end K0
end
section
set_option Elab.async false
set_option linter.all false
set_option maxRecDepth 100000
set_option maxHeartbeats 2000000
namespace K0
open PySem PySem.Spec PyProof.Rows L2
/-! ### the first place of a kind -/
noncomputable def firstP (P : Nat → Prop) : Nat → Option Nat
  | 0 => none
  | n + 1 => (firstP P n).orElse fun _ => if pB (P n) = true then some n else none
theorem pB_true {p : Prop} (h : pB p = true) : p := by
  by_cases e : p
  · exact e
  · rw [pB_f e] at h; cases h
theorem firstP_none {P : Nat → Prop} : ∀ {n : Nat}, (∀ i, i < n → ¬ P i) → firstP P n = none
  | 0, _ => rfl
  | n + 1, h => by
    unfold firstP
    rw [firstP_none fun i hi => h i (Nat.lt_succ_of_lt hi), pB_f (h n (Nat.lt_succ_self n))]
    rfl
theorem firstP_some {P : Nat → Prop} : ∀ {n i : Nat}, i < n → P i → (∀ j, j < i → ¬ P j) → firstP P n = some i
  | n + 1, i, hi, hp, hn => by
    unfold firstP
    by_cases e : i = n
    · subst e
      rw [firstP_none hn, pB_t hp]
      rfl
    · rw [firstP_some (n := n) (by omega) hp hn]
      rfl
theorem firstP_is {P : Nat → Prop} : ∀ {n : Nat}, (firstP P n = none ∧ ∀ i, i < n → ¬ P i) ∨ ∃ i, i < n ∧ firstP P n = some i ∧ P i ∧ ∀ j, j < i → ¬ P j
  | 0 => .inl ⟨rfl, fun i hi => absurd hi (Nat.not_lt_zero i)⟩
  | n + 1 => by
    rcases firstP_is (P := P) (n := n) with ⟨h, hn⟩ | ⟨i, hi, h, hp, hn⟩
    · by_cases e : P n
      · exact .inr ⟨n, Nat.lt_succ_self n, firstP_some (Nat.lt_succ_self n) e hn, e, hn⟩
      · refine .inl ⟨firstP_none ?_, ?_⟩
        all_goals
          intro i hi
          by_cases ei : i = n
          · rw [ei]; exact e
          · exact hn i (by omega)
    · exact .inr ⟨i, Nat.lt_succ_of_lt hi, firstP_some (Nat.lt_succ_of_lt hi) hp hn, hp, hn⟩
/-! ### the first fault of rows of a river -/
/-- rows, names and no name twice -/
structure RowsOk (R : List Row) : Prop where
  ok : ∀ r ∈ R, RowOk r
  nd : (nmsOf R).Nodup
def badRow (ds : List PyData) (i : Nat) : Prop := ¬ ∃ r, ds[i]? = some (rowD r) ∧ RowOk r ∧ ∀ j, j < i → ∀ r', ds[j]? = some (rowD r') → r'.1 ≠ r.1
def lowBad (R : List Row) (i : Nat) : Prop := ∃ r, R[i]? = some r ∧ r.2 ≠ "sea" ∧ r.2 ∉ nmsOf R
def ringAt (R : List Row) (i : Nat) : Prop := ∃ r, R[i]? = some r ∧ itr (lowR R) R.length r.1 ≠ "sea"
noncomputable def unrow (d : PyData) : Row := @dite _ (∃ r, d = rowD r) (Classical.propDecidable _) (fun h => Classical.choose h) (fun _ => ("", ""))
theorem unrow_row (r : Row) : unrow (rowD r) = r := by
  have h : ∃ r', rowD r = rowD r' := ⟨r, rfl⟩
  unfold unrow
  rw [@dif_pos _ (Classical.propDecidable _) h]
  exact (rowD_inj (Classical.choose_spec h)).symm
theorem unrow_map (R : List Row) : (R.map rowD).map unrow = R := by
  rw [List.map_map]
  conv => rhs; rw [← List.map_id R]
  exact List.map_congr_left fun r _ => unrow_row r
noncomputable def wrF (ds : List PyData) : Option Int :=
  if ds.length = 0 ∨ 40 < ds.length then some (-1)
  else match firstP (badRow ds) ds.length with
    | some i => some (i : Int)
    | none => match firstP (lowBad (ds.map unrow)) ds.length with
      | some i => some (i : Int)
      | none => match firstP (ringAt (ds.map unrow)) ds.length with
        | some i => some (i : Int)
        | none => none
theorem wrF_len {ds : List PyData} (h : ds.length = 0 ∨ 40 < ds.length) : wrF ds = some (-1) := by unfold wrF; rw [if_pos h]
theorem fb_some {ds : List PyData} {i : Nat} (hi : i < ds.length) {R : List Row} (e : ds.take i = R.map rowD) (hR : RowsOk R) (bad : ¬ ∃ r, ds[i]? = some (rowD r) ∧ RowOk r ∧ ∀ r' ∈ R, r'.1 ≠ r.1) : firstP (badRow ds) ds.length = some i := by
  have hl : R.length = i := by
    have := congrArg List.length e
    rw [List.length_take, List.length_map] at this
    omega
  have at_ : ∀ j, j < i → ds[j]? = (R[j]?).map rowD := fun j hj => by
    rw [← List.getElem?_take_of_lt (l := ds) hj, e, List.getElem?_map]
  refine firstP_some hi ?_ fun j hj => ?_
  · rintro ⟨r, h1, h2, h3⟩
    refine bad ⟨r, h1, h2, fun r' hr' => ?_⟩
    obtain ⟨j, hj⟩ := List.getElem?_of_mem hr'
    have hji : j < i := by
      have := (List.getElem?_eq_some_iff.mp hj).1
      omega
    exact h3 j hji r' (by rw [at_ j hji, hj]; rfl)
  · refine fun z => z ?_
    have hjl : j < R.length := by omega
    refine ⟨R[j], by rw [at_ j hj, List.getElem?_eq_getElem hjl]; rfl, hR.ok _ (List.getElem_mem hjl), fun k hk r' hr' => ?_⟩
    rw [at_ k (by omega), List.getElem?_eq_getElem (by omega)] at hr'
    have e2 := rowD_inj (Option.some.inj hr')
    intro e3
    have g1 : (nmsOf R)[k]? = some r'.1 := by
      show (R.map (·.1))[k]? = _
      rw [List.getElem?_map, List.getElem?_eq_getElem (by omega), ← e2]
      rfl
    have g2 : (nmsOf R)[j]? = some r'.1 := by
      show (R.map (·.1))[j]? = _
      rw [List.getElem?_map, List.getElem?_eq_getElem hjl, e3]
      rfl
    have := nd_ix hR.nd g1 g2
    omega
theorem wrF_row {ds : List PyData} (h : ¬ (ds.length = 0 ∨ 40 < ds.length)) {i : Nat} (hi : i < ds.length) {R : List Row} (e : ds.take i = R.map rowD) (hR : RowsOk R) (bad : ¬ ∃ r, ds[i]? = some (rowD r) ∧ RowOk r ∧ ∀ r' ∈ R, r'.1 ≠ r.1) : wrF ds = some (i : Int) := by
  have f := fb_some hi e hR bad
  unfold wrF
  rw [if_neg h, f]
theorem fb_none {R : List Row} (hR : RowsOk R) : firstP (badRow (R.map rowD)) (R.map rowD).length = none := by
  refine firstP_none fun i hi z => z ?_
  rw [List.length_map] at hi
  refine ⟨R[i], by rw [List.getElem?_map, List.getElem?_eq_getElem hi]; rfl, hR.ok _ (List.getElem_mem hi), fun j hj r' hr' e3 => ?_⟩
  rw [List.getElem?_map, List.getElem?_eq_getElem (by omega)] at hr'
  have e2 := rowD_inj (Option.some.inj hr')
  have g1 : (nmsOf R)[j]? = some r'.1 := by
    show (R.map (·.1))[j]? = _
    rw [List.getElem?_map, List.getElem?_eq_getElem (by omega), ← e2]
    rfl
  have g2 : (nmsOf R)[i]? = some r'.1 := by
    show (R.map (·.1))[i]? = _
    rw [List.getElem?_map, List.getElem?_eq_getElem hi, e3]
    rfl
  have := nd_ix hR.nd g1 g2
  omega
section
variable {R : List Row} (hR : RowsOk R) (h : ¬ (R.length = 0 ∨ 40 < R.length))
include hR h
theorem wrF_two : wrF (R.map rowD) = match firstP (lowBad R) R.length with
      | some i => some (i : Int)
      | none => match firstP (ringAt R) R.length with
        | some i => some (i : Int)
        | none => none := by
  have f := fb_none hR
  unfold wrF
  rw [if_neg (by rw [List.length_map]; exact h), f, unrow_map, List.length_map]
theorem wrF_low {i : Nat} (hi : i < R.length) (b : lowBad R i) (n : ∀ j, j < i → ¬ lowBad R j) : wrF (R.map rowD) = some (i : Int) := by
  rw [wrF_two hR h, firstP_some hi b n]
theorem wrF_ring (l : ∀ j, j < R.length → ¬ lowBad R j) {i : Nat} (hi : i < R.length) (b : ringAt R i) (n : ∀ j, j < i → ¬ ringAt R j) : wrF (R.map rowD) = some (i : Int) := by
  rw [wrF_two hR h, firstP_none l, firstP_some hi b n]
theorem wrF_good (l : ∀ j, j < R.length → ¬ lowBad R j) (n : ∀ j, j < R.length → ¬ ringAt R j) : wrF (R.map rowD) = none := by
  rw [wrF_two hR h, firstP_none l, firstP_none n]
end
/-- what is told of rows before the courses are gone along -/
noncomputable def wrN (ds : List PyData) : Option Int :=
  if ds.length = 0 ∨ 40 < ds.length then some (-1)
  else match firstP (badRow ds) ds.length with
    | some i => some (i : Int)
    | none => match firstP (lowBad (ds.map unrow)) ds.length with
      | some i => some (i : Int)
      | none => none
theorem wrN_len {ds : List PyData} (h : ds.length = 0 ∨ 40 < ds.length) : wrN ds = some (-1) := by unfold wrN; rw [if_pos h]
theorem wrN_row {ds : List PyData} (h : ¬ (ds.length = 0 ∨ 40 < ds.length)) {i : Nat} (hi : i < ds.length) {R : List Row} (e : ds.take i = R.map rowD) (hR : RowsOk R) (bad : ¬ ∃ r, ds[i]? = some (rowD r) ∧ RowOk r ∧ ∀ r' ∈ R, r'.1 ≠ r.1) : wrN ds = some (i : Int) := by
  unfold wrN
  rw [if_neg h, fb_some hi e hR bad]
theorem wrN_low {R : List Row} (hR : RowsOk R) (h : ¬ (R.length = 0 ∨ 40 < R.length)) {i : Nat} (hi : i < R.length) (b : lowBad R i) (n : ∀ j, j < i → ¬ lowBad R j) : wrN (R.map rowD) = some (i : Int) := by
  unfold wrN
  rw [if_neg (by rw [List.length_map]; exact h), fb_none hR, unrow_map, List.length_map, firstP_some hi b n]
theorem wrN_good {R : List Row} (hR : RowsOk R) (h : ¬ (R.length = 0 ∨ 40 < R.length)) (n : ∀ j, j < R.length → ¬ lowBad R j) : wrN (R.map rowD) = none := by
  unfold wrN
  rw [if_neg (by rw [List.length_map]; exact h), fb_none hR, unrow_map, List.length_map, firstP_none n]
/-- of any value -/
noncomputable def needD : PyData → Option Int
  | .list ds => wrN ds
  | _ => some (-1)
noncomputable def wrD : PyData → Option Int
  | .list ds => wrF ds
  | _ => some (-1)
theorem needD_wr {d : PyData} {i : Int} (h : needD d = some i) : wrD d = some i := by
  cases d with
  | list ds =>
    have h : wrN ds = some i := h
    show wrF ds = some i
    unfold wrN at h
    unfold wrF
    split at h
    · rename_i h1; rw [if_pos h1]; exact h
    · rename_i h1
      rw [if_neg h1]
      split at h
      · exact h
      · split at h
        · exact h
        · cases h
  | _ => exact h
/-- places are small -/
theorem wrD_small {d : PyData} {i : Int} (h : wrD d = some i) : -1 ≤ i ∧ i ≤ 40 := by
  have key : ∀ {n : Nat} {P : Nat → Prop} {j : Nat}, n ≤ 40 → firstP P n = some j → -1 ≤ (j : Int) ∧ (j : Int) ≤ 40 := fun {n P j} hn hj => by
    rcases firstP_is (P := P) (n := n) with ⟨e, _⟩ | ⟨i, hi, e, _⟩
    · rw [hj] at e; cases e
    · rw [hj] at e; cases e; omega
  cases d with
  | list ds =>
    have h : wrF ds = some i := h
    unfold wrF at h
    split at h
    · cases h; omega
    · rename_i h1
      split at h
      · rename_i j e; cases h; exact key (by omega) e
      · split at h
        · rename_i j e; cases h; exact key (by omega) e
        · split at h
          · rename_i j e; cases h; exact key (by omega) e
          · cases h
  | none => cases h; omega
  | bool _ => cases h; omega
  | int _ => cases h; omega
  | str _ => cases h; omega
  | tuple _ => cases h; omega
  | dict _ => cases h; omega
/-- which of the ways a fault is -/
theorem wrF_is (ds : List PyData) :
    ((ds.length = 0 ∨ 40 < ds.length) ∧ wrF ds = some (-1)) ∨ (¬ (ds.length = 0 ∨ 40 < ds.length) ∧ ((∃ i R, i < ds.length ∧ ds.take i = R.map rowD ∧ RowsOk R ∧ (¬ ∃ r, ds[i]? = some (rowD r) ∧ RowOk r ∧ ∀ r' ∈ R, r'.1 ≠ r.1) ∧ wrF ds = some (i : Int)) ∨ ∃ R, ds = R.map rowD ∧ RowsOk R)) := by
  by_cases h : ds.length = 0 ∨ 40 < ds.length
  · exact .inl ⟨h, wrF_len h⟩
  refine .inr ⟨h, ?_⟩
  have key : ∀ n, n ≤ ds.length → (∃ i R, i < ds.length ∧ ds.take i = R.map rowD ∧ RowsOk R ∧ ¬ ∃ r, ds[i]? = some (rowD r) ∧ RowOk r ∧ ∀ r' ∈ R, r'.1 ≠ r.1) ∨ ∃ R, ds.take n = R.map rowD ∧ RowsOk R := fun n => by
    induction n with
    | zero => exact fun _ => .inr ⟨[], rfl, ⟨(fun r hr => nomatch hr), List.Pairwise.nil⟩⟩
    | succ n ih =>
      intro hn
      rcases ih (by omega) with a | ⟨R, e, hR⟩
      · exact .inl a
      by_cases b : ∃ r, ds[n]? = some (rowD r) ∧ RowOk r ∧ ∀ r' ∈ R, r'.1 ≠ r.1
      · obtain ⟨r, h1, h2, h3⟩ := b
        refine .inr ⟨R ++ [r], by rw [List.take_add_one, h1, e, List.map_append]; rfl, fun x hx => ?_, ?_⟩
        · rcases List.mem_append.mp hx with hx | hx
          · exact hR.ok x hx
          · rw [List.mem_singleton.mp hx]; exact h2
        · show ((R ++ [r]).map (·.1)).Nodup
          rw [List.map_append]
          refine List.nodup_append.mpr ⟨hR.nd, (by simp), fun a ha c hc e2 => ?_⟩
          obtain ⟨r', hr', rfl⟩ := List.mem_map.mp ha
          rw [List.map_cons, List.map_nil] at hc
          exact h3 r' hr' (e2.trans (List.mem_singleton.mp hc))
      · exact .inl ⟨n, R, by omega, e, hR, b⟩
  rcases key ds.length (Nat.le_refl _) with ⟨i, R, a, e, hR, b⟩ | ⟨R, e, hR⟩
  · exact .inl ⟨i, R, a, e, hR, b, wrF_row h a e hR b⟩
  · rw [List.take_length] at e
    exact .inr ⟨R, e, hR⟩
end K0
end
section
set_option Elab.async false
set_option linter.all false
set_option maxRecDepth 100000
set_option maxHeartbeats 4000000
namespace K0
open PySem PySem.Spec PyProof.Rows L2
/-! ### the first fault, by the law -/
abbrev scLWrong_N : List Str := ["_law_rows", "_law_place", "_law_entry", "_law_below", "_law_weir", "_law_step"]
abbrev scLWrong_S : Stmt := sLWrongRiver
theorem scLWrong : FnScope scLWrong_N ["_law_rows"] (defScope sLWrongRiver) := ⟨rfl, rfl, rfl, by decide +kernel, rfl, by decide +kernel, by decide +kernel⟩
theorem cutV_take (xs : List V) (n : Nat) : cutV xs none (some (n : Int)) = xs.take n := by
  unfold cutV
  rw [HT.sIx_none, HT.sIx_nat]
  show (xs.drop 0).take (min n xs.length - 0) = xs.take n
  rw [List.drop_zero, Nat.sub_zero]
  exact (List.take_eq_take_min ..).symm
theorem eqv_nilD (ds : List PyData) : PyData.eqv (.list ds) (.list []) = decide (ds.length = 0) := by
  cases ds with
  | nil => simp only [PyData.eqv, PyData.eqvAll]; rfl
  | cons a l => simp only [PyData.eqv, PyData.eqvAll]; rfl
/-- rows as data are rows -/
theorem dq_rows {H : Hp} : ∀ {ws : List V} {R : List Row}, DqAll H ws (R.map rowD) → ∃ AR : List (Addr × Row), ws = (AR.map fun q => V.ref q.1) ∧ rowsOf AR = R ∧ ∀ q ∈ AR, H q.1 = some (.tup [.str q.2.1, .str q.2.2])
  | _, [], .nil => ⟨[], rfl, rfl, fun q hq => by cases hq⟩
  | _, r :: R, .cons a b => by
    obtain ⟨AR, e1, e2, e3⟩ := dq_rows b
    obtain ⟨t, xs, _, rfl, ed, ht, hx⟩ := dqT a rfl
    unfold rowD at ed
    injection ed with ed
    subst ed
    obtain rfl : xs = [.str r.1, .str r.2] := by
      cases hx with
      | cons x1 y1 =>
        cases x1
        cases y1 with
        | cons x2 y2 =>
          cases x2
          cases y2
          rfl
    refine ⟨(t, r) :: AR, by rw [e1]; rfl, by rw [← e2]; rfl, fun q hq => ?_⟩
    rcases List.mem_cons.mp hq with rfl | hq
    · exact ht
    · exact e3 q hq
theorem RowsOk.low {R : List Row} (h : RowsOk R) : lowR R "sea" = "sea" := by
  unfold lowR
  rw [List.find?_eq_none.mpr fun r hr z => (h.ok r hr).s (of_decide_eq_true z)]
  rfl
theorem itr_low {R : List Row} (h : RowsOk R) (l : ∀ j, j < R.length → ¬ lowBad R j) {x : Str} (hx : x ∈ nmsOf R) : ∀ n, itr (lowR R) n x = "sea" ∨ itr (lowR R) n x ∈ nmsOf R
  | 0 => .inr hx
  | n + 1 => by
    show lowR R (itr (lowR R) n x) = "sea" ∨ lowR R (itr (lowR R) n x) ∈ nmsOf R
    rcases itr_low h l hx n with e | e
    · rw [e]
      exact .inl h.low
    · obtain ⟨r, hr, e1, e2⟩ := low_row e
      rw [← e2]
      obtain ⟨j, hj⟩ := List.getElem?_of_mem hr
      by_cases hs : r.2 = "sea"
      · exact .inl hs
      · refine .inr (Classical.byContradiction fun z => l j (List.getElem?_eq_some_iff.mp hj).1 ⟨r, hj, hs, z⟩)
/-- a place, or none, as a value -/
def opV : Option Int → V
  | none => .non
  | some i => .int i
def spLWrong : Sp := fun vs H Q _ => ∃ (l : Addr) (ws : List V) (ds : List PyData) (m k : Nat), vs = [.ref l] ∧ H l = some (.lst ws) ∧ DqAll H ws ds ∧ (∀ d ∈ ds, Fit m k d) ∧ m ≤ 900 ∧ k ≤ 60 ∧ ds.length ≤ 900 ∧ ∀ H', Same H H' → Q (opV (wrF ds)) H'
section
variable {P : Program} {w : World} {K : PySem.W.Frag} {mg : Str → Option Value} {base : Heap} {tS tM tL : Tok}
theorem ok_lwrong {f fN fP : Addr} {fd fdN fdP : FuncData} (F : FnP K "_law_wrong_river" sLWrongRiver f fd) (F_law_is_name : FnP K "_law_is_name" sLIsName fN fdN) (g_law_is_name : mg "_law_is_name" = some (.ref fN)) (F_law_is_pair : FnP K "_law_is_pair" sLIsPair fP fdP) (g_law_is_pair : mg "_law_is_pair" = some (.ref fP)) (B : Bl mg) : FnOk P w K mg base CX0 3 f fd ["_law_rows"] spLWrong := by
  have G_law_is_pair : FnOk P w K mg base CX0 2 fP fdP ["_law_entry", "_law_earlier"] spIsPair := ok_lispair F_law_is_pair F_law_is_name g_law_is_name B
  have b_law_is_pair : Binds K fdP ["_law_entry", "_law_earlier"] [] := F_law_is_pair.bindsN fun _ _ _ _ _ _ us hl => match us, hl with | [_, _], _ => rfl
  refine F.ok scLWrong (fun vs H Q E h => ?_) (fun cdv A outer s H vs Q E hr h => ?_)
  · obtain ⟨l, ws, ds, m, k, rfl, _⟩ := h
    rfl
  · obtain ⟨l, ws, ds, m, kk, rfl, hl, hw, fit, hm, hk, hdl, k⟩ := h
    have hu := hu_of hr
    have hu64 := hr.units
    have hr_law_is_pair : Room 2 _ := hr
    refine ⟨_, PSs.nox (pss_cons
      (ps_if (PW.pt (pw_or (pt_not (pt_val (pe_callB call_isi (by rfl) B.isinstance (by decide +kernel) (pa_cons (pv 0) (pa_cons (pe_bltn (v := .ty "list") (by rfl) B.list (by decide +kernel) rfl) pa_nil))))) (pw_or (pt_cmpR (op_eqD hu64) (pv 0) (pe_lst pa_nil) (nomark _)) (pw_or1 (pt_cmpR op_gt (pe_callB (lenK (K := K)) (by rfl) B.len PySem.boot_len (pa_cons (pv 0) pa_nil)) pe_int (nomark _)))))) (pss_one
      (ps_ret (pe_un un_neg pe_int))) pss_nil)
      (pss_cons
      (ps_for PassesOwn.never rfl (pi_enum (by rfl) B.enumerate (pa_cons (pv 0) pa_nil)) (tgK (K := K) (n := 2) (by rfl) (pgs_cons (pg_name (i := 1) scLWrong.nd rfl (Or.inl rfl)) (pgs_cons (pg_name (i := 2) scLWrong.nd rfl (Or.inl rfl)) pgs_nil))) (pss_one
      (ps_if (pt_not (pt_val (pe_call G_law_is_pair hr_law_is_pair (by rfl) g_law_is_pair F_law_is_pair.kp b_law_is_pair .nil pass0 (pa_cons (pv 2) (pa_cons (pe_slice sl_list (pv 0) po_none (po_some (pv 1))) pa_nil))))) (pss_one
      (ps_ret (pv 1))) pss_nil)))
      (pss_cons
      (ps_set (i := 3) scLWrong.nd rfl (Or.inl rfl) (pe_callTy (call_dictP rfl) (by rfl) B.dict (by decide +kernel) (pa_cons (pv 0) pa_nil)))
      (pss_cons
      (ps_for PassesOwn.never rfl (pi_enum (by rfl) B.enumerate (pa_cons (pv 0) pa_nil)) (tgK (K := K) (n := 2) (by rfl) (pgs_cons (pg_name (i := 1) scLWrong.nd rfl (Or.inl rfl)) (pgs_cons (pg_name (i := 2) scLWrong.nd rfl (Or.inl rfl)) pgs_nil))) (pss_one
      (ps_if (PW.pt (pw_and (pt_cmpR op_ne (pe_ix (ixTK (K := K)) (pv 2) pe_int (fun _ _ => rfl)) pe_str (nomark _)) (pw_and1 (pt_cmp (pc_dnotin hu (pe_ix (ixTK (K := K)) (pv 2) pe_int (fun _ _ => rfl)) (pv 3)))))) (pss_one
      (ps_ret (pv 1))) pss_nil)))
      (pss_cons
      (ps_for PassesOwn.never rfl (pi_enum (by rfl) B.enumerate (pa_cons (pv 0) pa_nil)) (tgK (K := K) (n := 2) (by rfl) (pgs_cons (pg_name (i := 1) scLWrong.nd rfl (Or.inl rfl)) (pgs_cons (pg_name (i := 2) scLWrong.nd rfl (Or.inl rfl)) pgs_nil))) (pss_cons
      (ps_set (i := 4) scLWrong.nd rfl (Or.inl rfl) (pe_ix (ixTK (K := K)) (pv 2) pe_int (fun _ _ => rfl)))
      (pss_cons
      (ps_for PassesOwn.never rfl (pi_range1 (by rfl) B.range (pa_cons (pe_callB (lenK (K := K)) (by rfl) B.len PySem.boot_len (pa_cons (pv 0) pa_nil)) pa_nil)) (pg_name (i := 5) scLWrong.nd rfl (Or.inl rfl)) (pss_one
      (ps_set (i := 4) scLWrong.nd rfl (Or.inl rfl) (pe_ifExp (pt_cmpR op_eq (pv 4) pe_str (nomark _)) pe_str (pe_dget hu (pv 3) (pv 4) (fun _ _ => rfl))))))
      (pss_one
      (ps_if (pt_cmpR op_ne (pv 4) pe_str (nomark _)) (pss_one
      (ps_ret (pv 1))) pss_nil)))))
      (pss_one
      (ps_ret pe_non))))))), ?_⟩
    have hwl := hw.len
    have shl : SeqAt.shaped (.list ds) = true := (Fit.lst (m := 900) ds (fun d hd => (fit d hd).mono hm (Nat.le_refl _)) hdl).shaped (by omega)
    refine ⟨_, rfl, .ref l, .ty "list", _, _, true, rfl, .ty "list", .base (.lst hl), kit_ty (by decide +kernel), _, rfl, ?_⟩
    refine iteF ?_
    refine ⟨_, rfl, by show 0 ≤ sizeLine; rw [sizeLine_eq]; omega, fun e0 ne0 => ?_⟩
    have s1 : Same H (upd H e0 (.lst [])) := same_upd ne0
    have he0 : (upd H e0 (.lst [])) e0 = some (.lst []) := upd_same
    generalize upd H e0 (.lst []) = H1 at s1 he0
    refine ⟨_, _, .lst (.inl (.inl (s1 _ _ hl))) (hw.same s1).dp, .lst (.inl (.inl he0)) .nil, shl, by decide +kernel, _, rfl, ?_⟩
    rw [eqv_nilD]
    by_cases h0 : ds.length = 0
    · rw [wrF_len (.inl h0)] at k
      rw [decide_eq_true h0]
      refine iteT ?_
      exact ⟨1, rfl, k _ s1⟩
    rw [decide_eq_false h0]
    refine iteF ?_
    refine ⟨_, rfl, l, _, rfl, .inl (.inl (.inl (s1 _ _ hl))), _, _, rfl, rfl, _, rfl, ?_⟩
    by_cases h40 : 40 < ds.length
    · rw [wrF_len (.inr h40)] at k
      refine iteD (by omega) ?_
      exact ⟨1, rfl, k _ s1⟩
    refine iteDn (by omega) ?_
    have hlen : ¬ (ds.length = 0 ∨ 40 < ds.length) := by omega
    -- the rows one by one
    refine ⟨_, rfl, l, _, rfl, .inl (.inl (s1 _ _ hl)), ?_⟩
    refine for_it (walk_enum (xs := ws)) (fun i σ H2 => ∃ (v1 v2 : Option V), σ = [some (.ref l), v1, v2, none, none, none] ∧ Same H H2 ∧ ∃ R, ds.take i = R.map rowD ∧ RowsOk R)
      ⟨_, _, rfl, s1, [], by rw [List.take_zero]; rfl, (fun r hr => by cases hr), List.Pairwise.nil⟩ (fun _ _ _ _ h => by obtain ⟨_, _, _, s, _⟩ := h; exact .inl (.inl (s _ _ hl))) ?_ ?_
    · rintro i x σ H2 H3 hi ⟨v1, v2, rfl, s2, R, eR, hR⟩ ⟨T, x1, x2, rfl, hT, rfl, e1, e2⟩
      obtain rfl : V.int (i : Int) = x1 := Option.some.inj e1
      have hid : i < ds.length := by omega
      obtain ⟨d, hd, qd⟩ := hw.at_ e2
      have s3 : Same H (upd H2 T (.tup [.int (i : Int), x2])) := s2.trans (same_upd hT)
      refine ⟨T, _, rfl, .inl (.inl upd_same), rfl, _, _, rfl, _, _, rfl, rfl, ?_⟩
      generalize upd H2 T (.tup [.int (i : Int), x2]) = H3 at s3
      refine ⟨_, rfl, _, rfl, _, rfl, _, rfl, l, _, rfl, .inl (.inl (s3 _ _ hl)), fun sl nsl => ?_⟩
      rw [cutV_take]
      have s4 : Same H3 (upd H3 sl (.lst (ws.take i))) := same_upd nsl
      have hsl : (upd H3 sl (.lst (ws.take i))) sl = some (.lst (ws.take i)) := upd_same
      generalize upd H3 sl (.lst (ws.take i)) = H4 at s4 hsl
      have s34 := s3.trans s4
      have hRi : R.length = i := by
        have := congrArg List.length eR
        rw [List.length_take, List.length_map] at this
        omega
      refine ⟨x2, d, m, kk, sl, ws.take i, R, rfl, qd.same s34, fit d (List.mem_of_getElem? hd), hm, hsl, by rw [← eR]; exact (hw.same s34).take i, by omega, fun H5 s5 => ⟨_, rfl, ?_⟩⟩
      have s35 := s34.trans s5
      by_cases hp : ∃ r : Row, d = rowD r ∧ RowOk r ∧ ∀ r' ∈ R, r'.1 ≠ r.1
      · rw [pB_t hp]
        refine iteF ?_
        obtain ⟨r, rfl, h1, h2⟩ := hp
        refine ⟨_, _, rfl, s35, R ++ [r], by rw [List.take_add_one, hd, eR, List.map_append]; rfl, fun y hy => ?_, ?_⟩
        · rcases List.mem_append.mp hy with hy | hy
          · exact hR.ok y hy
          · rw [List.mem_singleton.mp hy]; exact h1
        · show ((R ++ [r]).map (·.1)).Nodup
          rw [List.map_append]
          refine List.nodup_append.mpr ⟨hR.nd, by simp, fun a ha c hc e2 => ?_⟩
          obtain ⟨r', hr', rfl⟩ := List.mem_map.mp ha
          rw [List.map_cons, List.map_nil] at hc
          exact h2 r' hr' (e2.trans (List.mem_singleton.mp hc))
      · rw [pB_f hp]
        refine iteT ?_
        have e := wrF_row hlen hid eR hR (by rintro ⟨r, h1, h2, h3⟩; rw [hd] at h1; exact hp ⟨r, Option.some.inj h1, h2, h3⟩)
        rw [e] at k
        exact ⟨_, rfl, k _ s35⟩
    rintro σ H2 ⟨v1, v2, rfl, s2, R, eR, hR⟩
    rw [hwl, List.take_length] at eR
    subst eR
    rw [List.length_map] at hlen hdl h0 h40
    obtain ⟨AR, rfl, eA, hA⟩ := dq_rows hw
    have hRA : RowsAt H l AR := ⟨hl, hA⟩
    have hAl : AR.length = R.length := by rw [← eA]; exact (List.length_map _).symm
    have hnd : (R.map (·.1)).Nodup := hR.nd
    -- the dict
    refine ⟨_, rfl, l, AR.map (·.1), _, rfl, .inl (.inl (by rw [List.map_map]; exact s2 _ _ hl)), rows_pairs fun q hq => s2 _ _ (hA q hq), fun D nD => ?_⟩
    have em : mergeK [] ((rowsOf AR).map fun r => ((Sum.inr r.1 : Key), V.str r.2)) = kmap (fun y => .str (lowR R y)) (nmsOf R) := by
      rw [eA]
      exact merge_rows (R := R) (Q := R) (ns := []) (by simpa using hnd) fun r hr => low_at hnd hr
    rw [em]
    have s3 : Same H2 (upd H2 D (.dK (kmap (fun y => V.str (lowR R y)) (nmsOf R)))) := same_upd nD
    have hD : (upd H2 D (.dK (kmap (fun y => V.str (lowR R y)) (nmsOf R)))) D = some (.dK (kmap (fun y => V.str (lowR R y)) (nmsOf R))) := upd_same
    generalize upd H2 D (.dK (kmap (fun y => V.str (lowR R y)) (nmsOf R))) = H3 at s3 hD
    have s03 := s2.trans s3
    have atR : ∀ (i : Nat) (x2 : V), (AR.map fun q => V.ref q.1)[i]? = some x2 → ∃ t r, x2 = .ref t ∧ R[i]? = some r ∧ H t = some (.tup [.str r.1, .str r.2]) := fun i x2 e => by
      rw [List.getElem?_map] at e
      obtain ⟨q, hq, rfl⟩ := Option.map_eq_some_iff.mp e
      refine ⟨q.1, q.2, rfl, ?_, hA q (List.mem_of_getElem? hq)⟩
      rw [← eA]
      show (AR.map (·.2))[i]? = _
      rw [List.getElem?_map, hq]
      rfl
    -- what lies directly below
    refine ⟨_, rfl, l, _, rfl, .inl (.inl (s03 _ _ hl)), ?_⟩
    refine for_it (walk_enum (xs := AR.map fun q => V.ref q.1)) (fun i σ H4 => ∃ (v1 v2 : Option V), σ = [some (.ref l), v1, v2, some (.ref D), none, none] ∧ Same H3 H4 ∧ ∀ j, j < i → ¬ lowBad R j)
      ⟨_, _, rfl, .refl _, fun j hj => absurd hj (Nat.not_lt_zero j)⟩ (fun _ _ _ _ h => by obtain ⟨_, _, _, s, _⟩ := h; exact .inl (.inl (s _ _ (s03 _ _ hl)))) ?_ ?_
    · rintro i x σ H4 H5 hi ⟨v1, v2, rfl, s4, hn⟩ ⟨T, x1, x2, rfl, hT, rfl, e1, e2⟩
      obtain rfl : V.int (i : Int) = x1 := Option.some.inj e1
      obtain ⟨t, r, rfl, hr', ht⟩ := atR i x2 e2
      have hiR : i < R.length := (List.getElem?_eq_some_iff.mp hr').1
      have s5 : Same H3 (upd H4 T (.tup [.int (i : Int), .ref t])) := s4.trans (same_upd hT)
      refine ⟨T, _, rfl, .inl (.inl upd_same), rfl, _, _, rfl, _, _, rfl, rfl, ?_⟩
      generalize upd H4 T (.tup [.int (i : Int), .ref t]) = H5 at s5
      have ht5 := s5 _ _ (s03 _ _ ht)
      refine ⟨_, rfl, t, _, _, _, rfl, rfl, .inl (.inl ht5), atI_nat (j := 1) rfl, rfl, _, rfl, ?_⟩
      by_cases hs : r.2 = "sea"
      · refine iteNo (fun z => z (congrArg V.str hs)) ?_
        refine ⟨_, _, rfl, s5, fun j hj => ?_⟩
        by_cases ej : j = i
        · subst ej
          rintro ⟨r', h1, h2, _⟩
          rw [hr'] at h1
          cases h1
          exact h2 hs
        · exact hn j (by omega)
      refine iteYes (fun z => hs (V.str.inj z)) ?_
      refine ⟨_, rfl, t, _, _, _, rfl, rfl, .inl (.inl ht5), atI_nat (j := 1) rfl, _, rfl, D, _, rfl, DGet.k (k := Sum.inr r.2) (s5 _ _ hD), _, rfl, ?_⟩
      by_cases hin : r.2 ∈ nmsOf R
      · rw [kmap_at hin]
        refine iteF ?_
        refine ⟨_, _, rfl, s5, fun j hj => ?_⟩
        by_cases ej : j = i
        · subst ej
          rintro ⟨r', h1, _, h3⟩
          rw [hr'] at h1
          cases h1
          exact h3 hin
        · exact hn j (by omega)
      · rw [kmap_not hin]
        refine iteT ?_
        have e := wrF_low hR hlen hiR ⟨r, hr', hs, hin⟩ hn
        rw [e] at k
        exact ⟨_, rfl, k _ (s03.trans s5)⟩
    rintro σ H4 ⟨v1, v2, rfl, s4, hn⟩
    rw [List.length_map, hAl] at hn
    have s04 := s03.trans s4
    have hD4 := s4 _ _ hD
    -- rings
    refine ⟨_, rfl, l, _, rfl, .inl (.inl (s04 _ _ hl)), ?_⟩
    refine for_it (walk_enum (xs := AR.map fun q => V.ref q.1)) (fun i σ H5 => ∃ (v1 v2 v4 v5 : Option V), σ = [some (.ref l), v1, v2, some (.ref D), v4, v5] ∧ Same H4 H5 ∧ ∀ j, j < i → ¬ ringAt R j)
      ⟨_, _, _, _, rfl, .refl _, fun j hj => absurd hj (Nat.not_lt_zero j)⟩ (fun _ _ _ _ h => by obtain ⟨_, _, _, _, _, s, _⟩ := h; exact .inl (.inl (s _ _ (s04 _ _ hl)))) ?_ ?_
    · rintro i x σ H5 H6 hi ⟨v1, v2, v4, v5, rfl, s5, hg⟩ ⟨T, x1, x2, rfl, hT, rfl, e1, e2⟩
      obtain rfl : V.int (i : Int) = x1 := Option.some.inj e1
      obtain ⟨t, r, rfl, hr', ht⟩ := atR i x2 e2
      have hiR : i < R.length := (List.getElem?_eq_some_iff.mp hr').1
      have s6 : Same H4 (upd H5 T (.tup [.int (i : Int), .ref t])) := s5.trans (same_upd hT)
      refine ⟨T, _, rfl, .inl (.inl upd_same), rfl, _, _, rfl, _, _, rfl, rfl, ?_⟩
      generalize upd H5 T (.tup [.int (i : Int), .ref t]) = H6 at s6
      have hrn : r.1 ∈ nmsOf R := List.mem_map.mpr ⟨r, List.mem_of_getElem? hr', rfl⟩
      refine ⟨_, rfl, t, _, _, _, rfl, rfl, .inl (.inl (s6 _ _ (s04 _ _ ht))), atI_nat (j := 0) rfl, ?_⟩
      refine ⟨_, rfl, l, _, rfl, .inl (.inl (.inl (s6 _ _ (s04 _ _ hl)))), _, rfl, by omega, by rw [List.length_map]; omega, ?_⟩
      refine for_range (n := (((AR.map fun q => V.ref q.1).length : Nat) : Int).toNat) (lo := 0) (fun k σ H7 => ∃ (v5 : Option V), σ = [some (.ref l), some (.int (i : Int)), some (.ref t), some (.ref D), some (.str (itr (lowR R) k r.1)), v5] ∧ H7 = H6) ⟨_, rfl, rfl⟩ ?_ ?_
      · rintro k' σ H7 hk' ⟨v5, rfl, rfl⟩
        refine ⟨_, rfl, rfl, _, rfl, ?_⟩
        rcases itr_low hR hn hrn k' with es | es
        · rw [es]
          refine iteT ?_
          refine ⟨some (.int (0 + (k' : Int))), ?_, rfl⟩
          have e2 : itr (lowR R) (k' + 1) r.1 = "sea" := by
            show lowR R (itr (lowR R) k' r.1) = _
            rw [es]
            exact hR.low
          rw [e2]
          rfl
        · have ns : itr (lowR R) k' r.1 ≠ "sea" := fun z => by
            rw [z] at es
            obtain ⟨y, hy, ey⟩ := List.mem_map.mp es
            exact (hR.ok y hy).s ey
          refine iteDn (fun z => ns (V.str.inj z)) ?_
          refine ⟨_, rfl, _, rfl, D, _, rfl, dget_rn (.inl (s6 _ _ hD4)) es, ?_⟩
          exact ⟨_, rfl, rfl⟩
      · rintro σ H7 ⟨v5, rfl, rfl⟩
        have en : (((AR.map fun q => V.ref q.1).length : Nat) : Int).toNat = R.length := by rw [List.length_map]; omega
        rw [en]
        refine ⟨_, rfl, rfl, _, rfl, ?_⟩
        by_cases hs : itr (lowR R) R.length r.1 = "sea"
        · refine iteNo (fun z => z (congrArg V.str hs)) ?_
          refine ⟨_, _, _, _, rfl, s6, fun j hj => ?_⟩
          by_cases ej : j = i
          · subst ej
            rintro ⟨r', h1, h2⟩
            rw [hr'] at h1
            cases h1
            exact h2 hs
          · exact hg j (by omega)
        · refine iteYes (fun z => hs (V.str.inj z)) ?_
          have e := wrF_ring hR hlen hn hiR ⟨r, hr', hs⟩ hg
          rw [e] at k
          exact ⟨_, rfl, k _ (s04.trans s6)⟩
    rintro σ H5 ⟨v1, v2, v4, v5, rfl, s5, hg⟩
    rw [List.length_map, hAl] at hg
    have e := wrF_good hR hlen hn hg
    rw [e] at k
    exact k _ (s04.trans s5)
end
end K0
end
section
set_option Elab.async false
set_option linter.all false
set_option maxRecDepth 100000
set_option maxHeartbeats 1000000
namespace L2
open PySem PySem.Spec PyProof.Rows
open PySem.W (kxs_mw ks_superObj)
theorem place_small {i : Int} (h1 : -1 ≤ i) (h2 : i ≤ 40) : i.natAbs.log2 < 1920 ∧ (toString i : Str).length ≤ 30000 := by
  have key : ∀ n : Fin 42, ((n.val : Int) - 1).natAbs.log2 < 1920 ∧ (Str.ofString (toString ((n.val : Int) - 1))).length ≤ 30000 := by decide +kernel
  have := key ⟨(i + 1).toNat, by omega⟩
  have e : (((i + 1).toNat : Nat) : Int) - 1 = i := by omega
  simp only [e] at this
  exact this
/-! ### its body walked -/
abbrev supScopeI : Scope := { kind := .function, names := [("self", .local), ("place", .local), ("__class__", .free), ("super", .globalImplicit)], isGenerator := false, isCoroutine := false, more := [] }
abbrev supNI : List Str := ["self", "place", "__class__"]
theorem supNSI : NdefX.NScope supNI ["self", "place"] ["__class__"] supScopeI := NdefX.nscope_by (by decide +kernel)
def spSupI (K : PySem.W.Frag) (C : Addr) : Sp := fun vs H Q _ => ∃ (a : Addr) (i : Int), vs = [.ref a, .int i] ∧ H a = some (exo a C none) ∧ -1 ≤ i ∧ i ≤ 40 ∧
  ∀ dx, H dx = none → dx ≠ a → Q .non (upd (upd H dx (exd dx [(("place" : Str), .int i)])) a (exo a C (some dx)))
section
variable {P : Program} {w : World} {K : PySem.W.Frag} {mg : Str → Option Value} {base : Heap} {C f : Addr} {fd : FuncData} {x qual : Str} {params : Arguments}
theorem ok_supI {txt : Str} {n : Nat} {p0 p1 p2 p3 p4 p5 p6 p7 p8 p9 p10 p11 p12 : Pos} {ar : Arg} (hp : (params.posonlyargs ++ params.args).head? = some ar) (har : ar.arg = "self") (htx : txt.length ≤ 1000)
    (S : SupF P K mg C x qual params [.Expr (.Call (.Attribute (.Call (.Name "super" p0) [] [] p1) "__init__" p2) [.JoinedStr [.Constant (.str txt) n p3, .FormattedValue (.Name "place" p4) (-1) none p5] p6] [] p7) p8, .Assign [.Attribute (.Name "self" p9) "place" p10] (.Name "place" p11) p12] supScopeI f fd)
    (hno : PySem.W.findIn K (.ref C) "place" = some none)
    (he : ∀ (q : Str) (L f0 : Addr) (cd : Value) (cl : List (Str × Addr)), ∃ pl : Sem Bool, eval (.Call (.Attribute (.Call (.Name "super" p0) [] [] p1) "__init__" p2) [.JoinedStr [.Constant (.str txt) n p3, .FormattedValue (.Name "place" p4) (-1) none p5] p6] [] p7) (PySem.W.envX q supScopeI L f0 cd cl) = (do
      let ov ← attributeBase (.Call (.Name "super" p0) [] [] p1) "__init__" (PySem.W.envX q supScopeI L f0 cd cl) (eval (.Call (.Name "super" p0) [] [] p1) (PySem.W.envX q supScopeI L f0 cd cl))
      standAt p2.atName
      let (f, first) ← holding [ov] (getMethod ov "__init__" pl)
      callWith p7 f first (backTo p7 (starEach [.JoinedStr [.Constant (.str txt) n p3, .FormattedValue (.Name "place" p4) (-1) none p5] p6] (PySem.W.envX q supScopeI L f0 cd cl))) [])) :
    FnOk P w K mg base CX0 1 f fd ["self", "place"] (spSupI K C) := by
  obtain ⟨oc, od, doc, pm, cda, ct, cc, osl, rfl, lk, hcd, ⟨ccl, cdd, cvs, ccs, file, tf, hcode, hvs, hfile⟩, cl, cld, csl, hcell⟩ := S.ex
  refine ⟨fun vs H Q E h => ?_, fun A outer s H args us vs Q E hr e0 hb r hsp => ?_⟩
  · obtain ⟨a, y, rfl, _⟩ := h
    rfl
  obtain ⟨a, y, rfl, ha, hy1, hy2, k⟩ := hsp
  have KX : K.In s.heap := e0.mod.kin.keeps fun b o e => (e0.bs b o e).1
  have lim : s.heap.NoLimit := e0.mod.nolimit.keeps fun b o e => (e0.bs b o e).1
  have kN : ∀ {b : Addr} {o : Obj}, K.lookup b = some o → H b = none := fun e => (e0.bs _ _ (e0.mod.kin _ _ e)).2
  refine ks_codeAny_call_defAt hr.depth (KX _ _ lk) rfl lim (PySem.W.codeRec_of KX hcd) rfl hb (show ∀ y ∈ supScopeI.names, y.2 ≠ .cell by decide) (fun ⟨n, v⟩ hy => ?_) (fun h₁ hns kp => ?_)
  · have := supNSI.par n (List.of_mem_zip hy).1
    exact this
  have CA : NdefX.CellsAt [(("__class__" : Str), cc)] ["__class__"] [some (V.ref C)] s.heap H := {
    len := rfl
    all := fun y c e => by
      have e2 : c = cc := by
        by_cases hy : y = "__class__"
        · subst hy
          simpa [List.lookup] using e.symm
        · have : (y == ("__class__" : Str)) = false := by simpa using hy
          simp [List.lookup, this] at e
      subst e2
      exact ⟨kN hcell, ⟨_, ⟨_, KX _ _ hcell, rfl⟩⟩⟩
    inj := fun y1 y2 c e1 e2 => by
      have key : ∀ {y : Str}, List.lookup y [(("__class__" : Str), cc)] = some c → y = "__class__" := fun {y} e => by
        by_cases hy : y = "__class__"
        · exact hy
        · have : (y == ("__class__" : Str)) = false := by simpa using hy
          simp [List.lookup, this] at e
      rw [key e1, key e2]
    has := fun i y e => by
      cases i with
      | zero =>
        cases e
        refine ⟨cc, by simp [List.lookup], fun v e2 => ?_⟩
        cases e2
        exact ⟨.ref C, rfl, ⟨_, KX _ _ hcell, rfl⟩⟩
      | succ i => cases e }
  have I0 := NdefX.inv_startN (CX := CX0) (E := E) (f := f) (tk := s.toks + ((["self", "place"] : List Str).zip us).length) (F := ⟨x, qual, params, [.Expr (.Call (.Attribute (.Call (.Name "super" p0) [] [] p1) "__init__" p2) [.JoinedStr [.Constant (.str txt) n p3, .FormattedValue (.Name "place" p4) (-1) none p5] p6] [] p7) p8, .Assign [.Attribute (.Name "self" p9) "place" p10] (.Name "place" p11) p12], supScopeI, [("__class__", cc)], cda⟩) supNSI hr.hd e0 rfl r CA hns kp
  generalize hs1 : ({ s with heap := h₁, toks := s.toks + ((["self", "place"] : List Str).zip us).length } : Shared) = s1 at I0
  obtain ⟨pl, hpl⟩ := he qual s.heap.objs.size f (.ref cda) [(("__class__" : Str), cc)]
  refine ks_wpAt_execs_cons (ks_wpAt_Expr_any (ks_wpAt_MethodCall (pl := pl) ?_ hpl))
  have hmg : mg "super" = none := S.sg
  have hos := exo_at I0.hok ha
  obtain ⟨t1, ho⟩ := hos
  obtain ⟨nm, q, N, bs, bm, sn, sub, ab, col, dd, k0, k1, k2, k3, k5, hC, hbm⟩ := S.exc.cls
  have hC1 := I0.kIn _ _ hC
  obtain ⟨mb, hb1, hb2⟩ := I0.mod.blt
  obtain ⟨m, hm, hlook⟩ := I0.loc
  have hself : m "self" = some (.ref a) := by
    obtain ⟨u, ru, lk2⟩ := hlook 0 "self" (.ref a) rfl rfl (.inl rfl)
    cases ru
    rcases lk2 with ⟨_, e⟩ | ⟨e, _⟩
    · exact e
    · exfalso
      revert e
      show ¬ ((List.lookup ("self" : Str) supScopeI.names = some .cell) ∨ (List.lookup ("self" : Str) supScopeI.names = some .free))
      decide
  refine ks_wpAt_super_base rfl rfl (by decide) rfl (I0.kIn _ _ lk) rfl hp rfl (I0.kIn _ _ hcode) rfl hvs hfile S.top ?_
  rw [har]
  refine PySem.W.ks_loadName_global rfl rfl (Calls.loadGlobal_builtin (I0.mod.glob.keeps I0.bk) hmg (hb1.keeps I0.bk) ((hb2 "super" (by decide)).trans Boot.super) ⟨rfl, ?_⟩)
  refine wpAny_loadName_free rfl rfl rfl ⟨_, I0.kIn _ _ hcell, rfl⟩ ?_
  refine wpAny_loadName_local rfl rfl hm hself ?_
  refine ks_wpAny_isType_cls hC1 rfl ⟨rfl, ?_⟩
  clear hs1
  obtain ⟨hh, g, d, tk, os⟩ := s1
  refine ks_wpAny_call_super hC1 rfl ho rfl (fun c e => by cases e) (PySem.W.looks_mroIn I0.kIn S.sub) (fun h' e kk => ?_)
  have I1 := I0.kept (h' := h') (t' := tk) kk
  have hcls : PySem.W.clsIn K C = some { name := nm, bases := bs, mro := .ref C :: bm, ns := N, qualname := q, hasDict := true, slotNames := sn, subclasses := sub, abstract := ab, collection := col, hasDel := false } := by unfold PySem.W.clsIn; rw [hC]
  have hsup := S.sup
  unfold PySem.W.ks_superIn at hsup
  rw [hcls] at hsup
  have J : PySem.W.InstAt h' a { cls := .ref C, dict := none, data := .fields #[.ref t1, .none, .none, .none, .bool false, .none] } C none := ⟨kk _ _ ho, rfl, rfl, trivial⟩
  refine PySem.W.kxs_getMethod PySem.W.kxs_ValueError e (PySem.W.looks_opaque I1.kIn S.opq) (l₀ := .ref C :: bm) (fun A Q E s k q => wpAny_bind ((PySem.W.looks_clsIn I1.kIn hcls) A _ E s k (wpAny_pure q))) rfl I1.kIn hsup (J.type.andThen (PySem.W.looks_subIn I1.kIn S.subV)) (PySem.W.ks_ne I1.kIn J hcls) (by decide) ?_
  have I2 := I1.kept (h' := h'.push (kxs_mw "ValueError.__init__" a)) (t' := tk + 1) fun b o e => Heap.get?_push_of_some _ e
  have hu0 : (h'.push (kxs_mw "ValueError.__init__" a)).get? h'.objs.size = some (kxs_mw "ValueError.__init__" a) := Heap.get?_push_size _ rfl
  have I3 := I2.pins_of (pins' := [(h'.objs.size, kxs_mw "ValueError.__init__" a)]) fun p hp => by
    cases List.mem_singleton.mp hp
    exact ⟨hu0, I1.hok.fresh (Nat.le_refl _), Nat.ne_of_gt I1.lt, I1.nofs (Nat.le_refl _), fun v z => by cases z⟩
  generalize h'.push (kxs_mw "ValueError.__init__" a) = h2 at hu0 I2 I3
  have hrX : Room 0 (A.deeper (NdefX.envF ⟨x, qual, params, [.Expr (.Call (.Attribute (.Call (.Name "super" p0) [] [] p1) "__init__" p2) [.JoinedStr [.Constant (.str txt) n p3, .FormattedValue (.Name "place" p4) (-1) none p5] p6] [] p7) p8, .Assign [.Attribute (.Name "self" p9) "place" p10] (.Name "place" p11) p12], supScopeI, [(("__class__" : Str), cc)], cda⟩ f s.heap.objs.size)) := hr.deeper _
  show wpAny _ _ (callWith p7 (.ref h'.objs.size) [] (backTo p7 (starEach [.JoinedStr [.Constant (.str txt) n p3, .FormattedValue (.Name "place" p4) (-1) none p5] p6] _)) []) _ _ _
  refine PySem.W.kxs_callWith (i := "ValueError.__init__") (x := a) rfl (PySem.Calls.evalArgs_plain ?_)
  have hPA : PA (NdefX.ncx CX0 P w K mg base supNI ⟨x, qual, params, [.Expr (.Call (.Attribute (.Call (.Name "super" p0) [] [] p1) "__init__" p2) [.JoinedStr [.Constant (.str txt) n p3, .FormattedValue (.Name "place" p4) (-1) none p5] p6] [] p7) p8, .Assign [.Attribute (.Name "self" p9) "place" p10] (.Name "place" p11) p12], supScopeI, [(("__class__" : Str), cc)], cda⟩ f A outer s H E) [.JoinedStr [.Constant (.str txt) n p3, .FormattedValue (.Name "place" p4) (-1) none p5] p6] _ :=
    pa_cons (pe_joined (.cons pe_str (.cons (pe_fmt (pv 1)) .nil))) pa_nil
  have hz : ∀ m : Str, m.length ≤ 30000 → (Str.empty ++ txt ++ m).length ≤ sizeLine := fun m hm => by
    have h30 : 40000 ≤ sizeLine := by rw [sizeLine_eq]; omega
    have e0 : Str.empty.length = 0 := rfl
    rw [strLen_append, strLen_append, e0]
    omega
  have hz0 : (Str.empty ++ txt).length ≤ sizeLine := by
    have h30 : 40000 ≤ sizeLine := by rw [sizeLine_eq]; omega
    have e0 : Str.empty.length = 0 := rfl
    rw [strLen_append, e0]
    omega
  refine thn (hPA.run p7 _ _ _ H (fun vs H2 => H2 = H ∧ ∃ m : Str, vs = [.str m]) I3 ?_) fun us s3 ⟨vs, H3, I4, r4, eH, m4, ev⟩ => ?_
  · obtain ⟨q1, q2⟩ := place_small hy1 hy2
    exact ⟨txt, rfl, hz0, _, rfl, .inr ⟨y, rfl, q1, ⟨_, rfl, hz _ q2, rfl, _, rfl⟩⟩⟩
  subst ev
  have eH2 : H = H3 := eH.symm
  clear eH
  subst eH2
  obtain ⟨u4, rfl, _⟩ := vals1 r4
  have hu3 : s3.heap.get? h'.objs.size = some (kxs_mw "ValueError.__init__" a) := (I4.pin _ (List.mem_append_right _ (List.mem_singleton.mpr rfl))).1
  refine ⟨hu3, ?_⟩
  show wpAny _ _ (call (.ref h'.objs.size) [u4]) _ _ _
  have I5 := I4.pins_of (pins' := []) fun p hp => by cases hp
  refine k0_mw_call S.exc I5 ha hu3 (by rw [sizeLine_eq]; show 1 ≤ _; omega) fun s5 I6 => ?_
  refine wpAt_of_wpAny ?_
  have hP2 : PSs (NdefX.ncx CX0 P w K mg base supNI ⟨x, qual, params, [.Expr (.Call (.Attribute (.Call (.Name "super" p0) [] [] p1) "__init__" p2) [.JoinedStr [.Constant (.str txt) n p3, .FormattedValue (.Name "place" p4) (-1) none p5] p6] [] p7) p8, .Assign [.Attribute (.Name "self" p9) "place" p10] (.Name "place" p11) p12], supScopeI, [(("__class__" : Str), cc)], cda⟩ f A outer s H E) [.Assign [.Attribute (.Name "self" p9) "place" p10] (.Name "place" p11) p12] _ :=
    pss_one (ps_ost (pv 0) (pv 1))
  refine wpAny_mono (hP2.run [] s5 _ H { nx := fun _ H' => Q .non H', rt := Q } I6 ⟨_, rfl, .ref a, rfl, a, C, rfl, S.exc, hno, .inl ⟨ha, fun dx h1 h2 => k dx h1 h2⟩⟩) (fun fl s' hs => ?_) fun e s' hs => hs
  cases fl with
  | ret u =>
    obtain ⟨v, σ', H', J, rv, q⟩ := hs
    exact ⟨v, H', J.os, J.bare, J.base, J.hok, rv, q⟩
  | next =>
    obtain ⟨σ', H', J, q⟩ := hs
    exact ⟨.non, H', J.os, J.bare, J.base, J.hok, rfl, q⟩
  | brk =>
    obtain ⟨_, _, _, q⟩ := hs
    exact False.elim q
  | cont =>
    obtain ⟨_, _, _, q⟩ := hs
    exact False.elim q
end
end L2
end
section
set_option Elab.async false
set_option linter.all false
set_option maxRecDepth 100000
set_option maxHeartbeats 4000000
namespace K0
open PySem PySem.Spec PyProof.Rows L2
/-! ### rows of a river that are refused -/
abbrev sNRv : Stmt := inClass (top 3) 0
abbrev sNRg : Stmt := inClass (top 4) 0
/-- the class of an error with a place, its __init__ at f -/
structure Np (P : Program) (K : PySem.W.Frag) (mg : Str → Option Value) (x qual : Str) (st : Stmt) (Cn f : Addr) (fd : FuncData) : Prop where
  S : SupF P K mg Cn "__init__" qual (defArgs st) (defBody st) (defScope st) f fd
  hno : PySem.W.findIn K (.ref Cn) "place" = some none
  iC : PySem.W.findIn K (.ref Cn) "__init__" = some (some (.ref f))
  tI : PySem.W.typeIn K (.ref f) = some (.type "function")
  mgN : mg x = some (.ref Cn)
abbrev NpR (P : Program) (K : PySem.W.Frag) (mg : Str → Option Value) (Cn f : Addr) (fd : FuncData) : Prop := Np P K mg "NotRiver" "NotRiver.__init__" sNRv Cn f fd
abbrev NpG (P : Program) (K : PySem.W.Frag) (mg : Str → Option Value) (Cn f : Addr) (fd : FuncData) : Prop := Np P K mg "NotRights" "NotRights.__init__" sNRg Cn f fd
/-- a place is told -/
def Tells (E : XK) (Cn : Addr) (i : Int) (H : Hp) : Prop := ∀ H' dd, Same H H' → H' dd = none → E (.ref Cn) (some dd) (upd H' dd (.xd [(("place" : Str), .int i)]))
theorem Tells.same {E : XK} {Cn : Addr} {i : Int} {H H' : Hp} (h : Tells E Cn i H) (s : Same H H') : Tells E Cn i H' := fun H2 dd s2 n => h H2 dd (s.trans s2) n
def spNeedX (Cn : Addr) : Sp := fun vs H Q E => ∃ (v : V) (d : PyData) (m k : Nat), vs = [v] ∧ Dq H v d ∧ Fit m k d ∧ m ≤ 900 ∧ k ≤ 60 ∧ (∀ i, needD d = some i → Tells E Cn i H) ∧ (needD d = none → ∀ H', Same H H' → Q .non H')
section
variable {P : Program} {w : World} {K : PySem.W.Frag} {mg : Str → Option Value} {base : Heap} {tS tM tL : Tok}
theorem ok_notriver {Cn f : Addr} {fd : FuncData} (N : NpR P K mg Cn f fd) : FnOk P w K mg base CX0 1 f fd ["self", "place"] (spSupI K Cn) :=
  ok_supI rfl rfl (by decide +kernel) N.S N.hno (fun _ _ _ _ _ => ⟨_, rfl⟩)
theorem ok_notrights {Cn f : Addr} {fd : FuncData} (N : NpG P K mg Cn f fd) : FnOk P w K mg base CX0 1 f fd ["self", "place"] (spSupI K Cn) :=
  ok_supI rfl rfl (by decide +kernel) N.S N.hno (fun _ _ _ _ _ => ⟨_, rfl⟩)
theorem binds_np {x qual : Str} {st : Stmt} {Cn f : Addr} {fd : FuncData} (N : Np P K mg x qual st Cn f fd) (h : ∀ (doc pm : Value) (cda : Addr) (ct : Value) (cc : Addr) (us : List Value), us.length = 2 → bindArgs (PySem.W.ksFn "__init__" qual (defArgs st) (defBody st) (defScope st) .none .none doc pm none (.ref cda) ct cc) ⟨us, []⟩ = pure ((["self", "place"] : List Str).zip us)) : Binds K fd ["self", "place"] [] := by
  obtain ⟨oc, od, doc, pm, cda, ct, cc, osl, rfl, _⟩ := N.S.ex
  exact .all fun us hl => h _ _ _ _ _ us hl
/-- what behind the making of such an error is told -/
theorem told_np {Cn : Addr} {H : Hp} {i : Int} {a : Addr} {E : XK} (T : Tells E Cn i H) (na : H a = none) {dx : Addr} (n1 : (upd H a (exo a Cn none)) dx = none) (n2 : dx ≠ a) :
    E (.ref Cn) (some dx) (upd (del (upd (upd (upd H a (exo a Cn none)) dx (exd dx [(("place" : Str), .int i)])) a (exo a Cn (some dx))) a) dx (.xd [(("place" : Str), .int i)])) := by
  rw [upd_ne n2] at n1
  have e : upd (del (upd (upd (upd H a (exo a Cn none)) dx (exd dx [(("place" : Str), .int i)])) a (exo a Cn (some dx))) a) dx (.xd [(("place" : Str), .int i)]) = upd H dx (.xd [(("place" : Str), .int i)]) := by
    funext b
    by_cases hd : b = dx
    · rw [hd, upd_same, upd_same]
    · rw [upd_ne hd, upd_ne hd]
      by_cases ha : b = a
      · rw [ha, del_same, na]
      · rw [del_ne ha, upd_ne ha, upd_ne hd, upd_ne ha]
  rw [e]
  exact T H dx (.refl _) n1
theorem ok_needX {f fN fR Cn fn : Addr} {fd fdN fdR fdn : FuncData} (F : FnP K "_need_rows" sNeedRows f fd) (F_is_name : FnP K "is_name" sIsName fN fdN) (gis_name : mg "is_name" = some (.ref fN)) (F_is_row : FnP K "_is_row" sIsRow fR fdR) (g_is_row : mg "is_row_rivers" = some (.ref fR)) (N : NpR P K mg Cn fn fdn) (B : Bl mg) (C : Gc mg tS tM tL) : FnOk P w K mg base (L2.CX P w) 3 f fd ["rows"] (spNeedX Cn) := by
  have G_is_row : FnOk P w K mg base CX0 2 fR fdR ["entry"] spIsRowD := ok_isrowD F_is_row F_is_name gis_name B C
  have b_is_row : Binds K fdR ["entry"] [] := F_is_row.bindsN fun _ _ _ _ _ _ us hl => match us, hl with | [_], _ => rfl
  have Gn : FnOk P w K mg base CX0 1 fn fdn ["self", "place"] (spSupI K Cn) := ok_notriver N
  have bn : Binds K fdn ["self", "place"] [] := binds_np N fun _ _ _ _ _ us hl => match us, hl with | [_, _], _ => rfl
  refine F.ok scNeedRows (fun vs H Q E h => ?_) (fun cdv A outer s H vs Q E hr h => ?_)
  · obtain ⟨v, d, m, k, rfl, _⟩ := h
    rfl
  · obtain ⟨v, d, m, kk, rfl, hd, fit, hm, hk, kE, kQ⟩ := h
    have hu := hu_of hr
    have hr_is_row : Room 2 _ := hr.mono (by decide)
    have hrn := hr
    refine ⟨_, (pss_cons
      (ps_if (PW.pt (pw_or (pt_not (pt_val (pe_callB call_isi (by rfl) B.isinstance (by decide +kernel) (pa_cons (pv 0) (pa_cons (pe_bltn (v := .ty "list") (by rfl) B.list (by decide +kernel) rfl) pa_nil))))) (pw_or1 (pt_not (pt_chain op_le op_le pe_int (pe_callB (lenK (K := K)) (by rfl) B.len PySem.boot_len (pa_cons (pv 0) pa_nil)) (pe_glob (v := .int 40) (by rfl) C.MOST_ROWS ⟨_, rfl⟩)))))) (pss_one
      (ps_raise rfl (takes_of rfl rfl rfl rfl) (pmk_oex N.S.exc N.iC N.tI Gn hrn bn .nil (fun _ _ _ _ _ _ _ h => h.elim) (by rfl) N.mgN (pa_cons (pe_un un_neg pe_int) pa_nil)))) pss_nil)
      (pss_cons
      (ps_set (i := 1) scNeedRows.nd rfl (Or.inl rfl) pe_dnewK)
      (pss_cons
      (ps_for (passes_of rfl) rfl (pi_enum (by rfl) B.enumerate (pa_cons (pv 0) pa_nil)) (pg_tup (by rfl) (pgs_cons (pg_name (i := 2) scNeedRows.nd rfl (Or.inl rfl)) (pgs_cons (pg_name (i := 3) scNeedRows.nd rfl (Or.inl rfl)) pgs_nil))) (pss_cons
      (ps_if (PW.pt (pw_or (pt_not (pt_val (pe_call G_is_row hr_is_row (by rfl) g_is_row F_is_row.kp b_is_row .nil pass0 (pa_cons (pv 3) pa_nil)))) (pw_or1 (pt_cmp (pc_din hu (pe_ix ix_tup (pv 3) pe_int (fun _ _ => rfl)) (pv 1)))))) (pss_one
      (ps_raise rfl (takes_of rfl rfl rfl rfl) (pmk_oex N.S.exc N.iC N.tI Gn hrn bn .nil (fun _ _ _ _ _ _ _ h => h.elim) (by rfl) N.mgN (pa_cons (pv 2) pa_nil)))) pss_nil)
      (pss_one
      (ps_dput hu (pv 1) (pe_ix ix_tup (pv 3) pe_int (fun _ _ => rfl)) pe_bl rfl))))
      (pss_one
      (ps_for (passes_of rfl) rfl (pi_enum (by rfl) B.enumerate (pa_cons (pv 0) pa_nil)) (pg_tup (by rfl) (pgs_cons (pg_name (i := 2) scNeedRows.nd rfl (Or.inl rfl)) (pgs_cons (pg_tup (by rfl) (pgs_cons (pg_name (i := 4) scNeedRows.nd rfl (Or.inl rfl)) (pgs_cons (pg_name (i := 5) scNeedRows.nd rfl (Or.inl rfl)) pgs_nil))) pgs_nil))) (pss_one
      (ps_if (PW.pt (pw_and (pt_cmpR op_ne (pv 5) (pe_glob (v := .str "sea") (by rfl) C.SEA ⟨_, rfl⟩) (nomark _)) (pw_and1 (pt_cmp (pc_dnotin hu (pv 5) (pv 1)))))) (pss_one
      (ps_raise rfl (takes_of rfl rfl rfl rfl) (pmk_oex N.S.exc N.iC N.tI Gn hrn bn .nil (fun _ _ _ _ _ _ _ h => h.elim) (by rfl) N.mgN (pa_cons (pv 2) pa_nil)))) pss_nil))))))), ?_⟩
--BODY
    have sm := fun {i : Int} (h : needD d = some i) => wrD_small (needD_wr h)
    cases hL : isL d with
    | false =>
      have e : needD d = some (-1) := by
        cases d with
        | list ds => cases hL
        | _ => rfl
      refine ⟨_, rfl, v, .ty "list", _, _, false, rfl, .ty "list", dq_ty hd, by rw [kit_list, hL], _, rfl, ?_⟩
      refine iteT ?_
      refine ⟨1, rfl, by show 1 ≤ 1000; decide, fun a na => ⟨a, _, rfl, upd_same, (sm e).1, (sm e).2, fun dx n1 n2 => ⟨rfl, dx, [(("place" : Str), V.int (-1))], upd_same, ?_, ?_, ?_⟩⟩⟩
      · rw [upd_ne n2, upd_same]
      · rw [upd_ne n2] at n1
        exact n1
      · exact told_np (kE _ e) na n1 n2
    | true =>
      obtain ⟨l, ws, ds, rfl, rfl, hl, hw⟩ := dqL hd hL
      obtain ⟨hdl, fds⟩ : ds.length ≤ m ∧ ∀ d ∈ ds, Fit m kk d := by
        cases fit with
        | lst _ h z => exact ⟨z, fun d hd => (h d hd).mono (Nat.le_refl _) (Nat.le_succ _)⟩
      have hwl := hw.len
      refine ⟨_, rfl, .ref l, .ty "list", _, _, true, rfl, .ty "list", .base (.lst hl), kit_ty (by decide +kernel), _, rfl, ?_⟩
      refine iteF ?_
      refine ⟨_, rfl, l, _, rfl, .inl (.inl (.inl hl)), 1, _, rfl, rfl, _, rfl, ?_⟩
      rcases Classical.em (ds.length = 0) with h0 | h0
      · have e : needD (.list ds) = some (-1) := wrN_len (.inl h0)
        refine iteDn (by omega) ?_
        refine ⟨_, rfl, iteT ?_⟩
        refine ⟨1, rfl, by show 1 ≤ 1000; decide, fun a na => ⟨a, _, rfl, upd_same, (sm e).1, (sm e).2, fun dx n1 n2 => ⟨rfl, dx, [(("place" : Str), V.int (-1))], upd_same, ?_, ?_, ?_⟩⟩⟩
        · rw [upd_ne n2, upd_same]
        · rw [upd_ne n2] at n1
          exact n1
        · exact told_np (kE _ e) na n1 n2
      refine iteD (by omega) ?_
      refine ⟨_, _, rfl, rfl, _, rfl, ?_⟩
      rcases Classical.em (40 < ds.length) with h40 | h40
      · have e : needD (.list ds) = some (-1) := wrN_len (.inr h40)
        refine iteYes (by omega) ?_
        refine ⟨1, rfl, by show 1 ≤ 1000; decide, fun a na => ⟨a, _, rfl, upd_same, (sm e).1, (sm e).2, fun dx n1 n2 => ⟨rfl, dx, [(("place" : Str), V.int (-1))], upd_same, ?_, ?_, ?_⟩⟩⟩
        · rw [upd_ne n2, upd_same]
        · rw [upd_ne n2] at n1
          exact n1
        · exact told_np (kE _ e) na n1 n2
      refine iteNS (by omega) ?_
      have hlen : ¬ (ds.length = 0 ∨ 40 < ds.length) := by omega
      intro D hD
      have s0 : Same H (upd H D (.dK [])) := same_upd hD
      -- the rows one by one
      refine ⟨_, rfl, l, _, rfl, s0.seq (.inl (.inl hl)), ?_⟩
      refine for_it (walk_enum (xs := ws)) (fun i σ H2 => ∃ (v2 v3 : Option V), σ = [some (.ref l), some (.ref D), v2, v3, none, none] ∧ Same H H2 ∧ ∃ R, ds.take i = R.map rowD ∧ RowsOk R ∧ H2 D = some (.dK (kmap (fun _ => .bl true) (nmsOf R))))
        ⟨_, _, rfl, s0, [], by rw [List.take_zero]; rfl, ⟨(fun r hr => nomatch hr), List.Pairwise.nil⟩, upd_same⟩ (fun _ _ _ _ h => by obtain ⟨_, _, _, s, _⟩ := h; exact .inl (.inl (s _ _ hl))) ?_ ?_
      · rintro i x σ H2 H3 hi ⟨v2, v3, rfl, s2, R, eR, hR, hD2⟩ ⟨T, x1, x2, rfl, hT, rfl, e1, e2⟩
        obtain rfl : V.int (i : Int) = x1 := Option.some.inj e1
        have hid : i < ds.length := by omega
        obtain ⟨d, hdi, qd⟩ := hw.at_ e2
        have s3 : Same H (upd H2 T (.tup [.int (i : Int), x2])) := s2.trans (same_upd hT)
        have hD3 : (upd H2 T (.tup [.int (i : Int), x2])) D = some (.dK (kmap (fun _ => .bl true) (nmsOf R))) := by
          rw [upd_ne (ne_of_none hD2 hT)]
          exact hD2
        refine ⟨T, _, rfl, .inl (.inl upd_same), rfl, _, _, rfl, _, _, rfl, rfl, ?_⟩
        generalize upd H2 T (.tup [.int (i : Int), x2]) = H3 at s3 hD3
        have hRi : R.length = i := by
          have := congrArg List.length eR
          rw [List.length_take, List.length_map] at this
          omega
        refine ⟨_, rfl, x2, d, m, kk, rfl, qd.same s3, fds d (List.mem_of_getElem? hdi), hm, fun H4 s4 => ⟨_, rfl, ?_⟩⟩
        have s34 := s3.trans s4
        have hD4 := s4 _ _ hD3
        have bad : (¬ ∃ r, ds[i]? = some (rowD r) ∧ RowOk r ∧ ∀ r' ∈ R, r'.1 ≠ r.1) → needD (.list ds) = some (i : Int) := fun h => wrN_row hlen hid eR hR h
        rcases Classical.em (¬ pairD d) with hp | hp
        · rw [pB_f hp]
          refine iteT ?_
          have e := bad (by
            rintro ⟨r', h1, h2, _⟩
            rw [hdi] at h1
            exact hp ⟨r', Option.some.inj h1, h2⟩)
          refine ⟨_, rfl, by show 1 ≤ 1000; decide, fun a na => ⟨a, _, rfl, upd_same, (sm e).1, (sm e).2, fun dx n1 n2 => ⟨rfl, dx, [(("place" : Str), V.int (i : Int))], upd_same, ?_, ?_, ?_⟩⟩⟩
          · rw [upd_ne n2, upd_same]
          · rw [upd_ne n2] at n1
            exact n1
          · exact told_np ((kE _ e).same s34) na n1 n2
        have hp := Classical.not_not.mp hp
        rw [pB_t hp]
        refine iteF ?_
        obtain ⟨r, rfl, hrok⟩ := hp
        obtain ⟨t, xs, _, rfl, ed, ht, hx⟩ := dqT qd rfl
        unfold rowD at ed
        injection ed with ed
        subst ed
        obtain rfl : xs = [.str r.1, .str r.2] := by
          cases hx with
          | cons x1 y1 =>
            cases x1
            cases y1 with
            | cons x2 y2 =>
              cases x2
              cases y2
              rfl
        have ht4 := s34 _ _ ht
        refine ⟨_, rfl, t, _, _, _, rfl, rfl, .inl (.inl ht4), atI_nat (j := 0) rfl, _, rfl, D, _, rfl, DGet.k (k := Sum.inr r.1) hD4, _, rfl, ?_⟩
        by_cases hin : r.1 ∈ nmsOf R
        · rw [kmap_at hin]
          refine iteT ?_
          have e := bad (by
            rintro ⟨r', h1, _, h3⟩
            rw [hdi] at h1
            obtain rfl := rowD_inj (Option.some.inj h1)
            obtain ⟨y, hy, ey⟩ := List.mem_map.mp hin
            exact h3 y hy ey)
          refine ⟨_, rfl, by show 1 ≤ 1000; decide, fun a na => ⟨a, _, rfl, upd_same, (sm e).1, (sm e).2, fun dx n1 n2 => ⟨rfl, dx, [(("place" : Str), V.int (i : Int))], upd_same, ?_, ?_, ?_⟩⟩⟩
          · rw [upd_ne n2, upd_same]
          · rw [upd_ne n2] at n1
            exact n1
          · exact told_np ((kE _ e).same s34) na n1 n2
        rw [kmap_not hin]
        refine iteF ?_
        refine ⟨_, rfl, _, rfl, t, _, _, _, rfl, rfl, .inl (.inl ht4), atI_nat (j := 0) rfl, D, _, rfl, DPut.k (k := Sum.inr r.1) hD4 ?_, ?_⟩
        · rw [kmap_len, List.length_map]
          exact small1000 (by omega)
        · refine ⟨_, _, rfl, fun b o hb => ?_, R ++ [r], by rw [List.take_add_one, hdi, eR, List.map_append]; rfl, ⟨fun y hy => ?_, ?_⟩, ?_⟩
          · rw [upd_ne (ne_of_none hb hD)]
            exact s34 b o hb
          · rcases List.mem_append.mp hy with hy | hy
            · exact hR.ok y hy
            · rw [List.mem_singleton.mp hy]; exact hrok
          · show ((R ++ [r]).map (·.1)).Nodup
            rw [List.map_append]
            refine List.nodup_append.mpr ⟨hR.nd, by simp, fun a ha c hc e2 => ?_⟩
            rw [List.map_cons, List.map_nil] at hc
            rw [e2, List.mem_singleton.mp hc] at ha
            exact hin ha
          · have e := kmap_put (f := fun _ => V.bl true) hin
            rw [upd_same, e]
            show some (HO.dK (kmap (fun _ => V.bl true) (nmsOf R ++ [r.1]))) = some (HO.dK (kmap (fun _ => V.bl true) ((R ++ [r]).map (·.1))))
            rw [List.map_append]
            rfl
      rintro σ H2 ⟨v2, v3, rfl, s2, R, eR, hR, hD2⟩
      rw [hwl, List.take_length] at eR
      subst eR
      rw [List.length_map] at hlen
      obtain ⟨AR, rfl, eA, hA⟩ := dq_rows hw
      have hAl : AR.length = R.length := by rw [← eA]; exact (List.length_map _).symm
      have atR : ∀ (i : Nat) (x2 : V), (AR.map fun q => V.ref q.1)[i]? = some x2 → ∃ t r, x2 = .ref t ∧ R[i]? = some r ∧ H t = some (.tup [.str r.1, .str r.2]) := fun i x2 e => by
        rw [List.getElem?_map] at e
        obtain ⟨q, hq, rfl⟩ := Option.map_eq_some_iff.mp e
        refine ⟨q.1, q.2, rfl, ?_, hA q (List.mem_of_getElem? hq)⟩
        rw [← eA]
        show (AR.map (·.2))[i]? = _
        rw [List.getElem?_map, hq]
        rfl
      refine ⟨_, rfl, l, _, rfl, .inl (.inl (s2 _ _ hl)), ?_⟩
      refine for_it (walk_enum (xs := AR.map fun q => V.ref q.1)) (fun i σ H3 => ∃ (v2 v3 v4 v5 : Option V), σ = [some (.ref l), some (.ref D), v2, v3, v4, v5] ∧ Same H2 H3 ∧ ∀ j, j < i → ¬ lowBad R j)
        ⟨_, _, _, _, rfl, .refl _, fun j hj => absurd hj (Nat.not_lt_zero j)⟩ (fun _ _ _ _ h => by obtain ⟨_, _, _, _, _, s, _⟩ := h; exact .inl (.inl (s _ _ (s2 _ _ hl)))) ?_ ?_
      · rintro i x σ H3 H4 hi ⟨v2, v3, v4, v5, rfl, s3, hn⟩ ⟨T, x1, x2, rfl, hT, rfl, e1, e2⟩
        obtain rfl : V.int (i : Int) = x1 := Option.some.inj e1
        obtain ⟨t, r, rfl, hr', ht⟩ := atR i x2 e2
        have hiR : i < R.length := (List.getElem?_eq_some_iff.mp hr').1
        have s4 : Same H2 (upd H3 T (.tup [.int (i : Int), .ref t])) := s3.trans (same_upd hT)
        have ht4 : SqT K (upd H3 T (.tup [.int (i : Int), .ref t])) t [.str r.1, .str r.2] := .inl (.inl (s4 _ _ (s2 _ _ ht)))
        refine ⟨T, _, rfl, .inl (.inl upd_same), rfl, _, _, rfl, _, _, rfl, _, _, rfl, ht4, rfl, _, _, rfl, _, _, rfl, rfl, rfl, ?_⟩
        generalize upd H3 T (.tup [.int (i : Int), .ref t]) = H4 at s4 ht4
        have s24 := s2.trans s4
        refine ⟨_, rfl, rfl, _, rfl, ?_⟩
        by_cases hs : r.2 = "sea"
        · refine iteNo (fun z => z (congrArg V.str hs)) ?_
          refine ⟨_, _, _, _, rfl, s4, fun j hj => ?_⟩
          by_cases ej : j = i
          · subst ej
            rintro ⟨r', h1, h2, _⟩
            rw [hr'] at h1
            cases h1
            exact h2 hs
          · exact hn j (by omega)
        refine iteYes (fun z => hs (V.str.inj z)) ?_
        refine ⟨_, rfl, _, rfl, D, _, rfl, DGet.k (k := Sum.inr r.2) (s4 _ _ hD2), _, rfl, ?_⟩
        by_cases hin : r.2 ∈ nmsOf R
        · rw [kmap_at hin]
          refine iteF ?_
          refine ⟨_, _, _, _, rfl, s4, fun j hj => ?_⟩
          by_cases ej : j = i
          · subst ej
            rintro ⟨r', h1, _, h3⟩
            rw [hr'] at h1
            cases h1
            exact h3 hin
          · exact hn j (by omega)
        · rw [kmap_not hin]
          refine iteT ?_
          have e : needD (.list (R.map rowD)) = some (i : Int) := wrN_low hR hlen hiR ⟨r, hr', hs, hin⟩ hn
          refine ⟨_, rfl, by show 1 ≤ 1000; decide, fun a na => ⟨a, _, rfl, upd_same, (sm e).1, (sm e).2, fun dx n1 n2 => ⟨rfl, dx, [(("place" : Str), V.int (i : Int))], upd_same, ?_, ?_, ?_⟩⟩⟩
          · rw [upd_ne n2, upd_same]
          · rw [upd_ne n2] at n1
            exact n1
          · exact told_np ((kE _ e).same s24) na n1 n2
      rintro σ H3 ⟨v2, v3, v4, v5, rfl, s3, hn⟩
      rw [List.length_map, hAl] at hn
      exact kQ (wrN_good hR hlen hn) H3 (s2.trans s3)
--END
end
end K0
end
section
set_option Elab.async false
set_option linter.all false
set_option maxRecDepth 100000
set_option maxHeartbeats 4000000
namespace K0
open PySem PySem.Spec PyProof.Rows L2
/-! ### courses that may ring -/
/-- rows whose lower weirs are all there -/
structure LowOk (R : List Row) : Prop where
  ro : RowsOk R
  one : 1 ≤ R.length
  most : R.length ≤ 40
  low : ∀ j, j < R.length → ¬ lowBad R j
noncomputable def lenR (R : List Row) (x : Str) : Nat := (firstP (fun i => itr (lowR R) i x = "sea") (R.length + 1)).getD (R.length + 1)
noncomputable def crsR (R : List Row) (x : Str) : List Str := (List.range (lenR R x)).map fun i => itr (lowR R) i x
theorem LowOk.sea {R : List Row} (g : LowOk R) {x : Str} (h : x ∈ nmsOf R) : x ≠ "sea" := fun e => by
  obtain ⟨r, hr, er⟩ := List.mem_map.mp h
  exact (g.ro.ok r hr).s (er.trans e)
structure LenR (R : List Row) (x : Str) (m : Nat) : Prop where
  eq : lenR R x = m
  one : 1 ≤ m
  most : m ≤ R.length + 1
  mem : ∀ i, i < m → itr (lowR R) i x ∈ nmsOf R
  fin : itr (lowR R) m x = "sea" ∨ m = R.length + 1
theorem lenR_is {R : List Row} (g : LowOk R) {x : Str} (hx : x ∈ nmsOf R) : ∃ m, LenR R x m := by
  have h0 := g.sea hx
  rcases firstP_is (P := fun i => itr (lowR R) i x = "sea") (n := R.length + 1) with ⟨e, hn⟩ | ⟨i, hi, e, hp, hn⟩
  · refine ⟨R.length + 1, by unfold lenR; rw [e]; rfl, by omega, Nat.le_refl _, fun i hi => (itr_low g.ro g.low hx i).resolve_left (hn i hi), .inr rfl⟩
  · refine ⟨i, by unfold lenR; rw [e]; rfl, ?_, by omega, fun j hj => (itr_low g.ro g.low hx j).resolve_left (hn j hj), .inl hp⟩
    rcases Nat.eq_zero_or_pos i with z | z
    · subst z
      exact absurd hp h0
    · exact z
theorem itr_stay {R : List Row} (g : RowsOk R) {x : Str} {i : Nat} (h : itr (lowR R) i x = "sea") : ∀ k, itr (lowR R) (i + k) x = "sea"
  | 0 => h
  | k + 1 => by
    show lowR R (itr (lowR R) (i + k) x) = "sea"
    rw [itr_stay g h k]
    exact g.low
theorem lenR_ring {R : List Row} (g : LowOk R) {x : Str} (hx : x ∈ nmsOf R) : R.length < lenR R x ↔ itr (lowR R) R.length x ≠ "sea" := by
  obtain ⟨m, L⟩ := lenR_is g hx
  rw [L.eq]
  constructor
  · intro h
    exact g.sea (L.mem _ h)
  · intro h
    rcases L.fin with e | e
    · refine Classical.byContradiction fun z => h ?_
      have := itr_stay g.ro e (R.length - m)
      rw [show m + (R.length - m) = R.length by omega] at this
      exact this
    · omega
theorem crsR_course {R : List Row} (g : LowOk R) {x : Str} (hx : x ∈ nmsOf R) (h : itr (lowR R) R.length x = "sea") : crsR R x = course R x := by
  obtain ⟨m, L⟩ := lenR_is g hx
  have hm : m ≤ R.length := by
    have : ¬ R.length < lenR R x := fun z => (lenR_ring g hx).mp z h
    rw [L.eq] at this
    omega
  unfold crsR course
  rw [L.eq]
  refine (crs_full _ _ _ _ hm (fun i hi => g.sea (L.mem i hi)) ?_).symm
  rcases L.fin with e | e
  · exact e
  · omega
theorem crsR_len {R : List Row} {x : Str} {m : Nat} (L : LenR R x m) : (crsR R x).length = m := by
  unfold crsR
  rw [L.eq, List.length_map, List.length_range]
def spCourseR (K : PySem.W.Frag) : Sp := fun vs H Q _ => ∃ (d : Addr) (R : List Row) (x : Str), vs = [.ref d, .str x] ∧ Rd H d (.dK (belowK R)) ∧ LowOk R ∧ x ∈ nmsOf R ∧
  ∀ (H' : Hp) (t : Addr), Same H H' → H t = none → FT H' t (crsR R x) → Q (.ref t) H'
section
variable {P : Program} {w : World} {K : PySem.W.Frag} {mg : Str → Option Value} {base : Heap} {tS tM tL : Tok}
theorem ok_courseR {f : Addr} {fd : FuncData} (F : FnP K "_course" sCourse f fd) (B : Bl mg) (C : Gc mg tS tM tL) : FnOk P w K mg base CX0 1 f fd ["below", "weir"] (spCourseR K) := by
  refine F.ok scCourse (fun vs H Q E h => ?_) (fun cdv A outer s H vs Q E hr h => ?_)
  · obtain ⟨d, R, x, rfl, _⟩ := h
    rfl
  · obtain ⟨d, R, x, rfl, hd, hG, hx, k⟩ := h
    have hu := hu_of hr
    obtain ⟨m, hC⟩ := lenR_is hG hx
    refine ⟨_, PSs.nox (pss_cons
      (ps_set (i := 2) scCourse.nd rfl (Or.inl rfl) (pe_lst (pa_cons (pv 1) pa_nil)))
      (pss_cons
      (ps_while PassesOwn.never (PW.pt (pw_and (pt_cmpR op_ne (pe_dget hu (pv 0) (pe_ix (ixLK (K := K)) (pv 2) (pe_un un_neg pe_int) (fun _ _ => rfl)) (fun _ _ => rfl)) (pe_glob (v := .str "sea") (by rfl) C.SEA ⟨_, rfl⟩) (nomark _)) (pw_and1 (pt_cmpR op_le (pe_callB (lenK (K := K)) (by rfl) B.len PySem.boot_len (pa_cons (pv 2) pa_nil)) (pe_callB k0_lenD (by rfl) B.len PySem.boot_len (pa_cons (pv 0) pa_nil)) (nomark _))))) (pss_one
      (ps_expr (pe_bm PySem.F.plainAttrs_list PySem.F.slot_list_append PySem.F.type_list_append mt_append (pv 2) (pa_cons (pe_dget hu (pv 0) (pe_ix (ixLK (K := K)) (pv 2) (pe_un un_neg pe_int) (fun _ _ => rfl)) (fun _ _ => rfl)) pa_nil)))))
      (pss_one
      (ps_ret (pe_callTy (tupleF (K := K)) (by rfl) B.tuple (by decide +kernel) (pa_cons (pv 2) pa_nil)))))), ?_⟩
    refine ⟨_, rfl, by show 1 ≤ sizeLine; decide, fun c nc => ?_⟩
    have s0 : Same H (upd H c (.lst [.str x])) := same_upd nc
    refine while_by (fun σ H2 => ∃ i, 1 ≤ i ∧ i ≤ m ∧ σ = [some (.ref d), some (.str x), some (.ref c)] ∧ Same H H2 ∧ H2 c = some (.lst (((List.range i).map fun j => itr (lowR R) j x).map V.str)))
      (fun _ H2 => match H2 c with | some (.lst xs) => m - xs.length | _ => 0) ⟨1, Nat.le_refl _, hC.one, rfl, s0, upd_same⟩ ?_ ?_
    · rintro σ H2 ⟨i, h1, h2, rfl, s2, hc⟩
      have hmem : itr (lowR R) (i - 1) x ∈ nmsOf R := hC.mem _ (by omega)
      refine ⟨_, rfl, _, rfl, 1, rfl, c, _, _, _, rfl, rfl, .inl (.inl hc), last_of h1, d, _, rfl, dget_rn (same_rd s2 hd) hmem, rfl, _, rfl, ?_⟩
      have enext : lowR R (itr (lowR R) (i - 1) x) = itr (lowR R) i x := by
        have e : i = i - 1 + 1 := by omega
        exact (congrArg (fun j => itr (lowR R) j x) e).symm
      have hl0 : (((List.range i).map fun j => itr (lowR R) j x).map V.str).length = i := by
        rw [List.length_map, List.length_map, List.length_range]
      have hn0 : (belowK R).length = R.length := by
        rw [kmap_len, List.length_map]
      have hmost := hC.most
      have hRm := hG.most
      refine ite2 (fun h => ?_) (fun h => ?_)
      · have hns : itr (lowR R) i x ≠ "sea" := fun z => by
          have e2 : V.str (lowR R (itr (lowR R) (i - 1) x)) = V.str "sea" := by rw [enext, z]
          rw [decide_eq_true e2] at h
          cases h
        refine ⟨_, rfl, c, _, rfl, .inl (.inl (.inl hc)), _, rfl, d, _, rfl, same_rd s2 hd, _, _, rfl, rfl, _, rfl, ?_⟩
        rcases Classical.em (i ≤ R.length) with hin | hin
        · have him : i < m := by
            rcases Nat.lt_or_ge i m with z | z
            · exact z
            · have e : i = m := by omega
              rcases hC.fin with e2 | e2
              · exact absurd (by rw [e]; exact e2) hns
              · omega
          refine iteD (by omega) ?_
          refine ⟨_, rfl, .inl ⟨rfl, _, .inl (.inl hc)⟩, _, rfl, _, rfl, 1, rfl, c, _, _, _, rfl, rfl, .inl (.inl hc), last_of h1, d, _, rfl, dget_rn (same_rd s2 hd) hmem, ?_⟩
          refine ⟨c, _, _, rfl, rfl, hc, by rw [hl0]; exact small1000 (by omega), ?_⟩
          have ecat : (((List.range i).map fun j => itr (lowR R) j x).map V.str) ++ [V.str (lowR R (itr (lowR R) (i - 1) x))] = ((List.range (i + 1)).map fun j => itr (lowR R) j x).map V.str := by
            rw [List.range_succ, List.map_append, List.map_append, enext]
            rfl
          rw [ecat]
          refine ⟨⟨i + 1, by omega, by omega, rfl, fun b o hb => ?_, upd_same⟩, ?_⟩
          · rw [upd_ne (ne_of_none hb nc)]
            exact s2 b o hb
          · show (match upd H2 c (.lst (((List.range (i + 1)).map fun j => itr (lowR R) j x).map V.str)) c with | some (.lst xs) => m - xs.length | _ => 0) < (match H2 c with | some (.lst xs) => m - xs.length | _ => 0)
            rw [upd_same, hc]
            show m - (((List.range (i + 1)).map fun j => itr (lowR R) j x).map V.str).length < m - (((List.range i).map fun j => itr (lowR R) j x).map V.str).length
            rw [hl0, List.length_map, List.length_map, List.length_range]
            omega
        · refine iteDn (by omega) ?_
          have him : i = m := by omega
          subst him
          refine ⟨_, rfl, c, _, rfl, .inl (.inl hc), fun t ot nt pt => ?_⟩
          have e : (List.range i).map (fun j => itr (lowR R) j x) = crsR R x := by unfold crsR; rw [hC.eq]
          rw [e]
          exact k _ t (s2.trans (same_upd nt)) (s2.free nt) ⟨ot, pt, upd_same⟩
      · have him : i = m := by
          rcases Nat.lt_or_ge i m with z | z
          · exfalso
            have hne := hG.sea (hC.mem i z)
            refine h ?_
            rw [enext, decide_eq_false (fun q => hne (V.str.inj q))]
            rfl
          · omega
        subst him
        refine ⟨_, rfl, c, _, rfl, .inl (.inl hc), fun t ot nt pt => ?_⟩
        have e : (List.range i).map (fun j => itr (lowR R) j x) = crsR R x := by unfold crsR; rw [hC.eq]
        rw [e]
        exact k _ t (s2.trans (same_upd nt)) (s2.free nt) ⟨ot, pt, upd_same⟩
    · intro σ H2 Q1 Q2 hQ h
      obtain ⟨v1, e1, v2, e2, i, e3, p, xs, j, v, e4, e5, h6, h7, a, u, e8, g, hs, b, e9, h⟩ := h
      refine ⟨v1, e1, v2, e2, i, e3, p, xs, j, v, e4, e5, h6, h7, a, u, e8, g, hs, b, e9, ?_⟩
      cases b with
      | false => exact hQ _ _ h
      | true =>
        obtain ⟨w1, f1, q, ys, f2, f3, w2, f4, q2, kv, f5, f6, n1, n2, f7, f8, b2, f9, h⟩ := h
        exact ⟨w1, f1, q, ys, f2, f3, w2, f4, q2, kv, f5, f6, n1, n2, f7, f8, b2, f9, hQ _ _ h⟩
end
end K0
end
section
set_option Elab.async false
set_option linter.all false
set_option maxRecDepth 100000
set_option maxHeartbeats 4000000
namespace K0
open PySem PySem.Spec PyProof.Rows L2
/-! ### the courses, if none rings -/
def spFindR (Cn : Addr) : Sp := fun vs H Q E => ∃ (d : Addr) (R : List Row), vs = [.ref d] ∧ H d = some (.dK (belowK R)) ∧ LowOk R ∧
  (∀ i, i < R.length → ringAt R i → (∀ j, j < i → ¬ ringAt R j) → Tells E Cn i H) ∧ ((∀ j, j < R.length → ¬ ringAt R j) → ∀ (H' : Hp) (c : Addr), Same H H' → H c = none → TupsAt H' c (nmsOf R) (course R) → Q (.ref c) H')
section
variable {P : Program} {w : World} {K : PySem.W.Frag} {mg : Str → Option Value} {base : Heap} {tS tM tL : Tok}
theorem ok_findR {f fC Cn fn : Addr} {fd fdC fdn : FuncData} (F : FnP K "_find_courses" sFind f fd) (F_course : FnP K "_course" sCourse fC fdC) (g_course : mg "_course" = some (.ref fC)) (N : NpR P K mg Cn fn fdn) (B : Bl mg) (C : Gc mg tS tM tL) : FnOk P w K mg base (L2.CX P w) 3 f fd ["below"] (spFindR Cn) := by
  have G_course : FnOk P w K mg base CX0 1 fC fdC ["below", "weir"] (spCourseR K) := ok_courseR F_course B C
  have b_course : Binds K fdC ["below", "weir"] [] := F_course.bindsN fun _ _ _ _ _ _ us hl => match us, hl with | [_, _], _ => rfl
  have Gn : FnOk P w K mg base CX0 1 fn fdn ["self", "place"] (spSupI K Cn) := ok_notriver N
  have bn : Binds K fdn ["self", "place"] [] := binds_np N fun _ _ _ _ _ us hl => match us, hl with | [_, _], _ => rfl
  refine F.ok scFind (fun vs H Q E h => ?_) (fun cdv A outer s H vs Q E hr h => ?_)
  · obtain ⟨d, R, rfl, _⟩ := h
    rfl
  · obtain ⟨d, R, rfl, hd, hG, kE, kQ⟩ := h
    have hu := hu_of hr
    have hr_course : Room 1 _ := hr.mono (by decide)
    have hrn : Room 2 _ := hr
    refine ⟨_, (pss_cons
      (ps_lock (k0_setDc (i := 2) (own := [("weir", 1)]) (g := gName 1) (tt := tYes) (by rfl) scFind.nd rfl rfl (k0_sw rfl rfl rfl (by decide +kernel)) (pi_keys (pv 0)) (blkOk_by (own := [("weir", 1)]) (N := scFind_N) (sc := defScope scFind_S) (by decide +kernel)) (fun _ _ _ _ _ => (pg_name (i := 1) scFind.nd rfl (Or.inl rfl))) (fun _ _ _ _ _ => pts_nil) (fun _ _ _ _ _ => (pv 1)) (fun _ _ _ _ _ => (pe_call G_course hr_course (by rfl) g_course F_course.kp b_course .nil pass0 (pa_cons (pv 0) (pa_cons (pv 1) pa_nil))))))
      (pss_cons
      (ps_lock (ps_for (passes_of rfl) rfl (pi_enumD (by rfl) B.enumerate (pa_cons (pv 2) pa_nil)) (pg_tup (by rfl) (pgs_cons (pg_name (i := 3) scFind.nd rfl (Or.inl rfl)) (pgs_cons (pg_name (i := 1) scFind.nd rfl (Or.inl rfl)) pgs_nil))) (pss_one (ps_if (pt_cmpR op_gt (pe_callB (lenK (K := K)) (by rfl) B.len PySem.boot_len (pa_cons (pe_dget hu (pv 2) (pv 1) (fun _ _ => rfl)) pa_nil)) (pe_callB k0_lenD (by rfl) B.len PySem.boot_len (pa_cons (pv 0) pa_nil)) (nomark _)) (pss_one (ps_raise rfl (takes_of rfl rfl rfl rfl) (pmk_oex N.S.exc N.iC N.tI Gn hrn bn .nil (fun _ _ _ _ _ _ _ h => h.elim) (by rfl) N.mgN (pa_cons (pv 3) pa_nil)))) pss_nil))))
      (pss_one
      (ps_ret (pv 2))))), ?_⟩
    have hnd := hG.ro.nd
    have hRm := hG.most
    have hnl : (nmsOf R).length = R.length := List.length_map _
    refine ⟨d, _, hd, trivial, fun od => ?_⟩
    refine ⟨_, rfl, d, od, rfl, .inl ⟨_, upd_same, fun D hD => ?_⟩⟩
    have s0 : Same (upd H d (.frz od (.dK (belowK R)))) (upd (upd H d (.frz od (.dK (belowK R)))) D (.dK [])) := same_upd hD
    have ndD : d ≠ D := ne_of_none upd_same hD
    have hfz : ∀ H2, Same (upd H d (.frz od (.dK (belowK R)))) H2 → H2 d = some (.frz od (.dK (belowK R))) := fun H2 s => s _ _ upd_same
    refine dc_it (walk_keys (kvs := belowK R)) (fun i H2 => Same (upd H d (.frz od (.dK (belowK R)))) H2 ∧ TupsAt H2 D ((nmsOf R).take i) (crsR R)) ⟨s0, ⟨fun _ => 0, by rw [upd_same, List.take_zero]; rfl, fun x hx => by rw [List.take_zero] at hx; cases hx⟩⟩ (fun i H2 hi h => hfz _ h.1) ?_ ?_
    · rintro i x H2 H3 hi ⟨s2, T2⟩ ⟨e, k0, v0, hkv, ev⟩
      subst e
      subst ev
      obtain ⟨x, hx, rfl, rfl⟩ := kmap_get hkv
      have hxm : x ∈ nmsOf R := List.mem_of_getElem? hx
      refine ⟨rfl, ?_⟩
      unfold tYes
      refine iteT ?_
      refine ⟨_, rfl, _, rfl, _, rfl, d, R, x, rfl, .inr ⟨od, hfz _ s2⟩, hG, hxm, fun H4 t s4 nt ht => ?_⟩
      obtain ⟨ta, h1, h2⟩ := (T2.same s4).ex
      refine ⟨_, Sum.inr x, rfl, h1, ?_, fun b o hb => ?_, ?_⟩
      · rw [kmap_len, List.length_take]
        exact small1000 (by omega)
      · rw [upd_ne (ne_of_none hb hD)]
        exact s4 _ _ (s2 b o hb)
      · have hm := tups_more h1 h2 (nodup_take hnd hx) ht
        rw [List.take_add_one, hx]
        exact hm
    · rintro H2 ⟨s2, T2⟩
      rw [kmap_len, List.take_length] at T2
      refine ⟨hfz _ s2, ?_⟩
      have s3 : Same H (upd H2 d (.dK (belowK R))) := same_unlock hd s2
      have T3 : TupsAt (upd H2 d (.dK (belowK R))) D (nmsOf R) (crsR R) := by
        obtain ⟨ta, h1, h2⟩ := T2.ex
        refine ⟨ta, by rw [upd_ne ndD.symm]; exact h1, fun x hx => ?_⟩
        exact (h2 x hx).upd ((h2 x hx).ne (hfz _ s2) (fun _ _ z => by cases z))
      have hD3 : H D = none := by
        rw [upd_ne ndD.symm] at hD
        exact hD
      generalize hH3 : upd H2 d (.dK (belowK R)) = H3 at s3 T3
      obtain ⟨ta, h1, h2⟩ := T3.ex
      refine ⟨D, _, h1, trivial, fun oD => ?_⟩
      have hl1 : (upd H3 D (.frz oD (.dK (kmap (fun x => .ref (ta x)) (nmsOf R))))) D = some (.frz oD (.dK (kmap (fun x => .ref (ta x)) (nmsOf R)))) := upd_same
      refine ⟨_, rfl, D, oD, _, rfl, upd_same, ?_⟩
      refine for_it walk_enumD (fun i σ H4 => ∃ (v1 v3 : Option V), σ = [some (.ref d), v1, some (.ref D), v3] ∧ Same (upd H3 D (.frz oD (.dK (kmap (fun x => .ref (ta x)) (nmsOf R))))) H4 ∧ ∀ j, j < i → ¬ ringAt R j) ⟨_, _, rfl, .refl _, fun j hj => absurd hj (Nat.not_lt_zero j)⟩ (fun i σ H4 hi h => by
        obtain ⟨_, _, _, s, _⟩ := h
        exact s _ _ hl1) ?_ ?_
      · rintro i x σ H4 H5 hi ⟨v1, v3, rfl, s4, hn⟩ ⟨T, x1, x2, rfl, hT, rfl, e1, e2⟩
        rw [kmap_len] at hi
        obtain rfl : V.int (i : Int) = x1 := Option.some.inj e1
        obtain ⟨x, hx, rfl⟩ : ∃ x, (nmsOf R)[i]? = some x ∧ x2 = .str x := by
          refine ⟨(nmsOf R)[i], List.getElem?_eq_getElem hi, ?_⟩
          have e2 : ((kmap (fun x => V.ref (ta x)) (nmsOf R))[i]?.map fun kv => kV kv.1) = some x2 := e2
          unfold kmap at e2
          rw [List.getElem?_map, List.getElem?_eq_getElem hi] at e2
          exact (Option.some.inj e2).symm
        have hxm : x ∈ nmsOf R := List.mem_of_getElem? hx
        obtain ⟨m, hC⟩ := lenR_is hG hxm
        have s5 : Same (upd H3 D (.frz oD (.dK (kmap (fun x => .ref (ta x)) (nmsOf R))))) (upd H4 T (.tup [.int (i : Int), .str x])) := s4.trans (same_upd hT)
        have hDr : Rd (upd H4 T (.tup [.int (i : Int), .str x])) D (.dK (kmap (fun x => .ref (ta x)) (nmsOf R))) := .inr ⟨oD, s5 _ _ hl1⟩
        have hta : FT (upd H4 T (.tup [.int (i : Int), .str x])) (ta x) (crsR R x) := ((h2 x hxm).upd ((h2 x hxm).ne h1 (fun _ _ z => by cases z))).same s5
        have hd3 : (upd H3 D (.frz oD (.dK (kmap (fun x => .ref (ta x)) (nmsOf R))))) d = some (.dK (belowK R)) := by
          rw [upd_ne ndD, ← hH3, upd_same]
        refine ⟨T, _, rfl, .inl (.inl upd_same), rfl, _, _, rfl, _, _, rfl, rfl, ?_⟩
        refine ⟨_, rfl, _, rfl, D, _, rfl, dget_rn hDr hxm, ta x, _, rfl, .inr (.inl hta.rd), _, rfl, d, _, rfl, .inl (s5 _ _ hd3), _, _, rfl, rfl, _, rfl, ?_⟩
        have hiR : i < R.length := by rw [← hnl]; exact hi
        have hri : ∀ r, R[i]? = some r → r.1 = x := fun r hr => by
          have hx : (R.map (·.1))[i]? = some x := hx
          rw [List.getElem?_map, hr] at hx
          exact Option.some.inj hx
        have hlc := crsR_len hC
        have hrg := lenR_ring hG hxm
        rw [hC.eq] at hrg
        have s6 : Same H (upd H4 T (.tup [.int (i : Int), .str x])) := fun b o hb => by
          refine s5 b o ?_
          rw [upd_ne (ne_of_none hb hD3)]
          exact s3 b o hb
        rcases Classical.em (itr (lowR R) R.length x = "sea") with hs | hs
        · refine iteDn ?_ ?_
          · have := fun z => hrg.mp z hs
            rw [List.length_map, hlc, kmap_len, hnl]
            have : ¬ R.length < m := this
            omega
          · refine ⟨_, _, rfl, s5, fun j hj => ?_⟩
            by_cases ej : j = i
            · subst ej
              rintro ⟨r, h1, h2⟩
              rw [hri r h1] at h2
              exact h2 hs
            · exact hn j (by omega)
        · refine iteD ?_ ?_
          · have := hrg.mpr hs
            rw [List.length_map, hlc, kmap_len, hnl]
            omega
          · have T := kE i hiR ⟨R[i], List.getElem?_eq_getElem hiR, by rw [hri _ (List.getElem?_eq_getElem hiR)]; exact hs⟩ hn
            refine ⟨_, rfl, by show 1 ≤ 1000; decide, fun a na => ⟨a, _, rfl, upd_same, by omega, by omega, fun dx n1 n2 => ⟨rfl, dx, [(("place" : Str), V.int (i : Int))], upd_same, ?_, ?_, ?_⟩⟩⟩
            · rw [upd_ne n2, upd_same]
            · rw [upd_ne n2] at n1
              exact n1
            · exact told_np (T.same s6) na n1 n2
      · rintro σ H4 ⟨v1, v3, rfl, s4, hn⟩
        refine ⟨s4 _ _ hl1, ?_⟩
        rw [kmap_len, hnl] at hn
        have s5 : Same H3 (upd H4 D (.dK (kmap (fun x => .ref (ta x)) (nmsOf R)))) := same_unlock h1 s4
        refine ⟨_, rfl, kQ hn _ D (s3.trans s5) hD3 ?_⟩
        have T4 := T3.same s5
        obtain ⟨ta', q1, q2⟩ := T4.ex
        refine ⟨ta', q1, fun x hx => ?_⟩
        have e : crsR R x = course R x := crsR_course hG hx (Classical.byContradiction fun z => by
          obtain ⟨r, hr, er⟩ := List.mem_map.mp hx
          obtain ⟨j, hj⟩ := List.getElem?_of_mem hr
          exact hn j (List.getElem?_eq_some_iff.mp hj).1 ⟨r, hj, by rw [er]; exact z⟩)
        rw [← e]
        exact q2 x hx
end
end K0
end
section
set_option Elab.async false
set_option linter.all false
set_option maxRecDepth 100000
set_option maxHeartbeats 4000000
namespace K0
open PySem PySem.Spec PyProof.Rows L2
/-! ### a river that is refused -/
/-- rows without a fault are rows -/
theorem nd_at {R : List Row} (h : ∀ (i : Nat) (r : Row), R[i]? = some r → ∀ (j : Nat) (r' : Row), j < i → R[j]? = some r' → r'.1 ≠ r.1) : (nmsOf R).Nodup := by
  show (R.map (·.1)).Nodup
  refine List.pairwise_map.mpr (List.pairwise_iff_getElem.mpr fun i j hi hj hij e => ?_)
  exact h j R[j] (List.getElem?_eq_getElem hj) i R[i] hij (List.getElem?_eq_getElem hi) e
theorem wrN_none {ds : List PyData} (h : wrN ds = none) : ∃ R, ds = R.map rowD ∧ LowOk R := by
  unfold wrN at h
  split at h
  · cases h
  rename_i hl
  rcases firstP_is (P := badRow ds) (n := ds.length) with ⟨e, hn⟩ | ⟨i, _, e, _⟩
  · rw [e] at h
    dsimp only at h
    rcases firstP_is (P := lowBad (ds.map unrow)) (n := ds.length) with ⟨e2, hn2⟩ | ⟨i, _, e2, _⟩
    · have at_ : ∀ i, i < ds.length → ∃ r, ds[i]? = some (rowD r) ∧ RowOk r ∧ ∀ j, j < i → ∀ r', ds[j]? = some (rowD r') → r'.1 ≠ r.1 := fun i hi => Classical.not_not.mp (hn i hi)
      have eR : ds = (ds.map unrow).map rowD := by
        refine List.ext_getElem? fun i => ?_
        rw [List.getElem?_map, List.getElem?_map]
        by_cases hi : i < ds.length
        · obtain ⟨r, hr, _⟩ := at_ i hi
          rw [hr]
          show _ = some (rowD (unrow (rowD r)))
          rw [unrow_row]
        · rw [List.getElem?_eq_none (by omega)]
          rfl
      have atR : ∀ i r, (ds.map unrow)[i]? = some r → ds[i]? = some (rowD r) := fun i r hr => by
        rw [eR, List.getElem?_map, hr]
        rfl
      have lt : ∀ {i r}, (ds.map unrow)[i]? = some r → i < ds.length := fun hr => by
        have := (List.getElem?_eq_some_iff.mp hr).1
        rw [List.length_map] at this
        exact this
      refine ⟨ds.map unrow, eR, ⟨fun r hr => ?_, nd_at fun i r hr j r' hj hr' => ?_⟩, ?_, ?_, fun j hj => hn2 j (by rw [List.length_map] at hj; exact hj)⟩
      · obtain ⟨i, hi⟩ := List.getElem?_of_mem hr
        obtain ⟨r', h1, h2, _⟩ := at_ i (lt hi)
        rw [atR i r hi] at h1
        rw [rowD_inj (Option.some.inj h1)]
        exact h2
      · obtain ⟨r2, h1, _, h3⟩ := at_ i (lt hr)
        rw [atR i r hr] at h1
        rw [rowD_inj (Option.some.inj h1)]
        exact h3 j hj r' (atR j r' hr')
      · rw [List.length_map]; omega
      · rw [List.length_map]; omega
    · rw [e2] at h
      cases h
  · rw [e] at h
    cases h
theorem needD_none {d : PyData} (h : needD d = none) : ∃ R, d = .list (R.map rowD) ∧ LowOk R := by
  cases d with
  | list ds =>
    obtain ⟨R, e, hR⟩ := wrN_none h
    exact ⟨R, by rw [e], hR⟩
  | _ => cases h
/-- a place is told, of an instance that is under way -/
def TellsU (E : XK) (Cn p : Addr) (i : Int) (H : Hp) : Prop := ∀ H' dd, Upto p H H' → H' dd = none → E (.ref Cn) (some dd) (upd H' dd (.xd [(("place" : Str), .int i)]))
theorem TellsU.at_ {E : XK} {Cn p : Addr} {i : Int} {H H' : Hp} (h : TellsU E Cn p i H) (u : Upto p H H') : Tells E Cn i H' := fun H2 dd s n => h H2 dd (u.trans (.of s)) n
theorem pss_stop {X : Cx} {st : List Stmt} : PSs X st fun _ _ _ => False := ⟨fun _ _ _ _ _ _ h => h.elim⟩
def spInitX (Cr Cn : Addr) : Sp := fun vs H Q E => ∃ (p dx : Addr) (v : V) (d : PyData) (m k : Nat) (i : Int), vs = [.ref p, v] ∧ H p = some (.ins Cr dx []) ∧ Dq H v d ∧ Fit m k d ∧ m ≤ 900 ∧ k ≤ 60 ∧ wrD d = some i ∧ TellsU E Cn p i H
section
variable {P : Program} {w : World} {K : PySem.W.Frag} {mg : Str → Option Value} {base : Heap} {tS tM tL : Tok}
theorem ok_initX {f Cr Cn fn : Addr} {fd fdn : FuncData} (F : FnM K "__init__" "River.__init__" sInit f fd) (M : Mf K mg) (T : Rv K mg Cr) (N : NpR P K mg Cn fn fdn) (B : Bl mg) (C : Gc mg tS tM tL) : FnOk P w K mg base (L2.CX P w) 4 f fd ["self", "rows"] (spInitX Cr Cn) := by
  obtain ⟨a1, d1, F1, m1⟩ := M.isName
  obtain ⟨a2, d2, F2, m2⟩ := M.isRow
  obtain ⟨a3, d3, F_need_rows, g_need_rows⟩ := M.needRows
  obtain ⟨a4, d4, F4, m4⟩ := M.course
  obtain ⟨a5, d5, F_find_courses, g_find_courses⟩ := M.find
  have G_need_rows : FnOk P w K mg base (L2.CX P w) 3 a3 d3 ["rows"] (spNeedX Cn) := ok_needX F_need_rows F1 m1 F2 m2 N B C
  have b_need_rows : Binds K d3 ["rows"] [] := F_need_rows.bindsN fun _ _ _ _ _ _ us hl => match us, hl with | [_], _ => rfl
  have G_find_courses : FnOk P w K mg base (L2.CX P w) 3 a5 d5 ["below"] (spFindR Cn) := ok_findR F_find_courses F4 m4 N B C
  have b_find_courses : Binds K d5 ["below"] [] := F_find_courses.bindsN fun _ _ _ _ _ _ us hl => match us, hl with | [_], _ => rfl
  refine F.ok scInit (fun vs H Q E h => ?_) (fun cdv A outer s H vs Q E hr h => ?_)
  · obtain ⟨p, dx, v, d, m, k, i, rfl, _⟩ := h
    rfl
  · obtain ⟨p, dx, v, d, m, kk, i, rfl, hp, qd, fit, hm, hk, hi, kE⟩ := h
    have hu := hu_of hr
    have hr_need_rows : Room 3 _ := hr
    have hr_find_courses : Room 3 _ := hr
    refine ⟨_, (pss_cons
      (ps_expr (pe_callS G_need_rows hr_need_rows (by rfl) g_need_rows F_need_rows.kp b_need_rows (fun σ => passAt (takes_of rfl rfl rfl rfl) σ) (pa_cons (pv 1) pa_nil)))
      (pss_cons
      (ps_fld (pv 0) (pe_callTy (tupleK (K := K)) (by rfl) B.tuple (by decide +kernel) (pa_cons (pe_lc (own := [("row", 2)]) (g := gName 2) (tt := tYes) (by rfl) scInit.nd (pi_list (pv 1)) (blkOk_by (own := [("row", 2)]) (N := scInit_N) (sc := defScope scInit_S) (by decide +kernel)) (fun _ _ _ _ _ => (pg_name (i := 2) scInit.nd rfl (Or.inl rfl))) (fun _ _ _ _ _ => pts_nil) (fun _ _ _ _ _ => (pe_ix (ixTK (K := K)) (pv 2) pe_int (fun _ _ => rfl)))) pa_nil)) rfl)
      (pss_cons
      (ps_fld (pv 0) (pe_callTy (tupleK (K := K)) (by rfl) B.tuple (by decide +kernel) (pa_cons (pv 1) pa_nil)) rfl)
      (pss_cons
      (ps_fld (pv 0) (pe_dc (own := [("weir", 3), ("low", 4)]) (tt := tYes) (by rfl) scInit.nd (pi_list (pv 1)) (blkOk_by (own := [("weir", 3), ("low", 4)]) (N := scInit_N) (sc := defScope scInit_S) (by decide +kernel)) (fun _ _ _ _ _ => (tgK (K := K) (n := 2) (by rfl) (pgs_cons (pg_name (i := 3) scInit.nd rfl (Or.inl rfl)) (pgs_cons (pg_name (i := 4) scInit.nd rfl (Or.inl rfl)) pgs_nil)))) (fun _ _ _ _ _ => pts_nil) (fun _ _ _ _ _ => (pv 3)) (fun _ _ _ _ _ => (pv 4))) rfl)
      (pss_cons
      (ps_fld (pv 0) (pe_callS G_find_courses hr_find_courses (by rfl) g_find_courses F_find_courses.kp b_find_courses (fun σ => passAt (takes_of rfl rfl rfl rfl) σ) (pa_cons (fldK (K := K) (pv 0) rfl) pa_nil)) rfl)
      pss_stop))))), ?_⟩
    have hins : ∀ {o : HO} {a : Addr} {H' : Hp} {fs : List (Str × V)}, H' p = some (.ins Cr dx fs) → H' a = some o → (∀ z1 z2 z3, o ≠ .ins z1 z2 z3) → a ≠ p := fun h1 h2 n => ne_of h2 h1 (n _ _ _)
    have tupsU : ∀ {H1 H2 : Hp} {fs : List (Str × V)} {c : Addr} {ns : List Str} {g : Str → List Str}, H1 p = some (.ins Cr dx fs) → Upto p H1 H2 → TupsAt H1 c ns g → TupsAt H2 c ns g := fun h1 u t => by
      obtain ⟨ta, q1, q2⟩ := t.ex
      exact ⟨ta, u _ _ q1 (hins h1 q1 (fun _ _ _ z => by cases z)), fun x hx => (q2 x hx).to fun v e _ _ _ n4 _ => u _ _ e (ne_of e h1 (n4 _ _ _))⟩
    refine ⟨_, rfl, v, d, m, kk, rfl, qd, fit, hm, hk, fun j hj => ?_, fun hn H1 s1 => ?_⟩
    · have e := needD_wr hj
      rw [hi] at e
      cases e
      exact kE.at_ Upto.refl
    obtain ⟨R, rfl, hG⟩ := needD_none hn
    obtain ⟨l, ws, ds, rfl, ed, hl0, hw⟩ := dqL qd rfl
    injection ed with ed
    subst ed
    obtain ⟨AR, rfl, eA, hA⟩ := dq_rows hw
    subst eA
    have hR : RowsAt H l AR := ⟨hl0, hA⟩
    have hRm := hG.most
    have hAl : (rowsOf AR).length = AR.length := List.length_map _
    have hnl : (namesOf AR).length = AR.length := nmlen AR
    have hnd := hG.ro.nd
    have rowat : ∀ {i : Nat} (hi : i < AR.length), (namesOf AR)[i]? = some AR[i].2.1 ∧ lowR (rowsOf AR) AR[i].2.1 = AR[i].2.2 := fun {i} hi => by
      refine ⟨?_, low_at hnd (List.mem_map.mpr ⟨_, List.getElem_mem hi, rfl⟩)⟩
      show (((AR.map (·.2)).map (·.1)))[i]? = _
      rw [List.getElem?_map, List.getElem?_map, List.getElem?_eq_getElem hi]
      rfl
    have hlen : ¬ ((rowsOf AR).length = 0 ∨ 40 < (rowsOf AR).length) := by
      have := hG.one
      omega
    have p1 := s1 _ _ hp
    have R1 := hR.same s1
    -- self.weirs
    refine ⟨_, rfl, l, rfl, ⟨_, .inl (.inl R1.lst)⟩, fun D hD => ?_⟩
    have sD : Same H1 (upd H1 D (.lst [])) := same_upd hD
    refine lc_list (K := K) (a := l) (xs := AR.map fun q => V.ref q.1) (fun i H2 => Same H1 H2 ∧ H2 D = some (.lst (((namesOf AR).take i).map V.str))) ⟨sD, by rw [upd_same, List.take_zero]; rfl⟩ (fun i H2 hi h => .inl (.inl (h.1 _ _ R1.lst))) ?_ ?_
    · rintro i x H2 hx ⟨s2, hl⟩
      have hi : i < AR.length := by
        have := (List.getElem?_eq_some_iff.mp hx).1
        rw [List.length_map] at this
        exact this
      have ex := row_at hx hi
      subst ex
      refine ⟨rfl, ?_⟩
      unfold tYes
      refine iteT ?_
      refine ⟨_, rfl, AR[i].1, _, _, _, rfl, rfl, .inl (.inl (s2 _ _ (R1.tup _ (List.getElem_mem hi)))), atI_nat (j := 0) rfl, _, hl, ?_, fun b o hb => ?_, ?_⟩
      · rw [List.length_map, List.length_take]
        exact small1000 (by omega)
      · rw [upd_ne (ne_of_none hb hD)]
        exact s2 b o hb
      · rw [upd_same, List.take_add_one, (rowat hi).1, List.map_append]
        rfl
    rintro H2 ⟨s2, hl⟩
    rw [List.take_of_length_le (by rw [hnl, List.length_map]; exact Nat.le_refl _)] at hl
    refine ⟨D, _, rfl, .inl ⟨.inl (.inl hl), fun tw nw => ?_⟩⟩
    have s3 : Same H (upd H2 tw (.tup ((namesOf AR).map V.str))) := (s1.trans s2).trans (same_upd nw)
    have w3 : (upd H2 tw (.tup ((namesOf AR).map V.str))) tw = some (.tup ((namesOf AR).map V.str)) := upd_same
    generalize upd H2 tw (.tup ((namesOf AR).map V.str)) = H3 at s3 w3
    have p3 := s3 _ _ hp
    refine ⟨_, rfl, p, Cr, dx, _, rfl, p3, T.cl, T.weirs, by show 0 < 1000; decide, ?_⟩
    have u4 : Upto p H (upd H3 p (.ins Cr dx (f1 (.ref tw)))) := (Upto.of s3).trans Upto.at_
    have w4 : (upd H3 p (.ins Cr dx (f1 (.ref tw)))) tw = some (.tup ((namesOf AR).map V.str)) := by
      rw [upd_ne (hins p3 w3 (fun _ _ _ z => by cases z))]
      exact w3
    have p4 : (upd H3 p (.ins Cr dx (f1 (.ref tw)))) p = some (.ins Cr dx (f1 (.ref tw))) := upd_same
    show tSeq _ _ _ _ (upd H3 p (.ins Cr dx (f1 (.ref tw))))
    generalize upd H3 p (.ins Cr dx (f1 (.ref tw))) = H4 at u4 w4 p4
    have R4 : RowsAt H4 l AR := ⟨u4 _ _ hR.lst (hins hp hR.lst (fun _ _ _ z => by cases z)), fun q hq => u4 _ _ (hR.tup q hq) (hins hp (hR.tup q hq) (fun _ _ _ z => by cases z))⟩
    -- self._rows
    refine ⟨_, rfl, l, _, rfl, .inl ⟨.inl (.inl R4.lst), fun tr nr => ?_⟩⟩
    have keepP : ∀ {Hk : Hp} {fs : List (Str × V)} {o X : HO} {a : Addr}, Hk p = some (.ins Cr dx fs) → Hk a = some o → (∀ z1 z2 z3, o ≠ .ins z1 z2 z3) → (upd Hk p X) a = some o := fun h1 h2 n => by
      rw [upd_ne (hins h1 h2 n)]
      exact h2
    have rowsU : ∀ {H1 H2 : Hp}, Upto p H H2 → RowsAt H2 l AR := fun u => ⟨u _ _ hR.lst (hins hp hR.lst (fun _ _ _ z => by cases z)), fun q hq => u _ _ (hR.tup q hq) (hins hp (hR.tup q hq) (fun _ _ _ z => by cases z))⟩
    have s5 : Same H4 (upd H4 tr (.tup (AR.map fun q => V.ref q.1))) := same_upd nr
    have r5 : (upd H4 tr (.tup (AR.map fun q => V.ref q.1))) tr = some (.tup (AR.map fun q => V.ref q.1)) := upd_same
    generalize upd H4 tr (.tup (AR.map fun q => V.ref q.1)) = H5 at s5 r5
    have p5 := s5 _ _ p4
    have w5 := s5 _ _ w4
    refine ⟨_, rfl, p, Cr, dx, _, rfl, p5, T.cl, T._rows, by have := l1 (.ref tw); omega, ?_⟩
    have u6 : Upto p H (upd H5 p (.ins Cr dx (f2 (.ref tw) (.ref tr)))) := (u4.trans (Upto.of s5)).trans Upto.at_
    have w6 : (upd H5 p (.ins Cr dx (f2 (.ref tw) (.ref tr)))) tw = _ := keepP p5 w5 (fun _ _ _ z => by cases z)
    have r6 : (upd H5 p (.ins Cr dx (f2 (.ref tw) (.ref tr)))) tr = _ := keepP p5 r5 (fun _ _ _ z => by cases z)
    have p6 : (upd H5 p (.ins Cr dx (f2 (.ref tw) (.ref tr)))) p = some (.ins Cr dx (f2 (.ref tw) (.ref tr))) := upd_same
    show tSeq _ _ _ _ (upd H5 p (.ins Cr dx (f2 (.ref tw) (.ref tr))))
    generalize upd H5 p (.ins Cr dx (f2 (.ref tw) (.ref tr))) = H6 at u6 w6 r6 p6
    have R6 : RowsAt H6 l AR := rowsU (H1 := H6) u6
    -- self._below
    refine ⟨_, rfl, l, rfl, ⟨_, .inl (.inl R6.lst)⟩, fun db ndb => ?_⟩
    refine dc_it (walk_list (K := K) (a := l) (xs := AR.map fun q => V.ref q.1)) (fun i H7 => Same H6 H7 ∧ H7 db = some (.dK (kmap (fun y => .str (lowR (rowsOf AR) y)) ((namesOf AR).take i)))) ⟨same_upd ndb, by rw [upd_same, List.take_zero]; rfl⟩ (fun i H7 hi h => .inl (.inl (h.1 _ _ R6.lst))) ?_ ?_
    · rintro i x H7 H7' hi ⟨s7, hb7⟩ ⟨e, hx⟩
      subst e
      rw [List.length_map] at hi
      have ex := row_at hx hi
      subst ex
      obtain ⟨hn, hlow⟩ := rowat hi
      refine ⟨AR[i].1, _, rfl, .inl (.inl (s7 _ _ (R6.tup _ (List.getElem_mem hi)))), rfl, _, _, rfl, _, _, rfl, rfl, rfl, ?_⟩
      unfold tYes
      refine iteT ?_
      refine ⟨_, rfl, _, rfl, _, Sum.inr AR[i].2.1, rfl, hb7, ?_, fun b o hb => ?_, ?_⟩
      · rw [kmap_len, List.length_take]
        exact small1000 (by omega)
      · rw [upd_ne (ne_of_none hb ndb)]
        exact s7 b o hb
      · have hput := kmap_put (f := fun y => V.str (lowR (rowsOf AR) y)) (nodup_take hnd hn)
        rw [hlow] at hput
        rw [upd_same, hput, List.take_add_one, hn]
        rfl
    rintro H7 ⟨s7, hb7⟩
    rw [List.take_of_length_le (by rw [hnl, List.length_map]; exact Nat.le_refl _)] at hb7
    have p7 := s7 _ _ p6
    have w7 := s7 _ _ w6
    have r7 := s7 _ _ r6
    refine ⟨_, rfl, p, Cr, dx, _, rfl, p7, T.cl, T._below, by have := l2 (.ref tw) (.ref tr); omega, ?_⟩
    have u8 : Upto p H (upd H7 p (.ins Cr dx (f3 (.ref tw) (.ref tr) (.ref db)))) := (u6.trans (Upto.of s7)).trans Upto.at_
    have w8 : (upd H7 p (.ins Cr dx (f3 (.ref tw) (.ref tr) (.ref db)))) tw = _ := keepP p7 w7 (fun _ _ _ z => by cases z)
    have r8 : (upd H7 p (.ins Cr dx (f3 (.ref tw) (.ref tr) (.ref db)))) tr = _ := keepP p7 r7 (fun _ _ _ z => by cases z)
    have b8 : (upd H7 p (.ins Cr dx (f3 (.ref tw) (.ref tr) (.ref db)))) db = _ := keepP p7 hb7 (fun _ _ _ z => by cases z)
    have p8 : (upd H7 p (.ins Cr dx (f3 (.ref tw) (.ref tr) (.ref db)))) p = some (.ins Cr dx (f3 (.ref tw) (.ref tr) (.ref db))) := upd_same
    show tSeq _ _ _ _ (upd H7 p (.ins Cr dx (f3 (.ref tw) (.ref tr) (.ref db))))
    generalize upd H7 p (.ins Cr dx (f3 (.ref tw) (.ref tr) (.ref db))) = H8 at u8 w8 r8 b8 p8
    -- self._courses
    refine ⟨_, rfl, p, Cr, dx, _, _, rfl, p8, T.cl, T._below, g3b _ _ _, db, rowsOf AR, rfl, b8, hG, fun j hj hr hn => ?_, fun hn => ?_⟩
    · have e : wrF ((rowsOf AR).map rowD) = some (j : Int) := wrF_ring hG.ro hlen hG.low hj hr hn
      have hi : wrF ((rowsOf AR).map rowD) = some i := hi
      rw [e] at hi
      cases hi
      exact kE.at_ u8
    · have e : wrF ((rowsOf AR).map rowD) = none := wrF_good hG.ro hlen hG.low hn
      have hi : wrF ((rowsOf AR).map rowD) = some i := hi
      rw [e] at hi
      cases hi
end
end K0
end
section
set_option Elab.async false
set_option linter.all false
set_option maxRecDepth 100000
set_option maxHeartbeats 4000000
namespace L2
open PySem PySem.Spec PyProof.Rows
/-! ### promises put together -/
section
variable {P : Program} {w : World} {K : PySem.W.Frag} {mg : Str → Option Value} {base : Heap} {CX : CXT} {k : Nat} {f : Addr} {fd : FuncData} {ps : List Str} {sp sp' : Sp}
theorem FnOk.or (F : FnOk P w K mg base CX k f fd ps sp) (G : FnOk P w K mg base CX k f fd ps sp') : FnOk P w K mg base CX k f fd ps (fun vs H Q E => sp vs H Q E ∨ sp' vs H Q E) :=
  ⟨fun vs H Q E q => q.elim (F.len vs H Q E) (G.len vs H Q E), fun A outer s H args us vs Q E hr he hb hv hs => hs.elim (F.run A outer s H args us vs Q E hr he hb hv) (G.run A outer s H args us vs Q E hr he hb hv)⟩
theorem FnOk.of0 (F : FnOk P w K mg base CX0 k f fd ps sp) : FnOk P w K mg base CX k f fd ps sp :=
  ⟨F.len, fun A outer s H args us vs Q E hr he hb hv hs => codeAny_mono (F.run A outer s H args us vs Q E hr he hb hv hs) fun r s' h => by
    cases r with
    | ok fl => cases fl <;> exact h
    | error e => exact False.elim h⟩
end
end L2
namespace K0
open PySem PySem.Spec PyProof.Rows L2
/-! ### a river made of any value -/
theorem good_of {R : List Row} (g : LowOk R) (n : ∀ j, j < R.length → ¬ ringAt R j) : GoodRows R := by
  have nr : ∀ {x : Str}, x ∈ nmsOf R → itr (lowR R) R.length x = "sea" := fun {x} hx => Classical.byContradiction fun z => by
    obtain ⟨r, hr, er⟩ := List.mem_map.mp hx
    obtain ⟨j, hj⟩ := List.getElem?_of_mem hr
    exact n j (List.getElem?_eq_some_iff.mp hj).1 ⟨r, hj, by rw [er]; exact z⟩
  refine ⟨g.one, g.most, ⟨fun x hx => ?_, fun x hx => g.sea hx, g.ro.nd⟩, lenR R, fun r hr => ?_⟩
  · obtain ⟨r, hr, er⟩ := List.mem_map.mp hx
    rw [← er]
    exact (g.ro.ok r hr).a
  · by_cases hs : r.2 = "sea"
    · exact .inl hs
    · have hx : r.1 ∈ nmsOf R := List.mem_map.mpr ⟨r, hr, rfl⟩
      have hy : r.2 ∈ nmsOf R := by
        obtain ⟨j, hj⟩ := List.getElem?_of_mem hr
        exact Classical.byContradiction fun z => g.low j (List.getElem?_eq_some_iff.mp hj).1 ⟨r, hj, hs, z⟩
      refine .inr ⟨hy, ?_⟩
      have el : lowR R r.1 = r.2 := low_at g.ro.nd hr
      obtain ⟨m, L⟩ := lenR_is g hx
      obtain ⟨m', L'⟩ := lenR_is g hy
      rw [L.eq, L'.eq]
      have h1 : ¬ R.length < m := fun z => (lenR_ring g hx).mp (by rw [L.eq]; exact z) (nr hx)
      have hm : itr (lowR R) m r.1 = "sea" := L.fin.resolve_right fun z => by omega
      refine Classical.byContradiction fun z => ?_
      have h2 : m - 1 < m' := by
        have := L.one
        omega
      refine g.sea (L'.mem _ h2) ?_
      rw [← el, ← itr_shift, show m - 1 + 1 = m by have := L.one; omega]
      exact hm
theorem wrD_good {d : PyData} (h : wrD d = none) : ∃ R, d = .list (R.map rowD) ∧ GoodRows R := by
  have hn : needD d = none := by
    cases e : needD d with
    | none => rfl
    | some i => rw [needD_wr e] at h; cases h
  obtain ⟨R, rfl, g⟩ := needD_none hn
  refine ⟨R, rfl, good_of g ?_⟩
  have hl : ¬ (R.length = 0 ∨ 40 < R.length) := by
    have := g.one
    have := g.most
    omega
  have h : wrF (R.map rowD) = none := h
  rw [wrF_two g.ro hl, firstP_none g.low] at h
  dsimp only at h
  rcases firstP_is (P := ringAt R) (n := R.length) with ⟨_, hn⟩ | ⟨i, _, e, _⟩
  · exact hn
  · rw [e] at h
    cases h
def spInit2 (Cr Cn : Addr) : Sp := fun vs H Q E => ∃ (p dx : Addr) (v : V) (d : PyData) (m k : Nat), vs = [.ref p, v] ∧ H p = some (.ins Cr dx []) ∧ Dq H v d ∧ Fit m k d ∧ m ≤ 900 ∧ k ≤ 60 ∧ (∀ i, wrD d = some i → TellsU E Cn p i H) ∧ (wrD d = none → ∀ H', Upto p H H' → Q .non H')
section
variable {P : Program} {w : World} {K : PySem.W.Frag} {mg : Str → Option Value} {base : Heap} {tS tM tL : Tok}
theorem ok_init2 {f Cr Cn fn : Addr} {fd fdn : FuncData} (F : FnM K "__init__" "River.__init__" sInit f fd) (M : Mf K mg) (T : Rv K mg Cr) (N : NpR P K mg Cn fn fdn) (B : Bl mg) (C : Gc mg tS tM tL) : FnOk P w K mg base (L2.CX P w) 4 f fd ["self", "rows"] (spInit2 Cr Cn) := by
  have G1 : FnOk P w K mg base (L2.CX P w) 4 f fd ["self", "rows"] (spInitX Cr Cn) := ok_initX F M T N B C
  have G2 : FnOk P w K mg base CX0 4 f fd ["self", "rows"] (spInit Cr) := ok_init F M T B C
  refine (G1.or (FnOk.of0 G2)).imp fun vs H Q E h => ?_
  obtain ⟨p, dx, v, d, m, k, rfl, hp, qd, fit, hm, hk, kE, kQ⟩ := h
  cases e : wrD d with
  | some i => exact .inl ⟨p, dx, v, d, m, k, i, rfl, hp, qd, fit, hm, hk, e, kE i e⟩
  | none =>
    obtain ⟨R, rfl, g⟩ := wrD_good e
    obtain ⟨l, ws, ds, rfl, ed, hl0, hw⟩ := dqL qd rfl
    injection ed with ed
    subst ed
    obtain ⟨AR, rfl, eA, hA⟩ := dq_rows hw
    subst eA
    exact .inr ⟨p, l, dx, AR, rfl, hp, ⟨hl0, hA⟩, g, fun H' u _ => kQ e H' u⟩
end
end K0
end
section
set_option Elab.async false
set_option linter.all false
set_option maxRecDepth 100000
set_option maxHeartbeats 2000000
namespace K0
open PySem PySem.Spec PyProof.Rows L2
/-! ### the first fault of rows of rights -/
structure TripOk (R : List Row) (r : RRow) : Prop where
  a : NameOk r.1
  b : r.2.1 ∈ nmsOf R
  c : r.2.2 = "sea" ∨ r.2.2 ∈ nmsOf R
def tripD (r : RRow) : PyData := .tuple [.str r.1, .str r.2.1, .str r.2.2]
theorem tripD_inj {r r' : RRow} (h : tripD r = tripD r') : r = r' := by
  unfold tripD at h
  injection h with h
  injection h with h1 h
  injection h with h2 h
  injection h with h3
  injection h1 with h1
  injection h2 with h2
  injection h3 with h3
  exact Prod.ext h1 (Prod.ext h2 h3)
structure TripsOk (R : List Row) (B : List RRow) : Prop where
  ok : ∀ r ∈ B, TripOk R r
  nd : (rnm B).Nodup
def badTrip (R : List Row) (ds : List PyData) (i : Nat) : Prop := ¬ ∃ r, ds[i]? = some (tripD r) ∧ TripOk R r ∧ ∀ j, j < i → ∀ r', ds[j]? = some (tripD r') → r'.1 ≠ r.1
def upBad (R : List Row) (B : List RRow) (i : Nat) : Prop := ∃ r, B[i]? = some r ∧ r.2.2 ≠ "sea" ∧ r.2.2 ∉ course R r.2.1
noncomputable def untrip (d : PyData) : RRow := @dite _ (∃ r, d = tripD r) (Classical.propDecidable _) (fun h => Classical.choose h) (fun _ => ("", "", ""))
theorem untrip_trip (r : RRow) : untrip (tripD r) = r := by
  have h : ∃ r', tripD r = tripD r' := ⟨r, rfl⟩
  unfold untrip
  rw [@dif_pos _ (Classical.propDecidable _) h]
  exact (tripD_inj (Classical.choose_spec h)).symm
theorem untrip_map (B : List RRow) : (B.map tripD).map untrip = B := by
  rw [List.map_map]
  conv => rhs; rw [← List.map_id B]
  exact List.map_congr_left fun r _ => untrip_trip r
noncomputable def wrG (R : List Row) (ds : List PyData) : Option Int :=
  if 40 < ds.length then some (-1)
  else match firstP (badTrip R ds) ds.length with
    | some i => some (i : Int)
    | none => match firstP (upBad R (ds.map untrip)) ds.length with
      | some i => some (i : Int)
      | none => none
theorem wrG_len {R : List Row} {ds : List PyData} (h : 40 < ds.length) : wrG R ds = some (-1) := by unfold wrG; rw [if_pos h]
theorem gb_some {ds : List PyData} {i : Nat} (hi : i < ds.length) {R : List Row} {B : List RRow} (e : ds.take i = B.map tripD) (hR : TripsOk R B) (bad : ¬ ∃ r, ds[i]? = some (tripD r) ∧ TripOk R r ∧ ∀ r' ∈ B, r'.1 ≠ r.1) : firstP (badTrip R ds) ds.length = some i := by
  have hl : B.length = i := by
    have := congrArg List.length e
    rw [List.length_take, List.length_map] at this
    omega
  have at_ : ∀ j, j < i → ds[j]? = (B[j]?).map tripD := fun j hj => by
    rw [← List.getElem?_take_of_lt (l := ds) hj, e, List.getElem?_map]
  refine firstP_some hi ?_ fun j hj => ?_
  · rintro ⟨r, h1, h2, h3⟩
    refine bad ⟨r, h1, h2, fun r' hr' => ?_⟩
    obtain ⟨j, hj⟩ := List.getElem?_of_mem hr'
    have hji : j < i := by
      have := (List.getElem?_eq_some_iff.mp hj).1
      omega
    exact h3 j hji r' (by rw [at_ j hji, hj]; rfl)
  · refine fun z => z ?_
    have hjl : j < B.length := by omega
    refine ⟨B[j], by rw [at_ j hj, List.getElem?_eq_getElem hjl]; rfl, hR.ok _ (List.getElem_mem hjl), fun k hk r' hr' => ?_⟩
    rw [at_ k (by omega), List.getElem?_eq_getElem (by omega)] at hr'
    have e2 := tripD_inj (Option.some.inj hr')
    intro e3
    have g1 : (rnm B)[k]? = some r'.1 := by
      show (B.map (·.1))[k]? = _
      rw [List.getElem?_map, List.getElem?_eq_getElem (by omega), ← e2]
      rfl
    have g2 : (rnm B)[j]? = some r'.1 := by
      show (B.map (·.1))[j]? = _
      rw [List.getElem?_map, List.getElem?_eq_getElem hjl, e3]
      rfl
    have := nd_ix hR.nd g1 g2
    omega
theorem wrG_row {ds : List PyData} (h : ¬ (40 < ds.length)) {i : Nat} (hi : i < ds.length) {R : List Row} {B : List RRow} (e : ds.take i = B.map tripD) (hR : TripsOk R B) (bad : ¬ ∃ r, ds[i]? = some (tripD r) ∧ TripOk R r ∧ ∀ r' ∈ B, r'.1 ≠ r.1) : wrG R ds = some (i : Int) := by
  have f := gb_some hi e hR bad
  unfold wrG
  rw [if_neg h, f]
theorem gb_none {R : List Row} {B : List RRow} (hR : TripsOk R B) : firstP (badTrip R (B.map tripD)) (B.map tripD).length = none := by
  refine firstP_none fun i hi z => z ?_
  rw [List.length_map] at hi
  refine ⟨B[i], by rw [List.getElem?_map, List.getElem?_eq_getElem hi]; rfl, hR.ok _ (List.getElem_mem hi), fun j hj r' hr' e3 => ?_⟩
  rw [List.getElem?_map, List.getElem?_eq_getElem (by omega)] at hr'
  have e2 := tripD_inj (Option.some.inj hr')
  have g1 : (rnm B)[j]? = some r'.1 := by
    show (B.map (·.1))[j]? = _
    rw [List.getElem?_map, List.getElem?_eq_getElem (by omega), ← e2]
    rfl
  have g2 : (rnm B)[i]? = some r'.1 := by
    show (B.map (·.1))[i]? = _
    rw [List.getElem?_map, List.getElem?_eq_getElem hi, e3]
    rfl
  have := nd_ix hR.nd g1 g2
  omega
section
variable {R : List Row} {B : List RRow} (hR : TripsOk R B) (h : ¬ 40 < B.length)
include hR h
theorem wrG_two : wrG R (B.map tripD) = match firstP (upBad R B) B.length with
      | some i => some (i : Int)
      | none => none := by
  have f := gb_none hR
  unfold wrG
  rw [if_neg (by rw [List.length_map]; exact h), f, untrip_map, List.length_map]
theorem wrG_up {i : Nat} (hi : i < B.length) (b : upBad R B i) (n : ∀ j, j < i → ¬ upBad R B j) : wrG R (B.map tripD) = some (i : Int) := by
  rw [wrG_two hR h, firstP_some hi b n]
theorem wrG_good (n : ∀ j, j < B.length → ¬ upBad R B j) : wrG R (B.map tripD) = none := by
  rw [wrG_two hR h, firstP_none n]
end
theorem wrG_none {R : List Row} {ds : List PyData} (h : wrG R ds = none) : ∃ B, ds = B.map tripD ∧ RtOk R B := by
  unfold wrG at h
  split at h
  · cases h
  rename_i hl
  rcases firstP_is (P := badTrip R ds) (n := ds.length) with ⟨e, hn⟩ | ⟨i, _, e, _⟩
  · rw [e] at h
    dsimp only at h
    rcases firstP_is (P := upBad R (ds.map untrip)) (n := ds.length) with ⟨e2, hn2⟩ | ⟨i, _, e2, _⟩
    · have at_ : ∀ i, i < ds.length → ∃ r, ds[i]? = some (tripD r) ∧ TripOk R r ∧ ∀ j, j < i → ∀ r', ds[j]? = some (tripD r') → r'.1 ≠ r.1 := fun i hi => Classical.not_not.mp (hn i hi)
      have eR : ds = (ds.map untrip).map tripD := by
        refine List.ext_getElem? fun i => ?_
        rw [List.getElem?_map, List.getElem?_map]
        by_cases hi : i < ds.length
        · obtain ⟨r, hr, _⟩ := at_ i hi
          rw [hr]
          show _ = some (tripD (untrip (tripD r)))
          rw [untrip_trip]
        · rw [List.getElem?_eq_none (by omega)]
          rfl
      have atR : ∀ i r, (ds.map untrip)[i]? = some r → ds[i]? = some (tripD r) := fun i r hr => by
        rw [eR, List.getElem?_map, hr]
        rfl
      have lt : ∀ {i r}, (ds.map untrip)[i]? = some r → i < ds.length := fun hr => by
        have := (List.getElem?_eq_some_iff.mp hr).1
        rw [List.length_map] at this
        exact this
      have tok : ∀ r ∈ ds.map untrip, TripOk R r := fun r hr => by
        obtain ⟨i, hi⟩ := List.getElem?_of_mem hr
        obtain ⟨r', h1, h2, _⟩ := at_ i (lt hi)
        rw [atR i r hi] at h1
        rw [tripD_inj (Option.some.inj h1)]
        exact h2
      refine ⟨ds.map untrip, eR, ⟨?_, fun r hr => (tok r hr).a, fun r hr => (tok r hr).b, fun r hr => ?_, by rw [List.length_map]; omega⟩⟩
      · refine List.pairwise_map.mpr (List.pairwise_iff_getElem.mpr fun i j hi hj hij e => ?_)
        have hj' : (ds.map untrip)[j]? = some (ds.map untrip)[j] := List.getElem?_eq_getElem hj
        obtain ⟨r2, h1, _, h3⟩ := at_ j (lt hj')
        rw [atR j _ hj'] at h1
        have e2 := tripD_inj (Option.some.inj h1)
        refine h3 i hij (ds.map untrip)[i] (atR i _ (List.getElem?_eq_getElem hi)) ?_
        rw [← e2]
        exact e
      · obtain ⟨i, hi⟩ := List.getElem?_of_mem hr
        by_cases hs : r.2.2 = "sea"
        · exact .inl hs
        · exact .inr (Classical.byContradiction fun z => hn2 i (lt hi) ⟨r, hi, hs, z⟩)
    · rw [e2] at h
      cases h
  · rw [e] at h
    cases h
noncomputable def wrGD (R : List Row) : PyData → Option Int
  | .list ds => wrG R ds
  | _ => some (-1)
theorem wrGD_none {R : List Row} {d : PyData} (h : wrGD R d = none) : ∃ B, d = .list (B.map tripD) ∧ RtOk R B := by
  cases d with
  | list ds =>
    obtain ⟨B, e, b⟩ := wrG_none (show wrG R ds = none from h)
    exact ⟨B, by rw [e], b⟩
  | _ => cases h
theorem wrGD_small {R : List Row} {d : PyData} {i : Int} (h : wrGD R d = some i) : -1 ≤ i ∧ i ≤ 40 := by
  have key : ∀ {n : Nat} {P : Nat → Prop} {j : Nat}, n ≤ 40 → firstP P n = some j → -1 ≤ (j : Int) ∧ (j : Int) ≤ 40 := fun {n P j} hn hj => by
    rcases firstP_is (P := P) (n := n) with ⟨e, _⟩ | ⟨i, hi, e, _⟩
    · rw [hj] at e; cases e
    · rw [hj] at e; cases e; omega
  cases d with
  | list ds =>
    have h : wrG R ds = some i := h
    unfold wrG at h
    split at h
    · cases h; omega
    · rename_i h1
      split at h
      · rename_i j e; cases h; exact key (by omega) e
      · split at h
        · rename_i j e; cases h; exact key (by omega) e
        · cases h
  | _ =>
    cases h
    omega
/-- good rows of rights have no fault -/
theorem wrG_of {R : List Row} {B : List RRow} (g : GoodRows R) (b : RtOk R B) : wrG R (B.map tripD) = none := by
  refine wrG_good ⟨fun r hr => ⟨b.ok r hr, b.inn r hr, (b.last r hr).imp id fun h => course_sub g (b.inn r hr) _ h⟩, b.nd⟩ (by have := b.most; omega) fun j hj z => ?_
  obtain ⟨r, h1, h2, h3⟩ := z
  exact ((b.last r (List.mem_of_getElem? h1)).resolve_left h2 |> fun z => h3 z)
end K0
end
section
set_option Elab.async false
set_option linter.all false
set_option maxRecDepth 100000
set_option maxHeartbeats 4000000
namespace K0
open PySem PySem.Spec PyProof.Rows L2
/-! ### is it a row of rights, of any data -/
/-- is it a weir -/
noncomputable def hasD (R : List Row) (d : PyData) : Bool := pB (∃ y, d = .str y ∧ y ∈ nmsOf R)
def GHasD (Cr : Addr) : Hp → Addr → V → Bool → Prop := fun H p x b => ∃ AR d, RivAt Cr H p AR ∧ Dq H x d ∧ b = hasD (rowsOf AR) d
def spIsTripD (Cr : Addr) : Sp := fun vs H Q _ => ∃ (q : Addr) (v : V) (d : PyData) (m k : Nat) (AR : List (Addr × Row)), vs = [.ref q, v] ∧ RivAt Cr H q AR ∧ Dq H v d ∧ Fit m k d ∧ m ≤ 900 ∧ k ≤ 60 ∧ ∀ H', Same H H' → Q (.bl (pB (∃ r, d = tripD r ∧ TripOk (rowsOf AR) r))) H'
theorem eqv_strD (d : PyData) (x : Str) : PyData.eqv d (.str x) = pB (d = .str x) := by
  by_cases e : d = .str x
  · rw [pB_t e, e]
    simp only [PyData.eqv, beq_self_eq_true]
  · rw [pB_f e]
    cases d with
    | str y =>
      simp only [PyData.eqv]
      exact beq_eq_false_iff_ne.mpr fun z => e (congrArg PyData.str z)
    | _ => simp only [PyData.eqv]
section
variable {P : Program} {w : World} {K : PySem.W.Frag} {mg : Str → Option Value} {base : Heap} {tS tM tL : Tok}
theorem ok_containsD {f Cr : Addr} {fd : FuncData} (F : FnM K "__contains__" "River.__contains__" sContains f fd) (T : Rv K mg Cr) (B : Bl mg) : FnOk P w K mg base CX0 1 f fd ["self", "x"] (spHas (GHasD Cr)) := by
  refine F.ok scContains (fun vs H Q E h => ?_) (fun cdv A outer s H vs Q E hr h => ?_)
  · obtain ⟨p, x, b, rfl, _⟩ := h
    rfl
  · obtain ⟨p, x, b, rfl, ⟨AR, d, R, qd, rfl⟩, k⟩ := h
    have hu := hu_of hr
    refine ⟨_, PSs.nox (pss_one
      (ps_ret (pe_and (pe_callB call_isi (by rfl) B.isinstance (by decide +kernel) (pa_cons (pv 1) (pa_cons (pe_bltn (v := .ty "str") (by rfl) B.str (by decide +kernel) rfl) pa_nil))) (pe_one (pe_cmp (pc_din hu (pv 1) (fldK (K := K) (pv 0) rfl)) rfl))))), ?_⟩
    obtain ⟨dx, tw, tr, db, dc, da, du, o, h1, h2, h3, h4, h5, h6, h7, h8, h9⟩ := R.ex
    cases hS : isS d with
    | true =>
      obtain ⟨y, rfl⟩ : ∃ y, d = .str y := by
        cases d with
        | str y => exact ⟨y, rfl⟩
        | _ => cases hS
      cases qd
      refine ⟨_, rfl, .str y, .ty "str", _, _, true, rfl, .ty "str", .base (.str y), kit_ty (by decide +kernel), true, rfl, iteT ?_⟩
      refine ⟨_, rfl, _, rfl, p, Cr, dx, _, _, rfl, h1, T.cl, T._below, g7b _ _ _ _ _ _ _, ?_⟩
      by_cases hy : y ∈ namesOf AR
      · refine ⟨db, some (.str (lowR (rowsOf AR) y)), rfl, dget_rn (.inl h5) hy, ?_⟩
        have e : hasD (rowsOf AR) (.str y) = true := pB_t ⟨y, rfl, hy⟩
        rw [e] at k
        exact k
      · refine ⟨db, none, rfl, .inl ⟨_, Sum.inr y, .inl h5, rfl, (kmap_not hy).symm⟩, ?_⟩
        have e : hasD (rowsOf AR) (.str y) = false := pB_f fun ⟨z, e, hz⟩ => hy (by cases e; exact hz)
        rw [e] at k
        exact k
    | false =>
      refine ⟨_, rfl, x, .ty "str", _, _, false, rfl, .ty "str", dq_ty qd, by rw [kit_str, hS], false, rfl, iteF ?_⟩
      have e : hasD (rowsOf AR) d = false := pB_f fun ⟨z, e, hz⟩ => by rw [e] at hS; cases hS
      rw [e] at k
      exact k
theorem ok_istripD {f fN Cr : Addr} {fd fdN : FuncData} (F : FnP K "_is_row" sIsRowR f fd) (F_is_name : FnP K "is_name" sIsName fN fdN) (gis_name : mg "is_name" = some (.ref fN)) (M : Sc K Cr) (T : Rv K mg Cr) (B : Bl mg) (C : Gc mg tS tM tL) : FnOk P w K mg base CX0 2 f fd ["river", "entry"] (spIsTripD Cr) := by
  obtain ⟨fC, fdC, FC, hs, hf⟩ := M.has
  have GC : FnOk P w K mg base CX0 1 fC fdC ["self", "x"] (spHas (GHasD Cr)) := ok_containsD FC T B
  have bC : Binds K fdC ["self", "x"] [] := FC.bindsN fun _ _ _ _ _ _ us hl => match us, hl with | [_, _], _ => rfl
  have Gis_name : FnOk P w K mg base CX0 1 fN fdN ["value"] spIsNameD := ok_isnameD F_is_name B C
  have bis_name : Binds K fdN ["value"] [] := F_is_name.bindsN fun _ _ _ _ _ _ us hl => match us, hl with | [_], _ => rfl
  refine F.ok scIsRowR (fun vs H Q E h => ?_) (fun cdv A outer s H vs Q E hr h => ?_)
  · obtain ⟨q, v, d, m, k, AR, rfl, _⟩ := h
    rfl
  · obtain ⟨q, v, d, m, kk, AR, rfl, R, qd, fit, hm, hk, k⟩ := h
    have hris_name : Room 1 _ := hr
    have Fis_name := F_is_name
    have hu64 := hr.units
    refine ⟨_, PSs.nox (pss_cons
      (ps_if (PW.pt (pw_or (pt_not (pt_val (pe_callB call_isi (by rfl) B.isinstance (by decide +kernel) (pa_cons (pv 1) (pa_cons (pe_bltn (v := .ty "tuple") (by rfl) B.tuple (by decide +kernel) rfl) pa_nil))))) (pw_or1 (pt_cmpR op_ne (pe_callB (lenK (K := K)) (by rfl) B.len PySem.boot_len (pa_cons (pv 1) pa_nil)) pe_int (nomark _))))) (pss_one
      (ps_ret pe_bl)) pss_nil)
      (pss_one
      (ps_ret (pe_and (pe_call Gis_name hris_name (by rfl) gis_name Fis_name.kp bis_name .nil pass0 (pa_cons (pe_ix (ixTK (K := K)) (pv 1) pe_int (fun _ _ => rfl)) pa_nil)) (pe_and (pe_cmpR (k0_in_own (K := K) GC hr hs hf bC) (pe_ix (ixTK (K := K)) (pv 1) pe_int (fun _ _ => rfl)) (pv 0) (by rfl)) (pe_one (pe_or (pe_cmpR (op_eqD hu64) (pe_ix (ixTK (K := K)) (pv 1) pe_int (fun _ _ => rfl)) (pe_glob (v := .str "sea") (by rfl) C.SEA ⟨_, rfl⟩) (nomark _)) (pe_one (pe_cmpR (k0_in_own (K := K) GC hr hs hf bC) (pe_ix (ixTK (K := K)) (pv 1) pe_int (fun _ _ => rfl)) (pv 0) (by rfl)))))))))), ?_⟩
    cases hT : isT d with
    | false =>
      have nn : ¬ ∃ r, d = tripD r ∧ TripOk (rowsOf AR) r := fun ⟨y, e, _⟩ => by rw [e] at hT; cases hT
      rw [pB_f nn] at k
      refine ⟨_, rfl, v, .ty "tuple", _, _, false, rfl, .ty "tuple", dq_ty qd, by rw [kit_tuple, hT], _, rfl, ?_⟩
      exact iteT (k _ (.refl _))
    | true =>
      obtain ⟨t, xs, ds, rfl, rfl, ht, hx⟩ := dqT qd hT
      have hlen := hx.len
      obtain ⟨hdl, fds⟩ := fitT fit
      refine ⟨_, rfl, .ref t, .ty "tuple", _, _, true, rfl, .ty "tuple", .base (.tup ht), kit_ty (by decide +kernel), _, rfl, ?_⟩
      refine iteF ?_
      refine ⟨_, rfl, t, _, rfl, .inr (.inl (.inl ht)), rfl, _, rfl, ?_⟩
      rcases Classical.em (¬ xs.length = 3) with h2 | h2
      · have nn : ¬ ∃ r, PyData.tuple ds = tripD r ∧ TripOk (rowsOf AR) r := fun ⟨y, e, _⟩ => by
          unfold tripD at e
          injection e with e
          rw [e] at hlen
          exact h2 hlen
        rw [pB_f nn] at k
        refine iteYes (fun z => h2 (by have := V.int.inj z; omega)) ?_
        exact k _ (.refl _)
      have h2 := Classical.not_not.mp h2
      refine iteNo (fun z => z (congrArg V.int (by omega))) ?_
      obtain ⟨x, y, z, rfl⟩ : ∃ x y z, xs = [x, y, z] := by
        match xs, h2 with
        | [x, y, z], _ => exact ⟨x, y, z, rfl⟩
      obtain ⟨dx, dy, dz, rfl⟩ : ∃ dx dy dz, ds = [dx, dy, dz] := by
        match ds, hlen with
        | [x, y, z], _ => exact ⟨x, y, z, rfl⟩
      obtain ⟨hdx, hdy, hdz⟩ : Dq H x dx ∧ Dq H y dy ∧ Dq H z dz := by
        cases hx with
        | cons a b =>
          cases b with
          | cons b c =>
            cases c with
            | cons c _ => exact ⟨a, b, c⟩
      have fx := fds dx List.mem_cons_self
      have fz := fds dz (List.mem_cons_of_mem _ (List.mem_cons_of_mem _ List.mem_cons_self))
      have hp : (∃ r, PyData.tuple [dx, dy, dz] = tripD r ∧ TripOk (rowsOf AR) r) ↔ nameD dx ∧ (∃ y, dy = .str y ∧ y ∈ namesOf AR) ∧ (dz = .str "sea" ∨ ∃ y, dz = .str y ∧ y ∈ namesOf AR) := by
        constructor
        · rintro ⟨r, e, h⟩
          unfold tripD at e
          injection e with e
          injection e with e1 e
          injection e with e2 e
          injection e with e3
          subst e1 e2 e3
          exact ⟨⟨_, rfl, h.a⟩, ⟨_, rfl, h.b⟩, h.c.imp (fun z => congrArg PyData.str z) fun z => ⟨_, rfl, z⟩⟩
        · rintro ⟨⟨p, rfl, hp⟩, ⟨q, rfl, hq⟩, hs⟩
          rcases hs with rfl | ⟨s, rfl, hs⟩
          · exact ⟨(p, q, "sea"), rfl, hp, hq, .inl rfl⟩
          · exact ⟨(p, q, s), rfl, hp, hq, .inr hs⟩
      have g : ∀ H', Same H H' → SqT K H' t [x, y, z] := fun H' s => .inl (.inl (s _ _ ht))
      refine ⟨_, rfl, t, _, _, _, rfl, rfl, g _ (.refl _), atI_nat (j := 0) rfl, x, dx, m, _, rfl, hdx, fx, hm, fun H1 s1 => ⟨_, rfl, ?_⟩⟩
      rcases Classical.em (¬ nameD dx) with h3 | h3
      · rw [pB_f fun z => h3 (hp.mp z).1] at k
        rw [nameB_f h3]
        exact iteF (k _ s1)
      have h3 := Classical.not_not.mp h3
      rw [nameB_t h3]
      refine iteT ?_
      have R1 := Same.riv s1 R
      obtain ⟨cx, tw, tr, db, dc, da, du, o, i1, _⟩ := id R1.ex
      refine ⟨_, rfl, t, _, _, _, rfl, rfl, g _ s1, atI_nat (j := 1) rfl, _, rfl, q, cx, _, _, rfl, i1, ⟨AR, dy, R1, hdy.same s1, rfl⟩, _, rfl, ?_⟩
      by_cases h4 : ∃ y, dy = .str y ∧ y ∈ namesOf AR
      · have e4 : hasD (rowsOf AR) dy = true := pB_t h4
        rw [e4]
        refine iteT ?_
        refine ⟨_, rfl, t, _, _, _, rfl, rfl, g _ s1, atI_nat (j := 2) rfl, ?_⟩
        refine ⟨_, _, (hdz.same s1).dp, .str _, fz.shaped (by omega), shaped_str sea_plain, _, rfl, ?_⟩
        rw [eqv_strD]
        by_cases h5 : dz = .str "sea"
        · rw [pB_t (hp.mpr ⟨h3, h4, .inl h5⟩)] at k
          rw [pB_t h5]
          exact iteT (k _ s1)
        · rw [pB_f h5]
          refine iteF ?_
          refine ⟨_, rfl, t, _, _, _, rfl, rfl, g _ s1, atI_nat (j := 2) rfl, _, rfl, q, cx, _, _, rfl, i1, ⟨AR, dz, R1, hdz.same s1, rfl⟩, ?_⟩
          have e6 : pB (∃ r, PyData.tuple [dx, dy, dz] = tripD r ∧ TripOk (rowsOf AR) r) = hasD (rowsOf AR) dz := pB_iff ⟨fun z => (hp.mp z).2.2.resolve_left h5, fun z => hp.mpr ⟨h3, h4, .inr z⟩⟩
          rw [e6] at k
          exact k _ s1
      · have e4 : hasD (rowsOf AR) dy = false := pB_f h4
        rw [pB_f fun z => h4 (hp.mp z).2.1] at k
        rw [e4]
        exact iteF (k _ s1)
end
end K0
end
section
set_option Elab.async false
set_option linter.all false
set_option maxRecDepth 100000
set_option maxHeartbeats 4000000
namespace K0
open PySem PySem.Spec PyProof.Rows L2
/-! ### rows of rights that are refused -/
theorem dq_trips {H : Hp} : ∀ {ws : List V} {B : List RRow}, DqAll H ws (B.map tripD) → ∃ BR : List (Addr × RRow), ws = (BR.map fun q => V.ref q.1) ∧ bOf BR = B ∧ ∀ q ∈ BR, H q.1 = some (.tup [.str q.2.1, .str q.2.2.1, .str q.2.2.2])
  | _, [], .nil => ⟨[], rfl, rfl, fun q hq => by cases hq⟩
  | _, r :: R, .cons a b => by
    obtain ⟨AR, e1, e2, e3⟩ := dq_trips b
    obtain ⟨t, xs, _, rfl, ed, ht, hx⟩ := dqT a rfl
    unfold tripD at ed
    injection ed with ed
    subst ed
    obtain rfl : xs = [.str r.1, .str r.2.1, .str r.2.2] := by
      cases hx with
      | cons x1 y1 =>
        cases x1
        cases y1 with
        | cons x2 y2 =>
          cases x2
          cases y2 with
          | cons x3 y3 =>
            cases x3
            cases y3
            rfl
    refine ⟨(t, r) :: AR, by rw [e1]; rfl, by rw [← e2]; rfl, fun q hq => ?_⟩
    rcases List.mem_cons.mp hq with rfl | hq
    · exact ht
    · exact e3 q hq
def spNeedGX (Cr Cn : Addr) : Sp := fun vs H Q E => ∃ (q : Addr) (v : V) (d : PyData) (m k : Nat) (AR : List (Addr × Row)), vs = [.ref q, v] ∧ RivAt Cr H q AR ∧ GoodRows (rowsOf AR) ∧ Dq H v d ∧ Fit m k d ∧ m ≤ 900 ∧ k ≤ 60 ∧
  (∀ i, wrGD (rowsOf AR) d = some i → Tells E Cn i H) ∧ (wrGD (rowsOf AR) d = none → ∀ H', Same H H' → Q .non H')
section
variable {P : Program} {w : World} {K : PySem.W.Frag} {mg : Str → Option Value} {base : Heap} {tS tM tL : Tok}
theorem ok_needGX {f fN fR fI Cr Cn fn : Addr} {fd fdN fdR fdI fdn : FuncData} (F : FnP K "_need_rows" sNeedRowsR f fd) (F_is_name : FnP K "is_name" sIsName fN fdN) (gis_name : mg "is_name" = some (.ref fN))
    (F_is_rowR : FnP K "_is_row" sIsRowR fR fdR) (g_is_rowR : mg "is_row_rights" = some (.ref fR)) (Fis_down : FnM K "is_down" "River.is_down" sIsDown fI fdI) (Mis_down : Meth K Cr "is_down" fI) (D : NdS P w K mg base Cr) (M : Sc K Cr) (T : Rv K mg Cr) (N : NpG P K mg Cn fn fdn) (B : Bl mg) (C : Gc mg tS tM tL) :
    FnOk P w K mg base (L2.CX P w) 4 f fd ["river", "rows"] (spNeedGX Cr Cn) := by
  have G_is_rowR : FnOk P w K mg base CX0 2 fR fdR ["river", "entry"] (spIsTripD Cr) := ok_istripD F_is_rowR F_is_name gis_name M T B C
  have b_is_rowR : Binds K fdR ["river", "entry"] [] := F_is_rowR.bindsN fun _ _ _ _ _ _ us hl => match us, hl with | [_, _], _ => rfl
  have Gis_down : FnOk P w K mg base CX0 3 fI fdI ["self", "high", "low"] (spDownS Cr) := ok_isdownS Fis_down D T
  have bis_down : Binds K fdI ["self", "high", "low"] [] := Fis_down.bindsN fun _ _ _ _ _ _ us hl => match us, hl with | [_, _, _], _ => rfl
  have Gn : FnOk P w K mg base CX0 1 fn fdn ["self", "place"] (spSupI K Cn) := ok_notrights N
  have bn : Binds K fdn ["self", "place"] [] := binds_np N fun _ _ _ _ _ us hl => match us, hl with | [_, _], _ => rfl
  refine F.ok scNeedRowsR (fun vs H Q E h => ?_) (fun cdv A outer s H vs Q E hr h => ?_)
  · obtain ⟨q, v, d, m, k, AR, rfl, _⟩ := h
    rfl
  · obtain ⟨q, v, d, m, kk, AR, rfl, R, hG, hd, fit, hm, hk, kE, kQ⟩ := h
    have hu := hu_of hr
    have hr_is_rowR : Room 2 _ := hr.mono (by decide)
    have hris_down : Room 3 _ := hr
    have hrn : Room 2 _ := hr.mono (by decide)
    refine ⟨_, (pss_cons
      (ps_if (PW.pt (pw_or (pt_not (pt_val (pe_callB call_isi (by rfl) B.isinstance (by decide +kernel) (pa_cons (pv 1) (pa_cons (pe_bltn (v := .ty "list") (by rfl) B.list (by decide +kernel) rfl) pa_nil))))) (pw_or1 (pt_cmpR op_gt (pe_callB (lenK (K := K)) (by rfl) B.len PySem.boot_len (pa_cons (pv 1) pa_nil)) (pe_glob (v := .int 40) (by rfl) C.MOST_ROWS ⟨_, rfl⟩) (nomark _))))) (pss_one
      (ps_raise rfl (takes_of rfl rfl rfl rfl) (pmk_oex N.S.exc N.iC N.tI Gn hrn bn .nil (fun _ _ _ _ _ _ _ h => h.elim) (by rfl) N.mgN (pa_cons (pe_un un_neg pe_int) pa_nil)))) pss_nil)
      (pss_cons
      (ps_set (i := 2) scNeedRowsR.nd rfl (Or.inl rfl) pe_dnewK)
      (pss_cons
      (ps_for (passes_of rfl) rfl (pi_enum (by rfl) B.enumerate (pa_cons (pv 1) pa_nil)) (tgK (K := K) (n := 2) (by rfl) (pgs_cons (pg_name (i := 3) scNeedRowsR.nd rfl (Or.inl rfl)) (pgs_cons (pg_name (i := 4) scNeedRowsR.nd rfl (Or.inl rfl)) pgs_nil))) (pss_cons
      (ps_if (PW.pt (pw_or (pt_not (pt_val (pe_call G_is_rowR hr_is_rowR (by rfl) g_is_rowR F_is_rowR.kp b_is_rowR .nil pass0 (pa_cons (pv 0) (pa_cons (pv 4) pa_nil))))) (pw_or1 (pt_cmp (pc_din hu (pe_ix (ixTK (K := K)) (pv 4) pe_int (fun _ _ => rfl)) (pv 2)))))) (pss_one
      (ps_raise rfl (takes_of rfl rfl rfl rfl) (pmk_oex N.S.exc N.iC N.tI Gn hrn bn .nil (fun _ _ _ _ _ _ _ h => h.elim) (by rfl) N.mgN (pa_cons (pv 3) pa_nil)))) pss_nil)
      (pss_one
      (ps_dput hu (pv 2) (pe_ix (ixTK (K := K)) (pv 4) pe_int (fun _ _ => rfl)) pe_bl rfl))))
      (pss_one
      (ps_for (passes_of rfl) rfl (pi_enum (by rfl) B.enumerate (pa_cons (pv 1) pa_nil)) (tgK (K := K) (n := 2) (by rfl) (pgs_cons (pg_name (i := 3) scNeedRowsR.nd rfl (Or.inl rfl)) (pgs_cons (tgK (K := K) (n := 3) (by rfl) (pgs_cons (pg_name (i := 5) scNeedRowsR.nd rfl (Or.inl rfl)) (pgs_cons (pg_name (i := 6) scNeedRowsR.nd rfl (Or.inl rfl)) (pgs_cons (pg_name (i := 7) scNeedRowsR.nd rfl (Or.inl rfl)) pgs_nil)))) pgs_nil))) (pss_one
      (ps_if (PW.pt (pw_and (pt_cmpR op_ne (pv 7) (pe_glob (v := .str "sea") (by rfl) C.SEA ⟨_, rfl⟩) (nomark _)) (pw_and1 (pt_not (pt_val (pe_meth (pv 0) T.cl Mis_down Gis_down hris_down bis_down .nil pass0 (pa_cons (pv 6) (pa_cons (pv 7) pa_nil)))))))) (pss_one
      (ps_raise rfl (takes_of rfl rfl rfl rfl) (pmk_oex N.S.exc N.iC N.tI Gn hrn bn .nil (fun _ _ _ _ _ _ _ h => h.elim) (by rfl) N.mgN (pa_cons (pv 3) pa_nil)))) pss_nil))))))), ?_⟩
    have sm := fun {i : Int} (h : wrGD (rowsOf AR) d = some i) => wrGD_small h
    cases hL : isL d with
    | false =>
      have e : wrGD (rowsOf AR) d = some (-1) := by
        cases d with
        | list ds => cases hL
        | _ => rfl
      refine ⟨_, rfl, v, .ty "list", _, _, false, rfl, .ty "list", dq_ty hd, by rw [kit_list, hL], _, rfl, ?_⟩
      refine iteT ?_
      refine ⟨1, rfl, by show 1 ≤ 1000; decide, fun a na => ⟨a, _, rfl, upd_same, (sm e).1, (sm e).2, fun dx n1 n2 => ⟨rfl, dx, [(("place" : Str), V.int (-1))], upd_same, ?_, ?_, ?_⟩⟩⟩
      · rw [upd_ne n2, upd_same]
      · rw [upd_ne n2] at n1
        exact n1
      · exact told_np (kE _ e) na n1 n2
    | true =>
      obtain ⟨l, ws, ds, rfl, rfl, hl, hw⟩ := dqL hd hL
      obtain ⟨hdl, fds⟩ : ds.length ≤ m ∧ ∀ d ∈ ds, Fit m kk d := by
        cases fit with
        | lst _ h z => exact ⟨z, fun d hd => (h d hd).mono (Nat.le_refl _) (Nat.le_succ _)⟩
      have hwl := hw.len
      refine ⟨_, rfl, .ref l, .ty "list", _, _, true, rfl, .ty "list", .base (.lst hl), kit_ty (by decide +kernel), _, rfl, ?_⟩
      refine iteF ?_
      refine ⟨_, rfl, l, _, rfl, .inl (.inl (.inl hl)), _, _, rfl, rfl, _, rfl, ?_⟩
      rcases Classical.em (40 < ds.length) with h40 | h40
      · have e : wrGD (rowsOf AR) (.list ds) = some (-1) := wrG_len h40
        refine iteD (by omega) ?_
        refine ⟨1, rfl, by show 1 ≤ 1000; decide, fun a na => ⟨a, _, rfl, upd_same, (sm e).1, (sm e).2, fun dx n1 n2 => ⟨rfl, dx, [(("place" : Str), V.int (-1))], upd_same, ?_, ?_, ?_⟩⟩⟩
        · rw [upd_ne n2, upd_same]
        · rw [upd_ne n2] at n1
          exact n1
        · exact told_np (kE _ e) na n1 n2
      refine iteDn (by omega) ?_
      intro D hD
      have s0 : Same H (upd H D (.dK [])) := same_upd hD
      -- the rows one by one
      refine ⟨_, rfl, l, _, rfl, s0.seq (.inl (.inl hl)), ?_⟩
      refine for_it (walk_enum (xs := ws)) (fun i σ H2 => ∃ (v3 v4 : Option V), σ = [some (.ref q), some (.ref l), some (.ref D), v3, v4, none, none, none] ∧ Same H H2 ∧ ∃ BB, ds.take i = BB.map tripD ∧ TripsOk (rowsOf AR) BB ∧ H2 D = some (.dK (kmap (fun _ => .bl true) (rnm BB))))
        ⟨_, _, rfl, s0, [], by rw [List.take_zero]; rfl, ⟨(fun r hr => nomatch hr), List.Pairwise.nil⟩, upd_same⟩ (fun _ _ _ _ h => by obtain ⟨_, _, _, s, _⟩ := h; exact .inl (.inl (s _ _ hl))) ?_ ?_
      · rintro i x σ H2 H3 hi ⟨v3, v4, rfl, s2, BB, eR, hR, hD2⟩ ⟨Tt, x1, x2, rfl, hT, rfl, e1, e2⟩
        obtain rfl : V.int (i : Int) = x1 := Option.some.inj e1
        have hid : i < ds.length := by omega
        obtain ⟨d, hdi, qd⟩ := hw.at_ e2
        have s3 : Same H (upd H2 Tt (.tup [.int (i : Int), x2])) := s2.trans (same_upd hT)
        have hD3 : (upd H2 Tt (.tup [.int (i : Int), x2])) D = some (.dK (kmap (fun _ => .bl true) (rnm BB))) := by
          rw [upd_ne (ne_of_none hD2 hT)]
          exact hD2
        refine ⟨Tt, _, rfl, .inl (.inl upd_same), rfl, _, _, rfl, _, _, rfl, rfl, ?_⟩
        generalize upd H2 Tt (.tup [.int (i : Int), x2]) = H3 at s3 hD3
        have hRi : BB.length = i := by
          have := congrArg List.length eR
          rw [List.length_take, List.length_map] at this
          omega
        refine ⟨_, rfl, _, rfl, q, x2, d, m, kk, AR, rfl, Same.riv s3 R, qd.same s3, fds d (List.mem_of_getElem? hdi), hm, hk, fun H4 s4 => ⟨_, rfl, ?_⟩⟩
        have s34 := s3.trans s4
        have hD4 := s4 _ _ hD3
        have bad : (¬ ∃ r, ds[i]? = some (tripD r) ∧ TripOk (rowsOf AR) r ∧ ∀ r' ∈ BB, r'.1 ≠ r.1) → wrGD (rowsOf AR) (.list ds) = some (i : Int) := fun h => wrG_row h40 hid eR hR h
        rcases Classical.em (¬ ∃ r, d = tripD r ∧ TripOk (rowsOf AR) r) with hp | hp
        · rw [pB_f hp]
          refine iteT ?_
          have e := bad (by
            rintro ⟨r', h1, h2, _⟩
            rw [hdi] at h1
            exact hp ⟨r', Option.some.inj h1, h2⟩)
          refine ⟨_, rfl, by show 1 ≤ 1000; decide, fun a na => ⟨a, _, rfl, upd_same, (sm e).1, (sm e).2, fun dx n1 n2 => ⟨rfl, dx, [(("place" : Str), V.int (i : Int))], upd_same, ?_, ?_, ?_⟩⟩⟩
          · rw [upd_ne n2, upd_same]
          · rw [upd_ne n2] at n1
            exact n1
          · exact told_np ((kE _ e).same s34) na n1 n2
        have hp := Classical.not_not.mp hp
        rw [pB_t hp]
        refine iteF ?_
        obtain ⟨r, rfl, hrok⟩ := hp
        obtain ⟨BR1, e1', e2', ht'⟩ := dq_trips (H := H) (ws := [x2]) (B := [r]) (.cons qd .nil)
        obtain ⟨t, rfl, ht⟩ : ∃ t, x2 = .ref t ∧ H t = some (.tup [.str r.1, .str r.2.1, .str r.2.2]) := by
          match BR1, e1', e2', ht' with
          | [z], e1', e2', ht' =>
            injection e1' with e1' _
            injection e2' with e2' _
            subst e2'
            exact ⟨z.1, e1', ht' z List.mem_cons_self⟩
        have ht4 : SqT K H4 t [.str r.1, .str r.2.1, .str r.2.2] := .inl (.inl (s34 _ _ ht))
        refine ⟨_, rfl, t, _, _, _, rfl, rfl, ht4, atI_nat (j := 0) rfl, _, rfl, D, _, rfl, DGet.k (k := Sum.inr r.1) hD4, _, rfl, ?_⟩
        by_cases hin : r.1 ∈ rnm BB
        · rw [kmap_at hin]
          refine iteT ?_
          have e := bad (by
            rintro ⟨r', h1, _, h3⟩
            rw [hdi] at h1
            obtain rfl := tripD_inj (Option.some.inj h1)
            obtain ⟨y, hy, ey⟩ := List.mem_map.mp hin
            exact h3 y hy ey)
          refine ⟨_, rfl, by show 1 ≤ 1000; decide, fun a na => ⟨a, _, rfl, upd_same, (sm e).1, (sm e).2, fun dx n1 n2 => ⟨rfl, dx, [(("place" : Str), V.int (i : Int))], upd_same, ?_, ?_, ?_⟩⟩⟩
          · rw [upd_ne n2, upd_same]
          · rw [upd_ne n2] at n1
            exact n1
          · exact told_np ((kE _ e).same s34) na n1 n2
        rw [kmap_not hin]
        refine iteF ?_
        refine ⟨_, rfl, _, rfl, t, _, _, _, rfl, rfl, ht4, atI_nat (j := 0) rfl, D, _, rfl, DPut.k (k := Sum.inr r.1) hD4 ?_, ?_⟩
        · rw [kmap_len, List.length_map]
          exact small1000 (by omega)
        · refine ⟨_, _, rfl, fun b o hb => ?_, BB ++ [r], by rw [List.take_add_one, hdi, eR, List.map_append]; rfl, ⟨fun y hy => ?_, ?_⟩, ?_⟩
          · rw [upd_ne (ne_of_none hb hD)]
            exact s34 b o hb
          · rcases List.mem_append.mp hy with hy | hy
            · exact hR.ok y hy
            · rw [List.mem_singleton.mp hy]; exact hrok
          · show ((BB ++ [r]).map (·.1)).Nodup
            rw [List.map_append]
            refine List.nodup_append.mpr ⟨hR.nd, by simp, fun a ha c hc e2 => ?_⟩
            rw [List.map_cons, List.map_nil] at hc
            rw [e2, List.mem_singleton.mp hc] at ha
            exact hin ha
          · have e := kmap_put (f := fun _ => V.bl true) hin
            rw [upd_same, e]
            show some (HO.dK (kmap (fun _ => V.bl true) (rnm BB ++ [r.1]))) = some (HO.dK (kmap (fun _ => V.bl true) ((BB ++ [r]).map (·.1))))
            rw [List.map_append]
            rfl
      rintro σ H2 ⟨v3, v4, rfl, s2, BB, eR, hR, hD2⟩
      rw [hwl, List.take_length] at eR
      subst eR
      rw [List.length_map] at h40
      obtain ⟨BR, rfl, eA, hA⟩ := dq_trips hw
      subst eA
      have hAl : (bOf BR).length = BR.length := List.length_map _
      refine ⟨_, rfl, l, _, rfl, .inl (.inl (s2 _ _ hl)), ?_⟩
      refine for_it (walk_enum (xs := BR.map fun q => V.ref q.1)) (fun i σ H3 => ∃ (v3 v4 v5 v6 v7 : Option V), σ = [some (.ref q), some (.ref l), some (.ref D), v3, v4, v5, v6, v7] ∧ Same H2 H3 ∧ ∀ j, j < i → ¬ upBad (rowsOf AR) (bOf BR) j)
        ⟨_, _, _, _, _, rfl, .refl _, fun j hj => absurd hj (Nat.not_lt_zero j)⟩ (fun _ _ _ _ h => by obtain ⟨_, _, _, _, _, _, s, _⟩ := h; exact .inl (.inl (s _ _ (s2 _ _ hl)))) ?_ ?_
      · rintro i x σ H3 H4 hi ⟨v3, v4, v5, v6, v7, rfl, s3, hn⟩ ⟨Tt, x1, x2, rfl, hT, rfl, e1, e2⟩
        obtain rfl : V.int (i : Int) = x1 := Option.some.inj e1
        rw [List.length_map] at hi
        have hx2 : x2 = .ref BR[i].1 := brow_at e2 hi
        subst hx2
        have hmem : BR[i] ∈ BR := List.getElem_mem hi
        have hrow : BR[i].2 ∈ bOf BR := List.mem_map.mpr ⟨_, hmem, rfl⟩
        have hat : (bOf BR)[i]? = some BR[i].2 := by
          show (BR.map (·.2))[i]? = _
          rw [List.getElem?_map, List.getElem?_eq_getElem hi]
          rfl
        have s4 : Same H2 (upd H3 Tt (.tup [.int (i : Int), .ref BR[i].1])) := s3.trans (same_upd hT)
        have ht4 : SqT K (upd H3 Tt (.tup [.int (i : Int), .ref BR[i].1])) BR[i].1 [.str BR[i].2.1, .str BR[i].2.2.1, .str BR[i].2.2.2] := .inl (.inl (s4 _ _ (s2 _ _ (hA _ hmem))))
        refine ⟨Tt, _, rfl, .inl (.inl upd_same), rfl, _, _, rfl, _, _, rfl, _, _, rfl, ht4, rfl, _, _, rfl, _, _, rfl, _, _, rfl, rfl, rfl, ?_⟩
        generalize upd H3 Tt (.tup [.int (i : Int), .ref BR[i].1]) = H4 at s4 ht4
        have s24 := s2.trans s4
        have more : ¬ upBad (rowsOf AR) (bOf BR) i → ∀ j, j < i + 1 → ¬ upBad (rowsOf AR) (bOf BR) j := fun h j hj => by
          by_cases ej : j = i
          · subst ej
            exact h
          · exact hn j (by omega)
        refine ⟨_, rfl, rfl, _, rfl, ?_⟩
        by_cases hs : BR[i].2.2.2 = "sea"
        · refine iteNo (fun z => z (congrArg V.str hs)) ?_
          refine ⟨_, _, _, _, _, rfl, s4, more ?_⟩
          rintro ⟨r', h1, h2, _⟩
          rw [hat] at h1
          cases h1
          exact h2 hs
        refine iteYes (fun z => hs (V.str.inj z)) ?_
        have hok := hR.ok _ hrow
        have R4 : RivAt Cr H4 q AR := Same.riv s24 R
        obtain ⟨dx, tw, tr, db, dc, da, du, o, i1, _⟩ := id R4.ex
        refine ⟨_, rfl, q, dx, _, rfl, i1, g7no _ _ _ _ _ _ _ (by decide +kernel) (by decide +kernel) (by decide +kernel) (by decide +kernel) (by decide +kernel) (by decide +kernel) (by decide +kernel), _, rfl, _, rfl, q, _, _, AR, rfl, R4, hok.b, hok.c.resolve_left hs, ?_⟩
        by_cases hin : BR[i].2.2.2 ∈ course (rowsOf AR) BR[i].2.2.1
        · rw [decide_eq_true hin]
          refine ⟨_, rfl, iteF ?_⟩
          refine ⟨_, _, _, _, _, rfl, s4, more ?_⟩
          rintro ⟨r', h1, _, h3⟩
          rw [hat] at h1
          cases h1
          exact h3 hin
        · rw [decide_eq_false hin]
          refine ⟨_, rfl, iteT ?_⟩
          have e : wrGD (rowsOf AR) (.list ((bOf BR).map tripD)) = some (i : Int) := wrG_up hR h40 (by omega) ⟨_, hat, hs, hin⟩ hn
          refine ⟨_, rfl, by show 1 ≤ 1000; decide, fun a na => ⟨a, _, rfl, upd_same, (sm e).1, (sm e).2, fun dx n1 n2 => ⟨rfl, dx, [(("place" : Str), V.int (i : Int))], upd_same, ?_, ?_, ?_⟩⟩⟩
          · rw [upd_ne n2, upd_same]
          · rw [upd_ne n2] at n1
            exact n1
          · exact told_np ((kE _ e).same s24) na n1 n2
      rintro σ H3 ⟨v3, v4, v5, v6, v7, rfl, s3, hn⟩
      rw [List.length_map, ← hAl] at hn
      exact kQ (wrG_good hR h40 hn) H3 (s2.trans s3)
end
end K0
end
section
set_option Elab.async false
set_option linter.all false
set_option maxRecDepth 100000
set_option maxHeartbeats 4000000
namespace K0
open PySem PySem.Spec PyProof.Rows L2
/-! ### rights made of any value, joined, len -/
def spGInit2 (Cg Cr Cn : Addr) : Sp := fun vs H Q E => ∃ (p q dx : Addr) (v : V) (d : PyData) (m k : Nat) (AR : List (Addr × Row)), vs = [.ref p, .ref q, v] ∧ H p = some (.ins Cg dx []) ∧ RivAt Cr H q AR ∧ GoodRows (rowsOf AR) ∧ Dq H v d ∧ Fit m k d ∧ m ≤ 900 ∧ k ≤ 60 ∧
  (∀ i, wrGD (rowsOf AR) d = some i → TellsU E Cn p i H) ∧ (wrGD (rowsOf AR) d = none → ∀ H', Upto p H H' → Q .non H')
def spGInitX (Cg Cr Cn : Addr) : Sp := fun vs H Q E => ∃ (p q dx : Addr) (v : V) (d : PyData) (m k : Nat) (i : Int) (AR : List (Addr × Row)), vs = [.ref p, .ref q, v] ∧ H p = some (.ins Cg dx []) ∧ RivAt Cr H q AR ∧ GoodRows (rowsOf AR) ∧ Dq H v d ∧ Fit m k d ∧ m ≤ 900 ∧ k ≤ 60 ∧ wrGD (rowsOf AR) d = some i ∧ TellsU E Cn p i H
/-- row by row -/
theorem fit_trip {R : List Row} (g : GoodRows R) {r : RRow} (a : NameOk r.1) (b : r.2.1 ∈ nmsOf R) (c : r.2.2 = "sea" ∨ r.2.2 ∈ nmsOf R) : Fit 41 1 (tripD r) := by
  have st : ∀ {y : Str}, NameOk y → Fit 41 0 (.str y) := fun h => .str _ (name_plain h) (by have := h.most; omega)
  unfold tripD
  refine .tup _ (fun d hd => ?_) (by show 3 ≤ 41; omega)
  rcases List.mem_cons.mp hd with rfl | hd
  · exact st a
  rcases List.mem_cons.mp hd with rfl | hd
  · exact st (g.nm.ok _ b)
  rw [List.mem_singleton.mp hd]
  rcases c with e | c
  · rw [e]
    exact .str _ sea_plain (by decide +kernel)
  · exact st (g.nm.ok _ c)
theorem trips_dq {H : Hp} : ∀ {BR : List (Addr × RRow)}, (∀ q ∈ BR, H q.1 = some (.tup [.str q.2.1, .str q.2.2.1, .str q.2.2.2])) → DqAll H (BR.map fun q => V.ref q.1) ((bOf BR).map tripD)
  | [], _ => .nil
  | q :: r, h => .cons (.tup (h q List.mem_cons_self) (.cons (.str _) (.cons (.str _) (.cons (.str _) .nil)))) (trips_dq fun z hz => h z (List.mem_cons_of_mem _ hz))
abbrev sGLen : Stmt := inClass sRights 2
theorem scGLen : FnScope ["self"] ["self"] (defScope sGLen) := ⟨rfl, rfl, rfl, by decide +kernel, rfl, by decide +kernel, by decide +kernel⟩
abbrev GLenG (Cg Cr : Addr) : Hp → Addr → Nat → Prop := fun H p n => ∃ q AR BR, RigOk Cg Cr H p q AR BR ∧ n = (rnm (bOf BR)).length
structure Ln (K : PySem.W.Frag) (Cg : Addr) : Prop where
  ex : ∃ f fd, FnM K "__len__" "Rights.__len__" sGLen f fd ∧ PySem.W.findIn K (.ref Cg) "__len__" = some (some (.ref f)) ∧ PySem.W.isFn K (.ref f) = true
abbrev sGJoined : Stmt := inClass sRights 17
section
variable {P : Program} {w : World} {K : PySem.W.Frag} {mg : Str → Option Value} {base : Heap} {tS tM tL : Tok}
theorem ok_ginit2 {f Cg Cr Cn fn : Addr} {fd fdn : FuncData} (F : FnM K "__init__" "Rights.__init__" sGInit f fd) (G : Mg P w K mg base Cg Cr) (TG : Rg K mg Cg) (T : Rv K mg Cr) (N : NpG P K mg Cn fn fdn) (B : Bl mg) (C : Gc mg tS tM tL) : FnOk P w K mg base (L2.CX P w) 5 f fd ["self", "river", "rows"] (spGInit2 Cg Cr Cn) := by
  obtain ⟨a1, d1, F1, m1⟩ := id G.isName
  obtain ⟨a2, d2, F2, m2⟩ := id G.isRow
  obtain ⟨a3, d3, F_need_rowsR, g_need_rowsR⟩ := id G.needRows
  obtain ⟨a4, d4, F4, m4⟩ := id G.isDown
  have G_need_rowsR : FnOk P w K mg base (L2.CX P w) 4 a3 d3 ["river", "rows"] (spNeedGX Cr Cn) := ok_needGX F_need_rowsR F1 m1 F2 m2 F4 m4 G.D G.M T N B C
  have b_need_rowsR : Binds K d3 ["river", "rows"] [] := F_need_rowsR.bindsN fun _ _ _ _ _ _ us hl => match us, hl with | [_, _], _ => rfl
  have GX : FnOk P w K mg base (L2.CX P w) 5 f fd ["self", "river", "rows"] (spGInitX Cg Cr Cn) := by
    refine F.ok scGInit (fun vs H Q E h => ?_) (fun cdv A outer s H vs Q E hr h => ?_)
    · obtain ⟨p, q, dx, v, d, m, k, i, AR, rfl, _⟩ := h
      rfl
    · obtain ⟨p, q, dx, v, d, m, kk, i, AR, rfl, hp, R, hG, qd, fit, hm, hk, hi, kE⟩ := h
      have hr_need_rowsR : Room 4 _ := hr
      refine ⟨_, (pss_cons
        (ps_expr (pe_callS G_need_rowsR hr_need_rowsR (by rfl) g_need_rowsR F_need_rowsR.kp b_need_rowsR (fun σ => passAt (takes_of rfl rfl rfl rfl) σ) (pa_cons (pv 1) (pa_cons (pv 2) pa_nil))))
        pss_stop), ?_⟩
      refine ⟨_, rfl, _, rfl, q, v, d, m, kk, AR, rfl, R, hG, qd, fit, hm, hk, fun j hj => ?_, fun hn => ?_⟩
      · rw [hi] at hj
        cases hj
        exact kE.at_ Upto.refl
      · rw [hi] at hn
        cases hn
  have G2 : FnOk P w K mg base CX0 5 f fd ["self", "river", "rows"] (spGInit Cg Cr) := ok_ginit F G TG T B C
  refine (GX.or (FnOk.of0 G2)).imp fun vs H Q E h => ?_
  obtain ⟨p, q, dx, v, d, m, k, AR, rfl, hp, R, hG, qd, fit, hm, hk, kE, kQ⟩ := h
  cases e : wrGD (rowsOf AR) d with
  | some i => exact .inl ⟨p, q, dx, v, d, m, k, i, AR, rfl, hp, R, hG, qd, fit, hm, hk, e, kE i e⟩
  | none =>
    obtain ⟨BB, rfl, b⟩ := wrGD_none e
    obtain ⟨l, ws, ds, rfl, ed, hl0, hw⟩ := dqL qd rfl
    injection ed with ed
    subst ed
    obtain ⟨BR, rfl, eA, hA⟩ := dq_trips hw
    subst eA
    exact .inr ⟨p, q, l, dx, AR, BR, rfl, hp, R, hG, ⟨hl0, hA⟩, b, fun H' u _ => kQ e H' u⟩
end
end K0
end
section
set_option Elab.async false
set_option linter.all false
set_option maxRecDepth 100000
set_option maxHeartbeats 4000000
namespace K0
open PySem PySem.Spec PyProof.Rows L2
/-! ### is it a row of rights, by the law -/
abbrev scLIsRight_N : List Str := ["_law_weirs", "_law_entry", "_law_earlier", "_law_one"]
abbrev scLIsRight_S : Stmt := sLIsRight
theorem scLIsRight : FnScope scLIsRight_N ["_law_weirs", "_law_entry", "_law_earlier"] (defScope sLIsRight) := ⟨rfl, rfl, rfl, by decide +kernel, rfl, by decide +kernel, by decide +kernel⟩
theorem eqv_strD' (d : PyData) (x : Str) : PyData.eqv (.str x) d = pB (d = .str x) := by
  by_cases e : d = .str x
  · rw [pB_t e, e]
    simp only [PyData.eqv, beq_self_eq_true]
  · rw [pB_f e]
    cases d with
    | str y =>
      simp only [PyData.eqv]
      exact beq_eq_false_iff_ne.mpr fun z => e (congrArg PyData.str z.symm)
    | _ => simp only [PyData.eqv]
theorem any_hasD (R : List Row) (d : PyData) : (((nmsOf R).map PyData.str).any fun z => PyData.eqv z d) = hasD R d := by
  by_cases h : ∃ y, d = .str y ∧ y ∈ nmsOf R
  · obtain ⟨y, e, hy⟩ := id h
    rw [show hasD R d = true from pB_t h, List.any_eq_true]
    exact ⟨.str y, List.mem_map.mpr ⟨y, hy, rfl⟩, by rw [eqv_strD']; exact pB_t e⟩
  · rw [show hasD R d = false from pB_f h, List.any_eq_false]
    intro z hz e
    obtain ⟨y, hy, rfl⟩ := List.mem_map.mp hz
    rw [eqv_strD'] at e
    exact h ⟨y, pB_true e, hy⟩
def spIsTrip : Sp := fun vs H Q _ => ∃ (wl : Addr) (R : List Row) (v : V) (d : PyData) (m k : Nat) (l : Addr) (ws : List V) (B : List RRow), vs = [.ref wl, v, .ref l] ∧ H wl = some (.lst ((nmsOf R).map V.str)) ∧ GoodRows R ∧ Dq H v d ∧ Fit m k d ∧ m ≤ 900 ∧ k ≤ 60 ∧ H l = some (.lst ws) ∧ DqAll H ws (B.map tripD) ∧ B.length ≤ 900 ∧
  ∀ H', Same H H' → Q (.bl (pB (∃ r, d = tripD r ∧ TripOk R r ∧ ∀ r' ∈ B, r'.1 ≠ r.1))) H'
section
variable {P : Program} {w : World} {K : PySem.W.Frag} {mg : Str → Option Value} {base : Heap} {tS tM tL : Tok}
theorem ok_listrip {f fN : Addr} {fd fdN : FuncData} (F : FnP K "_law_is_right" sLIsRight f fd) (F_law_is_name : FnP K "_law_is_name" sLIsName fN fdN) (g_law_is_name : mg "_law_is_name" = some (.ref fN)) (B : Bl mg) : FnOk P w K mg base CX0 2 f fd ["_law_weirs", "_law_entry", "_law_earlier"] spIsTrip := by
  have G_law_is_name : FnOk P w K mg base CX0 1 fN fdN ["_law_word"] spIsNameD := ok_lisname F_law_is_name B
  have b_law_is_name : Binds K fdN ["_law_word"] [] := F_law_is_name.bindsN fun _ _ _ _ _ _ us hl => match us, hl with | [_], _ => rfl
  refine F.ok scLIsRight (fun vs H Q E h => ?_) (fun cdv A outer s H vs Q E hr h => ?_)
  · obtain ⟨wl, R, v, d, m, k, l, ws, BB, rfl, _⟩ := h
    rfl
  · obtain ⟨wl, R, v, d, m, kk, l, ws, BB, rfl, hwl, hG, hd, fit, hm, hk, hl, hw, hRl, k⟩ := h
    have hr_law_is_name : Room 1 _ := hr.mono (by decide)
    have hu64 := hr.units
    have hu65 : (A.deeper (envOfC "_law_is_right" (defScope sLIsRight) s.heap.objs.size f cdv)).units + 65 < cLine := by
      have := hr.un
      omega
    refine ⟨_, PSs.nox (pss_cons
      (ps_if (PW.pt (pw_or (pt_not (pt_val (pe_callB call_isi (by rfl) B.isinstance (by decide +kernel) (pa_cons (pv 1) (pa_cons (pe_bltn (v := .ty "tuple") (by rfl) B.tuple (by decide +kernel) rfl) pa_nil))))) (pw_or (pt_cmpR op_ne (pe_callB (lenK (K := K)) (by rfl) B.len PySem.boot_len (pa_cons (pv 1) pa_nil)) pe_int (nomark _)) (pw_or1 (pt_not (pt_val (pe_call G_law_is_name hr_law_is_name (by rfl) g_law_is_name F_law_is_name.kp b_law_is_name .nil pass0 (pa_cons (pe_ix (ixTK (K := K)) (pv 1) pe_int (fun _ _ => rfl)) pa_nil)))))))) (pss_one
      (ps_ret pe_bl)) pss_nil)
      (pss_cons
      (ps_if (PW.pt (pw_or (pt_val (pe_callB (anyK (K := K) rfl) (by rfl) B.any (by decide +kernel) (pa_cons (pe_lc (own := [("_law_one", 3)]) (g := gName 3) (tt := tYes) (by rfl) scLIsRight.nd (pi_list (pv 2)) (blkOk_by (own := [("_law_one", 3)]) (N := scLIsRight_N) (sc := defScope scLIsRight_S) (by decide +kernel)) (fun _ _ _ _ _ => (pg_name (i := 3) scLIsRight.nd rfl (Or.inl rfl))) (fun _ _ _ _ _ => pts_nil) (fun _ _ _ _ _ => (pe_cmpR op_eq (pe_ix (ixTK (K := K)) (pv 3) pe_int (fun _ _ => rfl)) (pe_ix (ixTK (K := K)) (pv 1) pe_int (fun _ _ => rfl)) (nomark _)))) pa_nil))) (pw_or1 (pt_cmpR (op_notInD hu65) (pe_ix (ixTK (K := K)) (pv 1) pe_int (fun _ _ => rfl)) (pv 0) (by rfl))))) (pss_one
      (ps_ret pe_bl)) pss_nil)
      (pss_one
      (ps_ret (pe_or (pe_cmpR (op_eqD hu64) (pe_ix (ixTK (K := K)) (pv 1) pe_int (fun _ _ => rfl)) pe_str (nomark _)) (pe_one (pe_cmpR (op_inD hu65) (pe_ix (ixTK (K := K)) (pv 1) pe_int (fun _ _ => rfl)) (pv 0) (by rfl)))))))), ?_⟩
    cases hT : isT d with
    | false =>
      have nn : ¬ ∃ r, d = tripD r ∧ TripOk R r ∧ ∀ r' ∈ BB, r'.1 ≠ r.1 := fun ⟨y, e, _⟩ => by rw [e] at hT; cases hT
      rw [pB_f nn] at k
      refine ⟨_, rfl, v, .ty "tuple", _, _, false, rfl, .ty "tuple", dq_ty hd, by rw [kit_tuple, hT], _, rfl, ?_⟩
      exact iteT (k _ (.refl _))
    | true =>
      obtain ⟨a, xs, ds, rfl, rfl, ha, hx⟩ := dqT hd hT
      have hlen := hx.len
      obtain ⟨hdl, fds⟩ := fitT fit
      refine ⟨_, rfl, .ref a, .ty "tuple", _, _, true, rfl, .ty "tuple", .base (.tup ha), kit_ty (by decide +kernel), _, rfl, ?_⟩
      refine iteF ?_
      refine ⟨_, rfl, a, _, rfl, .inr (.inl (.inl ha)), rfl, _, rfl, ?_⟩
      rcases Classical.em (¬ xs.length = 3) with h2 | h2
      · have nn : ¬ ∃ r, PyData.tuple ds = tripD r ∧ TripOk R r ∧ ∀ r' ∈ BB, r'.1 ≠ r.1 := fun ⟨y, e, _⟩ => by
          unfold tripD at e
          injection e with e
          rw [e] at hlen
          exact h2 hlen
        rw [pB_f nn] at k
        refine iteYes (fun z => h2 (by have := V.int.inj z; omega)) ?_
        exact k _ (.refl _)
      have h2 := Classical.not_not.mp h2
      refine iteNo (fun z => z (congrArg V.int (by omega))) ?_
      obtain ⟨x, y, z, rfl⟩ : ∃ x y z, xs = [x, y, z] := by
        match xs, h2 with
        | [x, y, z], _ => exact ⟨x, y, z, rfl⟩
      obtain ⟨dx, dy, dz, rfl⟩ : ∃ dx dy dz, ds = [dx, dy, dz] := by
        match ds, hlen with
        | [x, y, z], _ => exact ⟨x, y, z, rfl⟩
      obtain ⟨hdx, hdy, hdz⟩ : Dq H x dx ∧ Dq H y dy ∧ Dq H z dz := by
        cases hx with
        | cons a b =>
          cases b with
          | cons b c =>
            cases c with
            | cons c _ => exact ⟨a, b, c⟩
      have fx := fds dx List.mem_cons_self
      have fy := fds dy (List.mem_cons_of_mem _ List.mem_cons_self)
      have fz := fds dz (List.mem_cons_of_mem _ (List.mem_cons_of_mem _ List.mem_cons_self))
      have hp : (∃ r, PyData.tuple [dx, dy, dz] = tripD r ∧ TripOk R r ∧ ∀ r' ∈ BB, r'.1 ≠ r.1) ↔ nameD dx ∧ (∀ r' ∈ BB, dx ≠ .str r'.1) ∧ (∃ y, dy = .str y ∧ y ∈ nmsOf R) ∧ (dz = .str "sea" ∨ ∃ y, dz = .str y ∧ y ∈ nmsOf R) := by
        constructor
        · rintro ⟨r, e, h, hn⟩
          unfold tripD at e
          injection e with e
          injection e with e1 e
          injection e with e2 e
          injection e with e3
          subst e1 e2 e3
          exact ⟨⟨_, rfl, h.a⟩, fun r' hr' z => hn r' hr' (PyData.str.inj z).symm, ⟨_, rfl, h.b⟩, h.c.imp (fun z => congrArg PyData.str z) fun z => ⟨_, rfl, z⟩⟩
        · rintro ⟨⟨p, rfl, hp⟩, hn, ⟨q, rfl, hq⟩, hs⟩
          have hn' : ∀ r' ∈ BB, r'.1 ≠ p := fun r' hr' z => hn r' hr' (congrArg PyData.str z.symm)
          rcases hs with rfl | ⟨s, rfl, hs⟩
          · exact ⟨(p, q, "sea"), rfl, ⟨hp, hq, .inl rfl⟩, hn'⟩
          · exact ⟨(p, q, s), rfl, ⟨hp, hq, .inr hs⟩, hn'⟩
      have g : ∀ H', Same H H' → SqT K H' a [x, y, z] := fun H' s => .inl (.inl (s _ _ ha))
      have shN : SeqAt.shaped (.list ((nmsOf R).map PyData.str)) = true := shaped_lst fun y hy => plain_name hG hy
      have dpN : ∀ H', Same H H' → Dp K H' (.ref wl) (.list ((nmsOf R).map PyData.str)) := fun H' s => .lst (.inl (.inl (s _ _ hwl))) (dp_strs _)
      refine ⟨_, rfl, a, _, _, _, rfl, rfl, g _ (.refl _), atI_nat (j := 0) rfl, x, dx, m, _, rfl, hdx, fx, hm, fun H1 s1 => ⟨_, rfl, ?_⟩⟩
      rcases Classical.em (¬ nameD dx) with h3 | h3
      · rw [pB_f fun z => h3 (hp.mp z).1] at k
        rw [nameB_f h3]
        exact iteT (k _ s1)
      have h3 := Classical.not_not.mp h3
      rw [nameB_t h3]
      refine iteF ?_
      obtain ⟨p, rfl, hp1⟩ := h3
      cases hdx
      refine ⟨_, rfl, l, rfl, ⟨_, .inl (.inl (s1 _ _ hl))⟩, fun D nD => ?_⟩
      have hwl' := hw.len
      rw [List.length_map] at hwl'
      refine lc_listO (K := K) (a := l) (xs := ws) nD (fun j => ((BB.take j).map fun r => decide (r.1 = p)).map V.bl) (by rw [List.take_zero]; rfl) (fun j _ => by rw [List.length_map, List.length_map, List.length_take]; exact small1000 (by omega)) (.inl (.inl (s1 _ _ hl))) ?_ ?_
      · intro j x H3 Nx hx s3 put skip
        obtain ⟨dj, hdj, qj⟩ := hw.at_ hx
        rw [List.getElem?_map] at hdj
        obtain ⟨r, hr, rfl⟩ := Option.map_eq_some_iff.mp hdj
        obtain ⟨BR1, e1', e2', ht'⟩ := dq_trips (H := H) (ws := [x]) (B := [r]) (.cons qj .nil)
        obtain ⟨c, rfl, hc⟩ : ∃ t, x = .ref t ∧ H t = some (.tup [.str r.1, .str r.2.1, .str r.2.2]) := by
          match BR1, e1', e2', ht' with
          | [z], e1', e2', ht' =>
            injection e1' with e1' _
            injection e2' with e2' _
            subst e2'
            exact ⟨z.1, e1', ht' z List.mem_cons_self⟩
        have s13 := s1.trans s3
        refine ⟨rfl, tyes_i (iteT ?_)⟩
        refine ⟨_, rfl, c, _, _, _, rfl, rfl, .inl (.inl (s13 _ _ hc)), atI_nat (j := 0) rfl, _, rfl, a, _, _, _, rfl, rfl, .inl (.inl (s13 _ _ ha)), atI_nat (j := 0) rfl, rfl, ?_⟩
        refine put _ _ (.refl _) ?_
        rw [List.take_add_one, hr, List.map_append, List.map_append]
        have e : decide (V.str r.1 = V.str p) = decide (r.1 = p) := decide_eq_decide.mpr ⟨fun z => V.str.inj z, fun z => congrArg V.str z⟩
        rw [e]
        rfl
      intro H3 s3 hD3
      have s13 := s1.trans s3
      rw [hwl', List.take_length] at hD3
      refine ⟨D, _, rfl, .inl (.inl hD3), ?_⟩
      by_cases hr : ∃ r ∈ BB, r.1 = p
      · have e : ((BB.map fun r => decide (r.1 = p)).any id) = true := by
          obtain ⟨r, hr, e⟩ := hr
          exact List.any_eq_true.mpr ⟨decide (r.1 = p), List.mem_map.mpr ⟨r, hr, rfl⟩, decide_eq_true e⟩
        rw [e]
        obtain ⟨r, hr, e⟩ := hr
        rw [pB_f fun z => (hp.mp z).2.1 r hr (congrArg PyData.str e.symm)] at k
        exact ⟨_, rfl, iteT (k _ s13)⟩
      have e : ((BB.map fun r => decide (r.1 = p)).any id) = false := List.any_eq_false.mpr fun x hx => by
        obtain ⟨r, hr', rfl⟩ := List.mem_map.mp hx
        exact fun z => hr ⟨r, hr', of_decide_eq_true z⟩
      have hn : ∀ r' ∈ BB, PyData.str p ≠ .str r'.1 := fun r' hr' z => hr ⟨r', hr', (PyData.str.inj z).symm⟩
      rw [e]
      refine ⟨_, rfl, iteF ?_⟩
      refine ⟨_, rfl, a, _, _, _, rfl, rfl, g _ s13, atI_nat (j := 1) rfl, _, rfl, ?_⟩
      refine ⟨_, _, (hdy.same s13).dp, dpN _ s13, fy.shaped (by omega), shN, _, rfl, ?_⟩
      rw [any_hasD]
      by_cases h4 : ∃ y, dy = .str y ∧ y ∈ nmsOf R
      · have e4 : hasD R dy = true := pB_t h4
        rw [e4]
        refine iteF ?_
        refine ⟨_, rfl, a, _, _, _, rfl, rfl, g _ s13, atI_nat (j := 2) rfl, ?_⟩
        refine ⟨_, _, (hdz.same s13).dp, .str _, fz.shaped (by omega), shaped_str sea_plain, _, rfl, ?_⟩
        rw [eqv_strD]
        by_cases h5 : dz = .str "sea"
        · rw [pB_t (hp.mpr ⟨⟨p, rfl, hp1⟩, hn, h4, .inl h5⟩)] at k
          rw [pB_t h5]
          exact iteT (k _ s13)
        · rw [pB_f h5]
          refine iteF ?_
          refine ⟨_, rfl, a, _, _, _, rfl, rfl, g _ s13, atI_nat (j := 2) rfl, _, rfl, ?_⟩
          refine ⟨_, _, (hdz.same s13).dp, dpN _ s13, fz.shaped (by omega), shN, ?_⟩
          rw [any_hasD]
          have e6 : pB (∃ r, PyData.tuple [.str p, dy, dz] = tripD r ∧ TripOk R r ∧ ∀ r' ∈ BB, r'.1 ≠ r.1) = hasD R dz := pB_iff ⟨fun z => (hp.mp z).2.2.2.resolve_left h5, fun z => hp.mpr ⟨⟨p, rfl, hp1⟩, hn, h4, .inr z⟩⟩
          rw [e6] at k
          exact k _ s13
      · have e4 : hasD R dy = false := pB_f h4
        rw [pB_f fun z => h4 (hp.mp z).2.2.1] at k
        rw [e4]
        exact iteT (k _ s13)
end
end K0
end
section
set_option Elab.async false
set_option linter.all false
set_option maxRecDepth 100000
set_option maxHeartbeats 4000000
namespace K0
open PySem PySem.Spec PyProof.Rows L2
/-! ### the first fault of rows of rights, by the law -/
abbrev scLWrongG_N : List Str := ["_law_rows", "_law_rights_here", "_law_weirs", "_law_place", "_law_entry", "_law_weir", "_law_below"]
abbrev scLWrongG_S : Stmt := sLWrongRights
theorem scLWrongG : FnScope scLWrongG_N ["_law_rows", "_law_rights_here"] (defScope sLWrongRights) := ⟨rfl, rfl, rfl, by decide +kernel, rfl, by decide +kernel, by decide +kernel⟩
def spLWrongG : Sp := fun vs H Q _ => ∃ (rl l : Addr) (AR : List (Addr × Row)) (ws : List V) (ds : List PyData) (m k : Nat), vs = [.ref rl, .ref l] ∧ RowsAt H rl AR ∧ GoodRows (rowsOf AR) ∧ H l = some (.lst ws) ∧ DqAll H ws ds ∧ (∀ d ∈ ds, Fit m k d) ∧ m ≤ 900 ∧ k ≤ 60 ∧ ds.length ≤ 900 ∧ ∀ H', Same H H' → Q (opV (wrG (rowsOf AR) ds)) H'
section
variable {P : Program} {w : World} {K : PySem.W.Frag} {mg : Str → Option Value} {base : Heap} {tS tM tL : Tok}
theorem ok_lwrongG {f fN fP fC : Addr} {fd fdN fdP fdC : FuncData} (F : FnP K "_law_wrong_rights" sLWrongRights f fd) (F_law_is_name : FnP K "_law_is_name" sLIsName fN fdN) (g_law_is_name : mg "_law_is_name" = some (.ref fN)) (F_law_is_right : FnP K "_law_is_right" sLIsRight fP fdP) (g_law_is_right : mg "_law_is_right" = some (.ref fP)) (F_law_course : FnP K "_law_course" sLCourse fC fdC) (g_law_course : mg "_law_course" = some (.ref fC)) (B : Bl mg) : FnOk P w K mg base CX0 3 f fd ["_law_rows", "_law_rights_here"] spLWrongG := by
  have G_law_is_right : FnOk P w K mg base CX0 2 fP fdP ["_law_weirs", "_law_entry", "_law_earlier"] spIsTrip := ok_listrip F_law_is_right F_law_is_name g_law_is_name B
  have b_law_is_right : Binds K fdP ["_law_weirs", "_law_entry", "_law_earlier"] [] := F_law_is_right.bindsN fun _ _ _ _ _ _ us hl => match us, hl with | [_, _, _], _ => rfl
  have G_law_course : FnOk P w K mg base CX0 1 fC fdC ["_law_rows", "_law_weir"] spLCourse := ok_lcourse F_law_course B
  have b_law_course : Binds K fdC ["_law_rows", "_law_weir"] [] := F_law_course.bindsN fun _ _ _ _ _ _ us hl => match us, hl with | [_, _], _ => rfl
  refine F.ok scLWrongG (fun vs H Q E h => ?_) (fun cdv A outer s H vs Q E hr h => ?_)
  · obtain ⟨rl, l, AR, ws, ds, m, k, rfl, _⟩ := h
    rfl
  · obtain ⟨rl, l, AR, ws, ds, m, kk, rfl, hR, hG, hl, hw, fit, hm, hk, hdl, k⟩ := h
    have hr_law_is_right : Room 2 _ := hr
    have hr_law_course : Room 1 _ := hr.mono (by decide)
    refine ⟨_, PSs.nox (pss_cons
      (ps_if (PW.pt (pw_or (pt_not (pt_val (pe_callB call_isi (by rfl) B.isinstance (by decide +kernel) (pa_cons (pv 1) (pa_cons (pe_bltn (v := .ty "list") (by rfl) B.list (by decide +kernel) rfl) pa_nil))))) (pw_or1 (pt_cmpR op_gt (pe_callB (lenK (K := K)) (by rfl) B.len PySem.boot_len (pa_cons (pv 1) pa_nil)) pe_int (nomark _))))) (pss_one
      (ps_ret (pe_un un_neg pe_int))) pss_nil)
      (pss_cons
      (ps_setLc (i := 2) (own := [("_law_weir", 5), ("_law_below", 6)])  (tt := tYes) (by rfl) scLWrongG.nd rfl rfl (sw_true rfl rfl rfl (by decide +kernel)) (pi_list (pv 0)) (blkOk_by (own := [("_law_weir", 5), ("_law_below", 6)]) (N := scLWrongG_N) (sc := defScope scLWrongG_S) (by decide +kernel)) (fun _ _ _ _ _ => (tgK (K := K) (n := 2) (by rfl) (pgs_cons (pg_name (i := 5) scLWrongG.nd rfl (Or.inl rfl)) (pgs_cons (pg_name (i := 6) scLWrongG.nd rfl (Or.inl rfl)) pgs_nil)))) (fun _ _ _ _ _ => pts_nil) (fun _ _ _ _ _ => (pv 5)))
      (pss_cons
      (ps_for PassesOwn.never rfl (pi_enum (by rfl) B.enumerate (pa_cons (pv 1) pa_nil)) (tgK (K := K) (n := 2) (by rfl) (pgs_cons (pg_name (i := 3) scLWrongG.nd rfl (Or.inl rfl)) (pgs_cons (pg_name (i := 4) scLWrongG.nd rfl (Or.inl rfl)) pgs_nil))) (pss_one
      (ps_if (pt_not (pt_val (pe_call G_law_is_right hr_law_is_right (by rfl) g_law_is_right F_law_is_right.kp b_law_is_right .nil pass0 (pa_cons (pv 2) (pa_cons (pv 4) (pa_cons (pe_slice sl_list (pv 1) po_none (po_some (pv 3))) pa_nil)))))) (pss_one
      (ps_ret (pv 3))) pss_nil)))
      (pss_cons
      (ps_for PassesOwn.never rfl (pi_enum (by rfl) B.enumerate (pa_cons (pv 1) pa_nil)) (tgK (K := K) (n := 2) (by rfl) (pgs_cons (pg_name (i := 3) scLWrongG.nd rfl (Or.inl rfl)) (pgs_cons (pg_name (i := 4) scLWrongG.nd rfl (Or.inl rfl)) pgs_nil))) (pss_one
      (ps_if (PW.pt (pw_and (pt_cmpR op_ne (pe_ix (ixTK (K := K)) (pv 4) pe_int (fun _ _ => rfl)) pe_str (nomark _)) (pw_and1 (pt_cmpR (notInK (K := K)) (pe_ix (ixTK (K := K)) (pv 4) pe_int (fun _ _ => rfl)) (pe_call G_law_course hr_law_course (by rfl) g_law_course F_law_course.kp b_law_course .nil pass0 (pa_cons (pv 0) (pa_cons (pe_ix (ixTK (K := K)) (pv 4) pe_int (fun _ _ => rfl)) pa_nil))) (by rfl))))) (pss_one
      (ps_ret (pv 3))) pss_nil)))
      (pss_one
      (ps_ret pe_non)))))), ?_⟩
    have hwl := hw.len
    have hAl : (rowsOf AR).length = AR.length := List.length_map _
    have hnl : (namesOf AR).length = AR.length := nmlen AR
    have hmo := hG.most
    refine ⟨_, rfl, .ref l, .ty "list", _, _, true, rfl, .ty "list", .base (.lst hl), kit_ty (by decide +kernel), _, rfl, ?_⟩
    refine iteF ?_
    refine ⟨_, rfl, l, _, rfl, .inl (.inl (.inl hl)), _, _, rfl, rfl, _, rfl, ?_⟩
    by_cases h40 : 40 < ds.length
    · rw [wrG_len h40] at k
      refine iteD (by omega) ?_
      exact ⟨1, rfl, k _ (.refl _)⟩
    refine iteDn (by omega) ?_
    -- the weirs
    refine ⟨_, rfl, rl, rfl, ⟨_, .inl (.inl hR.lst)⟩, fun D hD => ?_⟩
    refine lc_listO (K := K) (a := rl) (xs := AR.map fun q => V.ref q.1) hD (fun j => ((namesOf AR).take j).map V.str) (by rw [List.take_zero]; rfl) (fun j _ => by rw [List.length_map, List.length_take]; exact small1000 (by omega)) (.inl (.inl hR.lst)) ?_ ?_
    · intro j x H3 Nx hx s3 put skip
      have hi : j < AR.length := by
        have := (List.getElem?_eq_some_iff.mp hx).1
        rw [List.length_map] at this
        exact this
      have ex := row_at hx hi
      subst ex
      refine ⟨AR[j].1, _, rfl, .inl (.inl (s3 _ _ (hR.tup _ (List.getElem_mem hi)))), rfl, _, _, rfl, _, _, rfl, rfl, rfl, ?_⟩
      refine tyes_i (iteT ?_)
      refine ⟨_, rfl, ?_⟩
      refine put _ _ (.refl _) ?_
      have e : (namesOf AR)[j]? = some AR[j].2.1 := by
        show ((AR.map (·.2)).map (·.1))[j]? = _
        rw [List.getElem?_map, List.getElem?_map, List.getElem?_eq_getElem hi]
        rfl
      rw [List.take_add_one, e, List.map_append]
      rfl
    intro H1 s1 hD1
    rw [List.length_map, ← hnl, List.take_length] at hD1
    have w1 := s1 _ _ hl
    -- the rows one by one
    refine ⟨_, rfl, l, _, rfl, .inl (.inl (s1 _ _ hl)), ?_⟩
    refine for_it (walk_enum (xs := ws)) (fun i σ H2 => ∃ (v1 v2 : Option V), σ = [some (.ref rl), some (.ref l), some (.ref D), v1, v2, none, none] ∧ Same H1 H2 ∧ ∃ BB, ds.take i = BB.map tripD ∧ TripsOk (rowsOf AR) BB)
      ⟨_, _, rfl, .refl _, [], by rw [List.take_zero]; rfl, (fun r hr => by cases hr), List.Pairwise.nil⟩ (fun _ _ _ _ h => by obtain ⟨_, _, _, s, _⟩ := h; exact .inl (.inl (s _ _ w1))) ?_ ?_
    · rintro i x σ H2 H3 hi ⟨v1, v2, rfl, s2, BB, eR, hB⟩ ⟨T, x1, x2, rfl, hT, rfl, e1, e2⟩
      obtain rfl : V.int (i : Int) = x1 := Option.some.inj e1
      have hid : i < ds.length := by omega
      obtain ⟨d, hd, qd⟩ := hw.at_ e2
      have s3 : Same H1 (upd H2 T (.tup [.int (i : Int), x2])) := s2.trans (same_upd hT)
      refine ⟨T, _, rfl, .inl (.inl upd_same), rfl, _, _, rfl, _, _, rfl, rfl, ?_⟩
      generalize upd H2 T (.tup [.int (i : Int), x2]) = H3 at s3
      refine ⟨_, rfl, _, rfl, _, rfl, _, rfl, _, rfl, l, _, rfl, .inl (.inl (s3 _ _ w1)), fun sl nsl => ?_⟩
      rw [cutV_take]
      have s4 : Same H3 (upd H3 sl (.lst (ws.take i))) := same_upd nsl
      have hsl : (upd H3 sl (.lst (ws.take i))) sl = some (.lst (ws.take i)) := upd_same
      generalize upd H3 sl (.lst (ws.take i)) = H4 at s4 hsl
      have s34 := s3.trans s4
      have s04 := s1.trans s34
      have hRi : BB.length = i := by
        have := congrArg List.length eR
        rw [List.length_take, List.length_map] at this
        omega
      refine ⟨D, rowsOf AR, x2, d, m, kk, sl, ws.take i, BB, rfl, s34 _ _ hD1, hG, qd.same s04, fit d (List.mem_of_getElem? hd), hm, hk, hsl, by rw [← eR]; exact (hw.same s04).take i, by omega, fun H5 s5 => ⟨_, rfl, ?_⟩⟩
      have s35 := s34.trans s5
      by_cases hp : ∃ r : RRow, d = tripD r ∧ TripOk (rowsOf AR) r ∧ ∀ r' ∈ BB, r'.1 ≠ r.1
      · rw [pB_t hp]
        refine iteF ?_
        obtain ⟨r, rfl, h1, h2⟩ := hp
        refine ⟨_, _, rfl, s35, BB ++ [r], by rw [List.take_add_one, hd, eR, List.map_append]; rfl, fun y hy => ?_, ?_⟩
        · rcases List.mem_append.mp hy with hy | hy
          · exact hB.ok y hy
          · rw [List.mem_singleton.mp hy]; exact h1
        · show ((BB ++ [r]).map (·.1)).Nodup
          rw [List.map_append]
          refine List.nodup_append.mpr ⟨hB.nd, by simp, fun a ha c hc e2 => ?_⟩
          obtain ⟨r', hr', rfl⟩ := List.mem_map.mp ha
          rw [List.map_cons, List.map_nil] at hc
          exact h2 r' hr' (e2.trans (List.mem_singleton.mp hc))
      · rw [pB_f hp]
        refine iteT ?_
        have e : wrG (rowsOf AR) ds = some (i : Int) := wrG_row h40 hid eR hB fun ⟨r, h1, h2⟩ => hp ⟨r, by rw [hd] at h1; exact Option.some.inj h1, h2⟩
        rw [e] at k
        exact ⟨_, rfl, k _ (s1.trans s35)⟩
    rintro σ H2 ⟨v1, v2, rfl, s2, BB, eR, hB⟩
    rw [hwl, List.take_length] at eR
    subst eR
    rw [List.length_map] at h40
    obtain ⟨BR, rfl, eA, hA⟩ := dq_trips hw
    subst eA
    have hBl : (bOf BR).length = BR.length := List.length_map _
    have s02 := s1.trans s2
    refine ⟨_, rfl, l, _, rfl, .inl (.inl (s2 _ _ w1)), ?_⟩
    refine for_it (walk_enum (xs := BR.map fun q => V.ref q.1)) (fun i σ H3 => ∃ (v1 v2 : Option V), σ = [some (.ref rl), some (.ref l), some (.ref D), v1, v2, none, none] ∧ Same H2 H3 ∧ ∀ j, j < i → ¬ upBad (rowsOf AR) (bOf BR) j)
      ⟨_, _, rfl, .refl _, fun j hj => absurd hj (Nat.not_lt_zero j)⟩ (fun _ _ _ _ h => by obtain ⟨_, _, _, s, _⟩ := h; exact .inl (.inl (s _ _ (s2 _ _ w1)))) ?_ ?_
    · rintro i x σ H3 H4 hi ⟨v1, v2, rfl, s3, hn⟩ ⟨T, x1, x2, rfl, hT, rfl, e1, e2⟩
      obtain rfl : V.int (i : Int) = x1 := Option.some.inj e1
      rw [List.length_map] at hi
      have hx2 : x2 = .ref BR[i].1 := brow_at e2 hi
      subst hx2
      have hmem : BR[i] ∈ BR := List.getElem_mem hi
      have hrow : BR[i].2 ∈ bOf BR := List.mem_map.mpr ⟨_, hmem, rfl⟩
      have hat : (bOf BR)[i]? = some BR[i].2 := by
        show (BR.map (·.2))[i]? = _
        rw [List.getElem?_map, List.getElem?_eq_getElem hi]
        rfl
      have s4 : Same H2 (upd H3 T (.tup [.int (i : Int), .ref BR[i].1])) := s3.trans (same_upd hT)
      have ht4 : SqT K (upd H3 T (.tup [.int (i : Int), .ref BR[i].1])) BR[i].1 [.str BR[i].2.1, .str BR[i].2.2.1, .str BR[i].2.2.2] := .inl (.inl (s4 _ _ (s02 _ _ (hA _ hmem))))
      refine ⟨T, _, rfl, .inl (.inl upd_same), rfl, _, _, rfl, _, _, rfl, rfl, ?_⟩
      generalize upd H3 T (.tup [.int (i : Int), .ref BR[i].1]) = H4 at s4 ht4
      have s04 := s02.trans s4
      have more : ¬ upBad (rowsOf AR) (bOf BR) i → ∀ j, j < i + 1 → ¬ upBad (rowsOf AR) (bOf BR) j := fun h j hj => by
        by_cases ej : j = i
        · subst ej
          exact h
        · exact hn j (by omega)
      have hok := hB.ok _ hrow
      refine ⟨_, rfl, BR[i].1, _, _, _, rfl, rfl, ht4, atI_nat (j := 2) rfl, rfl, _, rfl, ?_⟩
      by_cases hs : BR[i].2.2.2 = "sea"
      · refine iteNo (fun z => z (congrArg V.str hs)) ?_
        refine ⟨_, _, rfl, s4, more ?_⟩
        rintro ⟨r', h1, h2, _⟩
        rw [hat] at h1
        cases h1
        exact h2 hs
      refine iteYes (fun z => hs (V.str.inj z)) ?_
      refine ⟨_, rfl, BR[i].1, _, _, _, rfl, rfl, ht4, atI_nat (j := 2) rfl, _, rfl, _, rfl, BR[i].1, _, _, _, rfl, rfl, ht4, atI_nat (j := 1) rfl, rl, AR, BR[i].2.2.1, rfl, hR.same s04, hG, hok.b, fun H5 c s5 nc hc => ?_⟩
      have s25 := s4.trans s5
      refine ⟨c, _, rfl, .inl (.inl (.inl hc)), rfl, flat_strs _, _, rfl, ?_⟩
      rw [inV_str]
      by_cases hin : BR[i].2.2.2 ∈ course (rowsOf AR) BR[i].2.2.1
      · rw [decide_eq_true hin]
        refine iteF ?_
        refine ⟨_, _, rfl, s25, more ?_⟩
        rintro ⟨r', h1, _, h3⟩
        rw [hat] at h1
        cases h1
        exact h3 hin
      · rw [decide_eq_false hin]
        refine iteT ?_
        have e : wrG (rowsOf AR) ((bOf BR).map tripD) = some (i : Int) := wrG_up hB h40 (by omega) ⟨_, hat, hs, hin⟩ hn
        rw [e] at k
        exact ⟨_, rfl, k _ (s02.trans s25)⟩
    rintro σ H3 ⟨v1, v2, rfl, s3, hn⟩
    rw [List.length_map, ← hBl] at hn
    rw [wrG_good hB h40 hn] at k
    exact k _ (s02.trans s3)
end
end K0
end
section
set_option Elab.async false
set_option linter.all false
set_option maxRecDepth 100000
set_option maxHeartbeats 4000000
namespace L2
open PySem PySem.Spec PyProof.Rows
/-! ### d.get(k, x) of a dict of the top with texts for keys -/
section
variable {X : Cx} {d : Addr} {es : Array DictEntry} {n : Nat} {o e f : Expr} {apos cpos : Pos} {td ty tx : TE}
def tDGetK (K : PySem.W.Frag) (d : Addr) (td ty tx : TE) : TE := fun σ H Q => td σ H fun x H1 => x = .ref d ∧ ty σ H1 fun y H2 => ∃ (z : Str) (r : Option Value), y = .str z ∧ PySem.W.nsIn K d z = some r ∧ tx σ H2 fun w H3 =>
  ∃ v, (∀ u, r = some u → RelV v u) ∧ (r = none → v = w) ∧ Q v H3
theorem pe_dgetKd {K : PySem.W.Frag} (eK : X.K = K) (D : KDict X.K X.w d es n) (ho : PE X o td) (he : PE X e ty) (hf : PE X f tx) (m : M2 X o "get" apos e f cpos) : PE X (.Call (.Attribute o "get" apos) [e, f] [] cpos) (tDGetK K d td ty tx) := by
  subst eK
  refine ⟨fun pins s σ H Q I h => ?_⟩
  refine wpAny_Call_method m.base m.few m.line PySem.F.plainAttrs_dict PySem.F.slot_dict_get PySem.F.type_dict_get (thn (ho.run pins s σ H _ I h) fun u s1 ⟨x, H1, I1, rx, ex, q1⟩ => ?_)
  subst ex
  obtain rfl : u = Value.ref d := rx
  have hm1 := PySem.W.mapOf_K (prog := X.prog) (w := X.w) I1.kIn D.at_ D.lit
  refine ⟨hm1.typeIs, hm1.noDict, ?_⟩
  rw [m.trees]
  refine Calls.callWith_builtin rfl (Calls.evalArgs_plain (Calls.spliced_cons (thn (he.run pins s1 σ H1 _ I1 q1) fun iv s2 ⟨y, H2, I2, ry, z, r, ey, er, q2⟩ =>
    Calls.spliced_cons (thn (hf.run pins s2 σ H2 _ I2 q2) fun fv s3 ⟨w, H3, I3, rw', v, q3, q4, q5⟩ => Calls.spliced_nil ?_))))
  subst ey
  obtain ⟨t, rfl⟩ := ry
  have hm3 := PySem.W.mapOf_K (prog := X.prog) (w := X.w) I3.kIn D.at_ D.lit
  refine call_meetsIn PySem.F.slot_dict_get hm3.typeIs PySem.F.entry_dict_get (PySem.F.args_dict_get_3 _ _ _) (meets_dict_get_default (PySem.strKind X.prog X.w) d (PySem.strKind_is X.prog X.w z t) D.low fv) ⟨_, hm3, ?_⟩
  rw [PySem.W.find_K D.at_ er]
  cases r with
  | none =>
    have e := q4 rfl
    subst e
    exact ⟨v, H3, I3.tok _, rw', q5⟩
  | some u => exact ⟨v, H3, I3.tok _, q3 u rfl, q5⟩
end
end L2
namespace K0
open PySem PySem.Spec PyProof.Rows L2
/-! ### words of a line -/
structure Wd (K : PySem.W.Frag) (w : World) (mg : Str → Option Value) : Prop where
  ex : ∃ (d : Addr) (es : Array DictEntry) (n : Nat) (v3 v4 : Value), mg "WORDS" = some (.ref d) ∧ KDict K w d es n ∧ RelV (.int 3) v3 ∧ RelV (.int 4) v4 ∧ ∀ z : Str, PySem.W.nsIn K d z = some (if z = "weir" then some v3 else if z = "right" then some v4 else none)
/-- the words of a line are those of a chart's -/
noncomputable def isW (ws : List Str) : Bool := ((decide (ws.headD "" = "weir") && decide (ws.length = 3)) || (decide (ws.headD "" = "right") && decide (ws.length = 4))) && (ws.drop 1).all fun y => nameB (.str y)
theorem isW_no {ws : List Str} {m : Nat} (h : m ≠ ws.length) (e : m = if ws.headD "" = "weir" then 3 else if ws.headD "" = "right" then 4 else 0) : isW ws = false := by
  unfold isW
  have : ¬ ((ws.headD "" = "weir" ∧ ws.length = 3) ∨ (ws.headD "" = "right" ∧ ws.length = 4)) := by
    rintro (⟨a, b⟩ | ⟨a, b⟩)
    · rw [if_pos a] at e; omega
    · rw [if_neg (by rw [a]; decide +kernel), if_pos a] at e; omega
  have h1 : ((decide (ws.headD "" = "weir") && decide (ws.length = 3)) || (decide (ws.headD "" = "right") && decide (ws.length = 4))) = false := by
    rw [Bool.eq_false_iff]
    intro z
    rw [Bool.or_eq_true, Bool.and_eq_true, Bool.and_eq_true] at z
    simp only [decide_eq_true_eq] at z
    exact this z
  rw [h1]
  rfl
theorem isW_yes {ws : List Str} {m : Nat} (h : m = ws.length) (e : m = if ws.headD "" = "weir" then 3 else if ws.headD "" = "right" then 4 else 0) (h0 : 0 < ws.length) : isW ws = (ws.drop 1).all fun y => nameB (.str y) := by
  unfold isW
  have h1 : ((decide (ws.headD "" = "weir") && decide (ws.length = 3)) || (decide (ws.headD "" = "right") && decide (ws.length = 4))) = true := by
    by_cases a : ws.headD "" = "weir"
    · rw [if_pos a] at e
      rw [decide_eq_true a, decide_eq_true (by omega : ws.length = 3)]
      rfl
    · rw [if_neg a] at e
      by_cases b : ws.headD "" = "right"
      · rw [if_pos b] at e
        rw [decide_eq_true b, decide_eq_true (by omega : ws.length = 4)]
        simp
      · rw [if_neg b] at e
        omega
  rw [h1, Bool.true_and]
theorem cut_drop (xs : List V) (m : Nat) : cutV xs (some (m : Int)) none = xs.drop m := by
  unfold cutV
  rw [HT.sIx_nat, HT.sIx_none]
  rcases Nat.le_total m xs.length with h | h
  · rw [Nat.min_eq_left h, List.take_of_length_le]
    rw [List.length_drop]
    exact Nat.le_refl _
  · rw [Nat.min_eq_right h, List.drop_of_length_le (Nat.le_refl _), List.drop_of_length_le h]
    simp
theorem ifFalse {c : Bool} {A B : Prop} (h : c = false) (k : B) : if c = true then A else B := by
  rw [h]
  exact iteF k
theorem ifTrue {c : Bool} {A B : Prop} (h : c = true) (k : A) : if c = true then A else B := by
  rw [h]
  exact iteT k
abbrev scIsWritten_N : List Str := ["words", "word"]
abbrev scIsWritten_S : Stmt := sIsWritten
theorem scIsWritten : FnScope scIsWritten_N ["words"] (defScope sIsWritten) := ⟨rfl, rfl, rfl, by decide +kernel, rfl, by decide +kernel, by decide +kernel⟩
def spIsWritten : Sp := fun vs H Q _ => ∃ (l : Addr) (ws : List Str), vs = [.ref l] ∧ H l = some (.lst (ws.map V.str)) ∧ 0 < ws.length ∧ ws.length ≤ 900 ∧ (∀ y ∈ ws, Plain y ∧ y.cps.toList.length ≤ 900) ∧ ∀ H', Same H H' → Q (.bl (isW ws)) H'
section
variable {P : Program} {w : World} {K : PySem.W.Frag} {mg : Str → Option Value} {base : Heap} {tS tM tL : Tok}
theorem ok_iswritten {f fN : Addr} {fd fdN : FuncData} (F : FnP K "_is_written" sIsWritten f fd) (Fis_name : FnP K "is_name" sIsName fN fdN) (gis_name : mg "is_name" = some (.ref fN)) (W : Wd K w mg) (B : Bl mg) (C : Gc mg tS tM tL) : FnOk P w K mg base CX0 2 f fd ["words"] spIsWritten := by
  obtain ⟨dW, es, nW, v3, v4, gW, KD, rv3, rv4, hget⟩ := W.ex
  have Gis_name : FnOk P w K mg base CX0 1 fN fdN ["value"] spIsNameD := ok_isnameD Fis_name B C
  have bis_name : Binds K fdN ["value"] [] := Fis_name.bindsN fun _ _ _ _ _ _ us hl => match us, hl with | [_], _ => rfl
  refine F.ok scIsWritten (fun vs H Q E h => ?_) (fun cdv A outer s H vs Q E hr h => ?_)
  · obtain ⟨l, ws, rfl, _⟩ := h
    rfl
  · obtain ⟨l, ws, rfl, hl, h0, h9, hp, k⟩ := h
    have hris_name : Room 1 _ := hr
    refine ⟨_, PSs.nox (pss_cons
      (ps_if (pt_cmpR op_ne (pe_dgetKd (K := K) rfl KD (pe_glob (v := .ref dW) (by rfl) gW rfl) (pe_ix (ixLK (K := K)) (pv 0) pe_int (fun _ _ => rfl)) pe_int ⟨rfl, rfl, rfl, rfl⟩) (pe_callB (lenK (K := K)) (by rfl) B.len PySem.boot_len (pa_cons (pv 0) pa_nil)) (nomark _)) (pss_one
      (ps_ret pe_bl)) pss_nil)
      (pss_one
      (ps_ret (pe_callB (allK (K := K) rfl) (by rfl) B.all (by decide +kernel) (pa_cons (pe_lc (own := [("word", 1)]) (g := gName 1) (tt := tYes) (by rfl) scIsWritten.nd (pi_list (pe_slice sl_list (pv 0) (po_some pe_int) po_none)) (blkOk_by (own := [("word", 1)]) (N := scIsWritten_N) (sc := defScope scIsWritten_S) (by decide +kernel)) (fun _ _ _ _ _ => (pg_name (i := 1) scIsWritten.nd rfl (Or.inl rfl))) (fun _ _ _ _ _ => pts_nil) (fun _ _ _ _ _ => (pe_call Gis_name hris_name (by rfl) gis_name Fis_name.kp bis_name .nil pass0 (pa_cons (pv 1) pa_nil)))) pa_nil))))), ?_⟩
    have z40 : 40000 ≤ sizeLine := by rw [sizeLine_eq]; omega
    obtain ⟨w0, wr, rfl⟩ : ∃ a r, ws = a :: r := by
      cases ws with
      | nil => cases h0
      | cons a r => exact ⟨a, r, rfl⟩
    obtain ⟨m, em⟩ : ∃ m : Nat, m = (if w0 = "weir" then 3 else if w0 = "right" then 4 else 0) := ⟨_, rfl⟩
    have wln : ((w0 :: wr).map V.str).length = (w0 :: wr).length := List.length_map _
    refine ⟨rfl, _, rfl, l, _, 0, .str w0, rfl, rfl, .inl (.inl hl), atI_nat (j := 0) rfl, w0, _, rfl, hget w0, .int (m : Int), fun u hu => ?_, fun hu => ?_, ?_⟩
    · rw [em]
      by_cases a : w0 = "weir"
      · rw [if_pos a] at hu ⊢
        cases hu
        exact rv3
      · rw [if_neg a] at hu ⊢
        by_cases b : w0 = "right"
        · rw [if_pos b] at hu ⊢
          cases hu
          exact rv4
        · rw [if_neg b] at hu
          cases hu
    · by_cases a : w0 = "weir"
      · rw [if_pos a] at hu
        cases hu
      · rw [if_neg a] at hu
        by_cases b : w0 = "right"
        · rw [if_pos b] at hu
          cases hu
        · rw [em, if_neg a, if_neg b]
          rfl
    refine ⟨_, rfl, l, _, rfl, .inl (.inl (.inl hl)), rfl, _, rfl, ?_⟩
    by_cases hm : m = (w0 :: wr).length
    · refine ifFalse (congrArg not (decide_eq_true (congrArg V.int (by rw [wln, hm])))) ?_
      have ey : isW (w0 :: wr) = _ := isW_yes hm em h0
      have all_ok : ∀ y ∈ wr, Plain y ∧ y.cps.toList.length ≤ 900 := fun y hy => hp y (List.mem_cons_of_mem _ hy)
      refine ⟨_, rfl, 1, rfl, ?_⟩
      unfold tNoPart
      refine ⟨l, _, rfl, .inl (.inl hl), fun l2 nl2 => ?_⟩
      have hcut : cutV ((w0 :: wr).map V.str) (some (1 : Int)) none = wr.map V.str := cut_drop _ 1
      rw [hcut]
      have s2 : Same H (upd H l2 (.lst (wr.map V.str))) := same_upd nl2
      have hl2 : (upd H l2 (.lst (wr.map V.str))) l2 = some (.lst (wr.map V.str)) := upd_same
      generalize upd H l2 (.lst (wr.map V.str)) = H2 at s2 hl2
      have hwl : wr.length ≤ 900 := by
        have : (w0 :: wr).length = wr.length + 1 := rfl
        omega
      refine ⟨l2, rfl, ⟨_, .inl (.inl hl2)⟩, fun D nD => ?_⟩
      refine lc_listO (K := K) (a := l2) (xs := wr.map V.str) nD (fun j => (wr.take j).map fun y => V.bl (nameB (.str y))) (by rw [List.take_zero]; rfl) (fun j _ => by rw [List.length_map, List.length_take]; exact small1000 (by omega)) (.inl (.inl hl2)) ?_ ?_
      · intro j x H3 Nx hx s3 put skip
        rw [List.getElem?_map] at hx
        obtain ⟨y, hy, rfl⟩ := Option.map_eq_some_iff.mp hx
        obtain ⟨p1, p2⟩ := all_ok y (List.mem_of_getElem? hy)
        refine ⟨rfl, ?_⟩
        refine tyes_i (iteT ?_)
        exact ⟨_, rfl, .str y, .str y, 900, 0, rfl, .str y, .str y p1 p2, by omega, fun H4 s4 => put _ _ s4 (take_map1 hy)⟩
      intro H3 s3 hD
      rw [List.length_map, List.take_length] at hD
      have hD2 : H3 D = some (.lst ((wr.map fun y => nameB (.str y)).map V.bl)) := by rw [List.map_map]; exact hD
      refine ⟨D, _, rfl, .inl (.inl hD2), ?_⟩
      have := k H3 (s2.trans s3)
      rw [ey] at this
      rw [List.all_map]
      exact this
    · refine ifTrue (congrArg not (decide_eq_false fun h => hm (by
        have h := V.int.inj h
        rw [wln] at h
        omega))) ?_
      have e2 : isW (w0 :: wr) = false := isW_no hm em
      have := k H (.refl _)
      rw [e2] at this
      exact this
end
end K0
end
section
set_option Elab.async false
set_option linter.all false
set_option maxRecDepth 100000
set_option maxHeartbeats 1000000
namespace L2
open PySem PySem.Spec PyProof.Rows
open PySem.W (kxs_mw ks_superObj)
theorem line_small {i : Int} (h1 : -1 ≤ i) (h2 : i ≤ 90) : i.natAbs.log2 < 1920 ∧ (toString i : Str).length ≤ 30000 := by
  have key : ∀ n : Fin 92, ((n.val : Int) - 1).natAbs.log2 < 1920 ∧ (Str.ofString (toString ((n.val : Int) - 1))).length ≤ 30000 := by decide +kernel
  have := key ⟨(i + 1).toNat, by omega⟩
  have e : (((i + 1).toNat : Nat) : Int) - 1 = i := by omega
  simp only [e] at this
  exact this
/-! ### its body walked -/
abbrev supScopeL : Scope := { kind := .function, names := [("self", .local), ("line", .local), ("__class__", .free), ("super", .globalImplicit)], isGenerator := false, isCoroutine := false, more := [] }
abbrev supNL : List Str := ["self", "line", "__class__"]
theorem supNSL : NdefX.NScope supNL ["self", "line"] ["__class__"] supScopeL := NdefX.nscope_by (by decide +kernel)
def spSupL (K : PySem.W.Frag) (C : Addr) : Sp := fun vs H Q _ => ∃ (a : Addr) (i : Int), vs = [.ref a, .int i] ∧ H a = some (exo a C none) ∧ -1 ≤ i ∧ i ≤ 90 ∧
  ∀ dx, H dx = none → dx ≠ a → Q .non (upd (upd H dx (exd dx [(("line" : Str), .int i)])) a (exo a C (some dx)))
section
variable {P : Program} {w : World} {K : PySem.W.Frag} {mg : Str → Option Value} {base : Heap} {C f : Addr} {fd : FuncData} {x qual : Str} {params : Arguments}
theorem ok_supL {txt : Str} {n : Nat} {p0 p1 p2 p3 p4 p5 p6 p7 p8 p9 p10 p11 p12 : Pos} {ar : Arg} (hp : (params.posonlyargs ++ params.args).head? = some ar) (har : ar.arg = "self") (htx : txt.length ≤ 1000)
    (S : SupF P K mg C x qual params [.Expr (.Call (.Attribute (.Call (.Name "super" p0) [] [] p1) "__init__" p2) [.JoinedStr [.Constant (.str txt) n p3, .FormattedValue (.Name "line" p4) (-1) none p5] p6] [] p7) p8, .Assign [.Attribute (.Name "self" p9) "line" p10] (.Name "line" p11) p12] supScopeL f fd)
    (hno : PySem.W.findIn K (.ref C) "line" = some none)
    (he : ∀ (q : Str) (L f0 : Addr) (cd : Value) (cl : List (Str × Addr)), ∃ pl : Sem Bool, eval (.Call (.Attribute (.Call (.Name "super" p0) [] [] p1) "__init__" p2) [.JoinedStr [.Constant (.str txt) n p3, .FormattedValue (.Name "line" p4) (-1) none p5] p6] [] p7) (PySem.W.envX q supScopeL L f0 cd cl) = (do
      let ov ← attributeBase (.Call (.Name "super" p0) [] [] p1) "__init__" (PySem.W.envX q supScopeL L f0 cd cl) (eval (.Call (.Name "super" p0) [] [] p1) (PySem.W.envX q supScopeL L f0 cd cl))
      standAt p2.atName
      let (f, first) ← holding [ov] (getMethod ov "__init__" pl)
      callWith p7 f first (backTo p7 (starEach [.JoinedStr [.Constant (.str txt) n p3, .FormattedValue (.Name "line" p4) (-1) none p5] p6] (PySem.W.envX q supScopeL L f0 cd cl))) [])) :
    FnOk P w K mg base CX0 1 f fd ["self", "line"] (spSupL K C) := by
  obtain ⟨oc, od, doc, pm, cda, ct, cc, osl, rfl, lk, hcd, ⟨ccl, cdd, cvs, ccs, file, tf, hcode, hvs, hfile⟩, cl, cld, csl, hcell⟩ := S.ex
  refine ⟨fun vs H Q E h => ?_, fun A outer s H args us vs Q E hr e0 hb r hsp => ?_⟩
  · obtain ⟨a, y, rfl, _⟩ := h
    rfl
  obtain ⟨a, y, rfl, ha, hy1, hy2, k⟩ := hsp
  have KX : K.In s.heap := e0.mod.kin.keeps fun b o e => (e0.bs b o e).1
  have lim : s.heap.NoLimit := e0.mod.nolimit.keeps fun b o e => (e0.bs b o e).1
  have kN : ∀ {b : Addr} {o : Obj}, K.lookup b = some o → H b = none := fun e => (e0.bs _ _ (e0.mod.kin _ _ e)).2
  refine ks_codeAny_call_defAt hr.depth (KX _ _ lk) rfl lim (PySem.W.codeRec_of KX hcd) rfl hb (show ∀ y ∈ supScopeL.names, y.2 ≠ .cell by decide) (fun ⟨n, v⟩ hy => ?_) (fun h₁ hns kp => ?_)
  · have := supNSL.par n (List.of_mem_zip hy).1
    exact this
  have CA : NdefX.CellsAt [(("__class__" : Str), cc)] ["__class__"] [some (V.ref C)] s.heap H := {
    len := rfl
    all := fun y c e => by
      have e2 : c = cc := by
        by_cases hy : y = "__class__"
        · subst hy
          simpa [List.lookup] using e.symm
        · have : (y == ("__class__" : Str)) = false := by simpa using hy
          simp [List.lookup, this] at e
      subst e2
      exact ⟨kN hcell, ⟨_, ⟨_, KX _ _ hcell, rfl⟩⟩⟩
    inj := fun y1 y2 c e1 e2 => by
      have key : ∀ {y : Str}, List.lookup y [(("__class__" : Str), cc)] = some c → y = "__class__" := fun {y} e => by
        by_cases hy : y = "__class__"
        · exact hy
        · have : (y == ("__class__" : Str)) = false := by simpa using hy
          simp [List.lookup, this] at e
      rw [key e1, key e2]
    has := fun i y e => by
      cases i with
      | zero =>
        cases e
        refine ⟨cc, by simp [List.lookup], fun v e2 => ?_⟩
        cases e2
        exact ⟨.ref C, rfl, ⟨_, KX _ _ hcell, rfl⟩⟩
      | succ i => cases e }
  have I0 := NdefX.inv_startN (CX := CX0) (E := E) (f := f) (tk := s.toks + ((["self", "line"] : List Str).zip us).length) (F := ⟨x, qual, params, [.Expr (.Call (.Attribute (.Call (.Name "super" p0) [] [] p1) "__init__" p2) [.JoinedStr [.Constant (.str txt) n p3, .FormattedValue (.Name "line" p4) (-1) none p5] p6] [] p7) p8, .Assign [.Attribute (.Name "self" p9) "line" p10] (.Name "line" p11) p12], supScopeL, [("__class__", cc)], cda⟩) supNSL hr.hd e0 rfl r CA hns kp
  generalize hs1 : ({ s with heap := h₁, toks := s.toks + ((["self", "line"] : List Str).zip us).length } : Shared) = s1 at I0
  obtain ⟨pl, hpl⟩ := he qual s.heap.objs.size f (.ref cda) [(("__class__" : Str), cc)]
  refine ks_wpAt_execs_cons (ks_wpAt_Expr_any (ks_wpAt_MethodCall (pl := pl) ?_ hpl))
  have hmg : mg "super" = none := S.sg
  have hos := exo_at I0.hok ha
  obtain ⟨t1, ho⟩ := hos
  obtain ⟨nm, q, N, bs, bm, sn, sub, ab, col, dd, k0, k1, k2, k3, k5, hC, hbm⟩ := S.exc.cls
  have hC1 := I0.kIn _ _ hC
  obtain ⟨mb, hb1, hb2⟩ := I0.mod.blt
  obtain ⟨m, hm, hlook⟩ := I0.loc
  have hself : m "self" = some (.ref a) := by
    obtain ⟨u, ru, lk2⟩ := hlook 0 "self" (.ref a) rfl rfl (.inl rfl)
    cases ru
    rcases lk2 with ⟨_, e⟩ | ⟨e, _⟩
    · exact e
    · exfalso
      revert e
      show ¬ ((List.lookup ("self" : Str) supScopeL.names = some .cell) ∨ (List.lookup ("self" : Str) supScopeL.names = some .free))
      decide
  refine ks_wpAt_super_base rfl rfl (by decide) rfl (I0.kIn _ _ lk) rfl hp rfl (I0.kIn _ _ hcode) rfl hvs hfile S.top ?_
  rw [har]
  refine PySem.W.ks_loadName_global rfl rfl (Calls.loadGlobal_builtin (I0.mod.glob.keeps I0.bk) hmg (hb1.keeps I0.bk) ((hb2 "super" (by decide)).trans Boot.super) ⟨rfl, ?_⟩)
  refine wpAny_loadName_free rfl rfl rfl ⟨_, I0.kIn _ _ hcell, rfl⟩ ?_
  refine wpAny_loadName_local rfl rfl hm hself ?_
  refine ks_wpAny_isType_cls hC1 rfl ⟨rfl, ?_⟩
  clear hs1
  obtain ⟨hh, g, d, tk, os⟩ := s1
  refine ks_wpAny_call_super hC1 rfl ho rfl (fun c e => by cases e) (PySem.W.looks_mroIn I0.kIn S.sub) (fun h' e kk => ?_)
  have I1 := I0.kept (h' := h') (t' := tk) kk
  have hcls : PySem.W.clsIn K C = some { name := nm, bases := bs, mro := .ref C :: bm, ns := N, qualname := q, hasDict := true, slotNames := sn, subclasses := sub, abstract := ab, collection := col, hasDel := false } := by unfold PySem.W.clsIn; rw [hC]
  have hsup := S.sup
  unfold PySem.W.ks_superIn at hsup
  rw [hcls] at hsup
  have J : PySem.W.InstAt h' a { cls := .ref C, dict := none, data := .fields #[.ref t1, .none, .none, .none, .bool false, .none] } C none := ⟨kk _ _ ho, rfl, rfl, trivial⟩
  refine PySem.W.kxs_getMethod PySem.W.kxs_ValueError e (PySem.W.looks_opaque I1.kIn S.opq) (l₀ := .ref C :: bm) (fun A Q E s k q => wpAny_bind ((PySem.W.looks_clsIn I1.kIn hcls) A _ E s k (wpAny_pure q))) rfl I1.kIn hsup (J.type.andThen (PySem.W.looks_subIn I1.kIn S.subV)) (PySem.W.ks_ne I1.kIn J hcls) (by decide) ?_
  have I2 := I1.kept (h' := h'.push (kxs_mw "ValueError.__init__" a)) (t' := tk + 1) fun b o e => Heap.get?_push_of_some _ e
  have hu0 : (h'.push (kxs_mw "ValueError.__init__" a)).get? h'.objs.size = some (kxs_mw "ValueError.__init__" a) := Heap.get?_push_size _ rfl
  have I3 := I2.pins_of (pins' := [(h'.objs.size, kxs_mw "ValueError.__init__" a)]) fun p hp => by
    cases List.mem_singleton.mp hp
    exact ⟨hu0, I1.hok.fresh (Nat.le_refl _), Nat.ne_of_gt I1.lt, I1.nofs (Nat.le_refl _), fun v z => by cases z⟩
  generalize h'.push (kxs_mw "ValueError.__init__" a) = h2 at hu0 I2 I3
  have hrX : Room 0 (A.deeper (NdefX.envF ⟨x, qual, params, [.Expr (.Call (.Attribute (.Call (.Name "super" p0) [] [] p1) "__init__" p2) [.JoinedStr [.Constant (.str txt) n p3, .FormattedValue (.Name "line" p4) (-1) none p5] p6] [] p7) p8, .Assign [.Attribute (.Name "self" p9) "line" p10] (.Name "line" p11) p12], supScopeL, [(("__class__" : Str), cc)], cda⟩ f s.heap.objs.size)) := hr.deeper _
  show wpAny _ _ (callWith p7 (.ref h'.objs.size) [] (backTo p7 (starEach [.JoinedStr [.Constant (.str txt) n p3, .FormattedValue (.Name "line" p4) (-1) none p5] p6] _)) []) _ _ _
  refine PySem.W.kxs_callWith (i := "ValueError.__init__") (x := a) rfl (PySem.Calls.evalArgs_plain ?_)
  have hPA : PA (NdefX.ncx CX0 P w K mg base supNL ⟨x, qual, params, [.Expr (.Call (.Attribute (.Call (.Name "super" p0) [] [] p1) "__init__" p2) [.JoinedStr [.Constant (.str txt) n p3, .FormattedValue (.Name "line" p4) (-1) none p5] p6] [] p7) p8, .Assign [.Attribute (.Name "self" p9) "line" p10] (.Name "line" p11) p12], supScopeL, [(("__class__" : Str), cc)], cda⟩ f A outer s H E) [.JoinedStr [.Constant (.str txt) n p3, .FormattedValue (.Name "line" p4) (-1) none p5] p6] _ :=
    pa_cons (pe_joined (.cons pe_str (.cons (pe_fmt (pv 1)) .nil))) pa_nil
  have hz : ∀ m : Str, m.length ≤ 30000 → (Str.empty ++ txt ++ m).length ≤ sizeLine := fun m hm => by
    have h30 : 40000 ≤ sizeLine := by rw [sizeLine_eq]; omega
    have e0 : Str.empty.length = 0 := rfl
    rw [strLen_append, strLen_append, e0]
    omega
  have hz0 : (Str.empty ++ txt).length ≤ sizeLine := by
    have h30 : 40000 ≤ sizeLine := by rw [sizeLine_eq]; omega
    have e0 : Str.empty.length = 0 := rfl
    rw [strLen_append, e0]
    omega
  refine thn (hPA.run p7 _ _ _ H (fun vs H2 => H2 = H ∧ ∃ m : Str, vs = [.str m]) I3 ?_) fun us s3 ⟨vs, H3, I4, r4, eH, m4, ev⟩ => ?_
  · obtain ⟨q1, q2⟩ := line_small hy1 hy2
    exact ⟨txt, rfl, hz0, _, rfl, .inr ⟨y, rfl, q1, ⟨_, rfl, hz _ q2, rfl, _, rfl⟩⟩⟩
  subst ev
  have eH2 : H = H3 := eH.symm
  clear eH
  subst eH2
  obtain ⟨u4, rfl, _⟩ := vals1 r4
  have hu3 : s3.heap.get? h'.objs.size = some (kxs_mw "ValueError.__init__" a) := (I4.pin _ (List.mem_append_right _ (List.mem_singleton.mpr rfl))).1
  refine ⟨hu3, ?_⟩
  show wpAny _ _ (call (.ref h'.objs.size) [u4]) _ _ _
  have I5 := I4.pins_of (pins' := []) fun p hp => by cases hp
  refine k0_mw_call S.exc I5 ha hu3 (by rw [sizeLine_eq]; show 1 ≤ _; omega) fun s5 I6 => ?_
  refine wpAt_of_wpAny ?_
  have hP2 : PSs (NdefX.ncx CX0 P w K mg base supNL ⟨x, qual, params, [.Expr (.Call (.Attribute (.Call (.Name "super" p0) [] [] p1) "__init__" p2) [.JoinedStr [.Constant (.str txt) n p3, .FormattedValue (.Name "line" p4) (-1) none p5] p6] [] p7) p8, .Assign [.Attribute (.Name "self" p9) "line" p10] (.Name "line" p11) p12], supScopeL, [(("__class__" : Str), cc)], cda⟩ f A outer s H E) [.Assign [.Attribute (.Name "self" p9) "line" p10] (.Name "line" p11) p12] _ :=
    pss_one (ps_ost (pv 0) (pv 1))
  refine wpAny_mono (hP2.run [] s5 _ H { nx := fun _ H' => Q .non H', rt := Q } I6 ⟨_, rfl, .ref a, rfl, a, C, rfl, S.exc, hno, .inl ⟨ha, fun dx h1 h2 => k dx h1 h2⟩⟩) (fun fl s' hs => ?_) fun e s' hs => hs
  cases fl with
  | ret u =>
    obtain ⟨v, σ', H', J, rv, q⟩ := hs
    exact ⟨v, H', J.os, J.bare, J.base, J.hok, rv, q⟩
  | next =>
    obtain ⟨σ', H', J, q⟩ := hs
    exact ⟨.non, H', J.os, J.bare, J.base, J.hok, rfl, q⟩
  | brk =>
    obtain ⟨_, _, _, q⟩ := hs
    exact False.elim q
  | cont =>
    obtain ⟨_, _, _, q⟩ := hs
    exact False.elim q
end
end L2
namespace K0
open PySem PySem.Spec PyProof.Rows L2
/-! ### a wrong line is told -/
abbrev sNTx : Stmt := inClass (top 5) 0
structure NpT (P : Program) (K : PySem.W.Frag) (mg : Str → Option Value) (Cn f : Addr) (fd : FuncData) : Prop where
  S : SupF P K mg Cn "__init__" "NotText.__init__" (defArgs sNTx) (defBody sNTx) (defScope sNTx) f fd
  hno : PySem.W.findIn K (.ref Cn) "line" = some none
  iC : PySem.W.findIn K (.ref Cn) "__init__" = some (some (.ref f))
  tI : PySem.W.typeIn K (.ref f) = some (.type "function")
  mgN : mg "NotText" = some (.ref Cn)
/-- a line is told -/
def TellsL (E : XK) (Cn : Addr) (i : Int) (H : Hp) : Prop := ∀ H' dd, Same H H' → H' dd = none → E (.ref Cn) (some dd) (upd H' dd (.xd [(("line" : Str), .int i)]))
theorem TellsL.same {E : XK} {Cn : Addr} {i : Int} {H H' : Hp} (h : TellsL E Cn i H) (s : Same H H') : TellsL E Cn i H' := fun H2 dd s2 n => h H2 dd (s.trans s2) n
section
variable {P : Program} {w : World} {K : PySem.W.Frag} {mg : Str → Option Value} {base : Heap} {tS tM tL : Tok}
theorem ok_nottext {Cn f : Addr} {fd : FuncData} (N : NpT P K mg Cn f fd) : FnOk P w K mg base CX0 1 f fd ["self", "line"] (spSupL K Cn) :=
  ok_supL rfl rfl (by decide +kernel) N.S N.hno (fun _ _ _ _ _ => ⟨_, rfl⟩)
theorem binds_nt {Cn f : Addr} {fd : FuncData} (N : NpT P K mg Cn f fd) : Binds K fd ["self", "line"] [] := by
  obtain ⟨oc, od, doc, pm, cda, ct, cc, osl, rfl, _⟩ := N.S.ex
  exact .all fun us hl => match us, hl with | [_, _], _ => rfl
theorem told_nt {Cn : Addr} {H : Hp} {i : Int} {a : Addr} {E : XK} (T : TellsL E Cn i H) (na : H a = none) {dx : Addr} (n1 : (upd H a (exo a Cn none)) dx = none) (n2 : dx ≠ a) :
    E (.ref Cn) (some dx) (upd (del (upd (upd (upd H a (exo a Cn none)) dx (exd dx [(("line" : Str), .int i)])) a (exo a Cn (some dx))) a) dx (.xd [(("line" : Str), .int i)])) := by
  rw [upd_ne n2] at n1
  have e : upd (del (upd (upd (upd H a (exo a Cn none)) dx (exd dx [(("line" : Str), .int i)])) a (exo a Cn (some dx))) a) dx (.xd [(("line" : Str), .int i)]) = upd H dx (.xd [(("line" : Str), .int i)]) := by
    funext b
    by_cases hd : b = dx
    · rw [hd, upd_same, upd_same]
    · rw [upd_ne hd, upd_ne hd]
      by_cases ha : b = a
      · rw [ha, del_same, na]
      · rw [del_ne ha, upd_ne ha, upd_ne hd, upd_ne ha]
  rw [e]
  exact T H dx (.refl _) n1
end
end K0
end
section
set_option Elab.async false
set_option linter.all false
set_option maxRecDepth 100000
set_option maxHeartbeats 2000000
namespace K0
open PySem PySem.Spec PyProof.Rows L2 TL
/-! ### words of lines -/
theorem spl_ne (S : List Nat) : ∀ (L acc : List Nat), spl S 0 acc L ≠ []
  | [], acc => by rw [spl_nil]; simp
  | c :: r, acc => by
    cases h : pre S (c :: r) with
    | true => rw [spl_hit h]; simp
    | false => rw [spl_miss h]; exact spl_ne S r _
theorem spl_in (s : Nat) : ∀ (L acc : List Nat) (p : List Nat), p ∈ spl [s] 0 acc L → (∀ c ∈ p, c ∈ acc ++ L) ∧ p.length ≤ acc.length + L.length
  | [], acc, p, h => by
    rw [spl_nil, List.mem_singleton] at h
    subst h
    exact ⟨fun c hc => List.mem_append_left _ hc, Nat.le_add_right _ _⟩
  | c :: r, acc, p, h => by
    cases hp : pre [s] (c :: r) with
    | true =>
      rw [spl_hit hp] at h
      rcases List.mem_cons.mp h with rfl | h
      · exact ⟨fun c hc => List.mem_append_left _ hc, Nat.le_add_right _ _⟩
      · obtain ⟨a, b⟩ := spl_in s r [] p h
        refine ⟨fun d hd => List.mem_append_right _ (List.mem_cons_of_mem _ (by simpa using a d hd)), ?_⟩
        rw [List.length_nil, Nat.zero_add] at b
        rw [List.length_cons]
        omega
    | false =>
      rw [spl_miss hp] at h
      obtain ⟨a, b⟩ := spl_in s r (acc ++ [c]) p h
      refine ⟨fun d hd => by simpa [List.append_assoc] using a d hd, ?_⟩
      rw [List.length_append, List.length_singleton] at b
      rw [List.length_cons]
      omega
theorem spl_cnt (s : Nat) : ∀ (L acc : List Nat), (spl [s] 0 acc L).length ≤ L.length + 1
  | [], acc => by rw [spl_nil]; simp
  | c :: r, acc => by
    cases h : pre [s] (c :: r) with
    | true =>
      rw [spl_hit h, List.length_cons, List.length_cons]
      have := spl_cnt s r []
      exact Nat.succ_le_succ this
    | false =>
      rw [spl_miss h, List.length_cons]
      have := spl_cnt s r (acc ++ [c])
      omega
def wOf (l : Str) : List Str := Txt.split l " "
theorem tl_sp : tl " " = [32] := by decide +kernel
theorem tl_nl : tl "\n" = [10] := by decide +kernel
theorem wOf_tl (l : Str) : (wOf l).map tl = spl [32] 0 [] (tl l) := by
  unfold wOf
  rw [split_spl l " " (by rw [tl_sp]; simp) (kind_ok (by decide +kernel)), tl_sp]
theorem wOf_pos (l : Str) : 0 < (wOf l).length := by
  have := wOf_tl l
  refine List.length_pos_iff.mpr fun e => ?_
  rw [e] at this
  exact spl_ne _ _ _ this.symm
theorem wOf_cnt (l : Str) : (wOf l).length ≤ (tl l).length + 1 := by
  have := congrArg List.length (wOf_tl l)
  rw [List.length_map] at this
  rw [this]
  exact spl_cnt 32 _ _
theorem wOf_in {l y : Str} (h : y ∈ wOf l) : (∀ c ∈ tl y, c ∈ tl l) ∧ (tl y).length ≤ (tl l).length := by
  have : tl y ∈ (wOf l).map tl := List.mem_map_of_mem h
  rw [wOf_tl] at this
  obtain ⟨a, b⟩ := spl_in 32 _ _ _ this
  exact ⟨fun c hc => by simpa using a c hc, by simpa using b⟩
/-- a line of a text -/
structure Ln1 (l : Str) : Prop where
  pl : Plain l
  nl : (10 : Nat) ∉ tl l
  most : (tl l).length ≤ 300
structure Lns (ls : List Str) : Prop where
  one : ls ≠ []
  most : ls.length ≤ 90
  ok : ∀ l ∈ ls, Ln1 l
theorem Ln1.words {l : Str} (h : Ln1 l) : 0 < (wOf l).length ∧ (wOf l).length ≤ 900 ∧ ∀ y ∈ wOf l, Plain y ∧ y.cps.toList.length ≤ 900 := by
  have h1 := h.most
  have h2 := wOf_cnt l
  refine ⟨wOf_pos l, by omega, fun y hy => ?_⟩
  obtain ⟨a, b⟩ := wOf_in hy
  exact ⟨fun c hc => h.pl c (a c hc), by show (tl y).length ≤ 900; omega⟩
theorem lines_back {ls : List Str} (h : Lns ls) : Txt.split (Txt.join "\n" ls) "\n" = ls :=
  split_join tl_nl (by decide +kernel) h.one fun l hl => (h.ok l hl).nl
theorem joinL_len (s : Nat) : ∀ {ps : List (List Nat)} {m : Nat}, (∀ p ∈ ps, p.length ≤ m) → (joinL [s] ps).length ≤ ps.length * (m + 1)
  | [], m, _ => by simp [joinL]
  | [p], m, h => by
    have := h p List.mem_cons_self
    simp only [joinL, List.length_singleton]
    omega
  | p :: q :: r, m, h => by
    have h1 := h p List.mem_cons_self
    have h2 := joinL_len s (ps := q :: r) (m := m) fun z hz => h z (List.mem_cons_of_mem _ hz)
    show (p ++ ([s] ++ joinL [s] (q :: r))).length ≤ _
    rw [List.length_append, List.length_append, List.length_singleton, List.length_cons, Nat.succ_mul]
    omega
theorem joined_len {ls : List Str} (h : Lns ls) : (Txt.join "\n" ls).length ≤ 27090 := by
  rw [len_tl, join_eq, tl_join, tl_nl]
  have := joinL_len 10 (ps := ls.map tl) (m := 300) fun p hp => by
    obtain ⟨l, hl, rfl⟩ := List.mem_map.mp hp
    exact (h.ok l hl).most
  rw [List.length_map] at this
  have := h.most
  have : ls.length * (300 + 1) ≤ 90 * 301 := Nat.mul_le_mul_right _ this
  omega
/-! ### rows that lines tell -/
abbrev headW (l : Str) : Str := (wOf l).headD ""
noncomputable abbrev isLn (l : Str) : Bool := isW (wOf l)
def restD (l : Str) : PyData := .tuple (((wOf l).drop 1).map .str)
def sortD (x : Str) (ls : List Str) : List PyData := (ls.filter fun l => decide (headW l = x)).map restD
theorem isLn_head {l : Str} (h : isLn l = true) : (headW l = "weir" ∧ (wOf l).length = 3) ∨ (headW l = "right" ∧ (wOf l).length = 4) := by
  unfold isLn isW at h
  rw [Bool.and_eq_true] at h
  have := h.1
  rw [Bool.or_eq_true, Bool.and_eq_true, Bool.and_eq_true] at this
  simpa only [decide_eq_true_eq] using this
theorem isLn_names {l : Str} (h : isLn l = true) : ∀ y ∈ (wOf l).drop 1, NameOk y := fun y hy => by
  unfold isLn isW at h
  rw [Bool.and_eq_true] at h
  have := List.all_eq_true.mp h.2 y hy
  obtain ⟨z, e, hz⟩ := pB_true this
  cases e
  exact hz
theorem sort_snoc (x : Str) (ls : List Str) (l : Str) : sortD x (ls ++ [l]) = sortD x ls ++ (if headW l = x then [restD l] else []) := by
  unfold sortD
  rw [List.filter_append, List.map_append]
  by_cases h : headW l = x
  · rw [if_pos h, List.filter_cons_of_pos (by rw [decide_eq_true h])]
    rfl
  · rw [if_neg h, List.filter_cons_of_neg (by rw [decide_eq_false h]; exact Bool.false_ne_true)]
    rfl
theorem sort_len (x : Str) (ls : List Str) : (sortD x ls).length ≤ ls.length := by
  unfold sortD
  rw [List.length_map]
  exact List.length_filter_le _ _
theorem sort_fit {x : Str} {ls : List Str} (h : ∀ l ∈ ls, isLn l = true) : ∀ d ∈ sortD x ls, Fit 90 1 d := fun d hd => by
  obtain ⟨l, hl, rfl⟩ := List.mem_map.mp hd
  have hl := h l (List.mem_filter.mp hl).1
  refine .tup _ (fun d hd => ?_) ?_
  · obtain ⟨y, hy, rfl⟩ := List.mem_map.mp hd
    have n := isLn_names hl y hy
    have := n.most
    exact .str _ (name_plain n) (by omega)
  · rw [List.length_map, List.length_drop]
    rcases isLn_head hl with ⟨_, e⟩ | ⟨_, e⟩ <;> omega
end K0
end
section
set_option Elab.async false
set_option linter.all false
set_option maxRecDepth 100000
set_option maxHeartbeats 4000000
namespace K0
open PySem PySem.Spec PyProof.Rows L2 TL
/-! ### a chart is read -/
abbrev scReadChart_N : List Str := ["text", "rows", "number", "line", "words"]
abbrev scReadChart_S : Stmt := sReadChart
theorem scReadChart : FnScope scReadChart_N ["text"] (defScope sReadChart) := ⟨rfl, rfl, rfl, by decide +kernel, rfl, by decide +kernel, by decide +kernel⟩
def wsD (x : Str) (ls : List Str) : List (List Str) := (ls.filter fun l => decide (headW l = x)).map fun l => (wOf l).drop 1
theorem wsD_snoc (x : Str) (ls : List Str) (l : Str) : wsD x (ls ++ [l]) = wsD x ls ++ (if headW l = x then [(wOf l).drop 1] else []) := by
  unfold wsD
  rw [List.filter_append, List.map_append]
  by_cases h : headW l = x
  · rw [if_pos h, List.filter_cons_of_pos (by rw [decide_eq_true h])]
    rfl
  · rw [if_neg h, List.filter_cons_of_neg (by rw [decide_eq_false h]; exact Bool.false_ne_true)]
    rfl
theorem sortD_ws (x : Str) (ls : List Str) : sortD x ls = (wsD x ls).map fun ys => .tuple (ys.map .str) := by
  unfold sortD wsD
  rw [List.map_map]
  rfl
theorem kv_two {a b : Key} {x y : V} (n : a ≠ b) : valV (mergeK [] [(a, x), (b, y)]) a = some x ∧ valV (mergeK [] [(a, x), (b, y)]) b = some y := by
  unfold mergeK
  rw [List.foldl_cons, List.foldl_cons, List.foldl_nil, valV_put, valV_put, valV_put, if_neg n, if_pos rfl, if_pos rfl]
  exact ⟨rfl, rfl⟩
/-- a list of tuples of texts -/
structure TupL (H : Hp) (l : Addr) (qs : List (Addr × List Str)) : Prop where
  lst : H l = some (.lst (qs.map fun q => V.ref q.1))
  tup : ∀ q ∈ qs, H q.1 = some (.tup (q.2.map V.str))
theorem TupL.same {H H' : Hp} {l : Addr} {qs : List (Addr × List Str)} (t : TupL H l qs) (s : Same H H') : TupL H' l qs := ⟨s _ _ t.lst, fun q hq => s _ _ (t.tup q hq)⟩
theorem TupL.other {H : Hp} {l m : Addr} {qs : List (Addr × List Str)} {xs ys : List V} (t : TupL H l qs) (hm : H m = some (.lst xs)) (n : l ≠ m) : TupL (upd H m (.lst ys)) l qs := by
  refine ⟨by rw [upd_ne n]; exact t.lst, fun q hq => ?_⟩
  rw [upd_ne (ne_of (t.tup q hq) hm (fun z => by cases z))]
  exact t.tup q hq
theorem TupL.snoc {H : Hp} {l a : Addr} {ys : List Str} {qs : List (Addr × List Str)} (t : TupL H l qs) (ha : H a = some (.tup (ys.map V.str))) : TupL (upd H l (.lst ((qs.map fun q => V.ref q.1) ++ [.ref a]))) l (qs ++ [(a, ys)]) := by
  refine ⟨by rw [upd_same, List.map_append]; rfl, fun q hq => ?_⟩
  rcases List.mem_append.mp hq with h | h
  · rw [upd_ne (ne_of (t.tup q h) t.lst (fun z => by cases z))]
    exact t.tup q h
  · rw [List.mem_singleton] at h
    subst h
    rw [upd_ne (ne_of ha t.lst (fun z => by cases z))]
    exact ha
theorem strs_dq {H : Hp} : ∀ ys : List Str, DqAll H (ys.map V.str) (ys.map PyData.str)
  | [] => .nil
  | y :: r => .cons (.str y) (strs_dq r)
theorem TupL.dq {H : Hp} {l : Addr} {qs : List (Addr × List Str)} (t : TupL H l qs) : Dq H (.ref l) (.list ((qs.map (·.2)).map fun ys => .tuple (ys.map .str))) := by
  have key : ∀ qs : List (Addr × List Str), (∀ q ∈ qs, H q.1 = some (.tup (q.2.map V.str))) → DqAll H (qs.map fun q => V.ref q.1) ((qs.map (·.2)).map fun ys => .tuple (ys.map .str)) := fun qs h => by
    induction qs with
    | nil => exact .nil
    | cons q r ih => exact .cons (.tup (h q List.mem_cons_self) (strs_dq _)) (ih fun z hz => h z (List.mem_cons_of_mem _ hz))
  exact .lst t.lst (key qs t.tup)
theorem tellsU_of {E : XK} {Cn x dx : Addr} {i : Int} {H H1 : Hp} {o1 o2 : HO} (T : Tells E Cn i H) (s : Same H H1) (nx : H1 x = none) (nd : H1 dx = none) : TellsU E Cn x i (upd (upd H1 dx o1) x o2) := fun H' dd u n => by
  refine T H' dd (fun b o hb => ?_) n
  have h1 := s b o hb
  have n1 : b ≠ x := ne_of_none h1 nx
  have n2 : b ≠ dx := ne_of_none h1 nd
  exact u b o (by rw [upd_ne n1, upd_ne n2]; exact h1) n1
def spRead (Cg Cr Cn Cm Ct : Addr) : Sp := fun vs H Q E => ∃ (ls : List Str), vs = [.str (Txt.join "\n" ls)] ∧ Lns ls ∧
  (∀ i l, ls[i]? = some l → isLn l = false → (∀ z ∈ ls.take i, isLn z = true) → TellsL E Ct i H) ∧
  ((∀ l ∈ ls, isLn l = true) → (∀ i, wrD (.list (sortD "weir" ls)) = some i → Tells E Cn i H) ∧
    ∀ R, wrD (.list (sortD "weir" ls)) = none → GoodRows R → sortD "weir" ls = R.map rowD → (∀ i, wrGD R (.list (sortD "right" ls)) = some i → Tells E Cm i H) ∧
      ∀ B, RtOk R B → sortD "right" ls = B.map tripD → ∀ p q H' AR BR, Same H H' → RigOk Cg Cr H' p q AR BR → rowsOf AR = R → bOf BR = B → Q (.ref p) H')
section
variable {P : Program} {w : World} {K : PySem.W.Frag} {mg : Str → Option Value} {base : Heap} {tS tM tL : Tok}
theorem ok_read {f fI fJ fW fN fn fm ft Cr Cg Cn Cm Ct : Addr} {fd fdI fdJ fdW fdN fdn fdm fdt : FuncData} (F : FnP K "read_chart" sReadChart f fd)
    (F_is_written : FnP K "_is_written" sIsWritten fW fdW) (g_is_written : mg "_is_written" = some (.ref fW)) (F_is_name : FnP K "is_name" sIsName fN fdN) (gis_name : mg "is_name" = some (.ref fN)) (W : Wd K w mg)
    (MK : Mk K Cr fI) (FI : FnM K "__init__" "River.__init__" sInit fI fdI) (M : Mf K mg) (T : Rv K mg Cr) (NR : NpR P K mg Cn fn fdn)
    (MKG : Mk K Cg fJ) (FJ : FnM K "__init__" "Rights.__init__" sGInit fJ fdJ) (G : Mg P w K mg base Cg Cr) (TG : Rg K mg Cg) (NG : NpG P K mg Cm fm fdm)
    (NT : NpT P K mg Ct ft fdt) (B : Bl mg) (C : Gc mg tS tM tL) : FnOk P w K mg base (L2.CX P w) 7 f fd ["text"] (spRead Cg Cr Cn Cm Ct) := by
  have G_is_written : FnOk P w K mg base CX0 2 fW fdW ["words"] spIsWritten := ok_iswritten F_is_written F_is_name gis_name W B C
  have b_is_written : Binds K fdW ["words"] [] := F_is_written.bindsN fun _ _ _ _ _ _ us hl => match us, hl with | [_], _ => rfl
  have GI := (ok_init2 (P := P) (w := w) (base := base) FI M T NR B C).or (FnOk.of0 (ok_init FI M T B C))
  have GJ := (ok_ginit2 (P := P) (w := w) (base := base) FJ G TG T NG B C).or (FnOk.of0 (ok_ginit FJ G TG T B C))
  have bI : Binds K fdI ["self", "rows"] [] := FI.bindsN fun _ _ _ _ _ _ us hl => match us, hl with | [_, _], _ => rfl
  have bJ : Binds K fdJ ["self", "river", "rows"] [] := FJ.bindsN fun _ _ _ _ _ _ us hl => match us, hl with | [_, _, _], _ => rfl
  have Gn : FnOk P w K mg base CX0 1 ft fdt ["self", "line"] (spSupL K Ct) := ok_nottext NT
  have bn : Binds K fdt ["self", "line"] [] := binds_nt NT
  refine F.ok scReadChart (fun vs H Q E h => ?_) (fun cdv A outer s H vs Q E hr h => ?_)
  · obtain ⟨ls, rfl, _⟩ := h
    rfl
  · obtain ⟨ls, rfl, hL, kT, kk⟩ := h
    have hu := hu_of hr
    have hr_is_written : Room 2 _ := hr.mono (by decide)
    have hrn : Room 2 _ := hr.mono (by decide)
    have hrI : Room 5 _ := hr.mono (by decide)
    have hrJ : Room 6 _ := hr
    refine ⟨_, (pss_cons
      (ps_set (i := 1) scReadChart.nd rfl (Or.inl rfl) (pe_disp (pps_cons pe_str (pe_lst pa_nil) (pps_cons pe_str (pe_lst pa_nil) pps_nil)) (by rfl) (by rfl) (fun z => by cases z) (by decide)))
      (pss_cons
      (ps_for (passes_of rfl) rfl (pi_enum (by rfl) B.enumerate (pa_cons (pe_split (pv 0) pe_str) pa_nil)) (tgK (K := K) (n := 2) (by rfl) (pgs_cons (pg_name (i := 2) scReadChart.nd rfl (Or.inl rfl)) (pgs_cons (pg_name (i := 3) scReadChart.nd rfl (Or.inl rfl)) pgs_nil))) (pss_cons
      (ps_set (i := 4) scReadChart.nd rfl (Or.inl rfl) (pe_split (pv 3) pe_str))
      (pss_cons
      (ps_if (pt_not (pt_val (pe_call G_is_written hr_is_written (by rfl) g_is_written F_is_written.kp b_is_written .nil pass0 (pa_cons (pv 4) pa_nil)))) (pss_one
      (ps_raise rfl (takes_of rfl rfl rfl rfl) (pmk_oex NT.S.exc NT.iC NT.tI Gn hrn bn .nil (fun _ _ _ _ _ _ _ h => h.elim) (by rfl) NT.mgN (pa_cons (pv 2) pa_nil)))) pss_nil)
      (pss_one
      (ps_expr (pe_bm PySem.F.plainAttrs_list PySem.F.slot_list_append PySem.F.type_list_append mt_append (pe_dget hu (pv 1) (pe_ix (ixLK (K := K)) (pv 4) pe_int (fun _ _ => rfl)) (fun _ _ => rfl)) (pa_cons (pe_callTy (tupleK (K := K)) (by rfl) B.tuple (by decide +kernel) (pa_cons (pe_slice sl_list (pv 4) (po_some pe_int) po_none) pa_nil)) pa_nil)))))))
      (pss_one
      (ps_ret (pe_make MKG GJ hrJ (by rfl) TG.mgC bJ .nil (passes_call (takes_of rfl rfl rfl rfl) (fun _ _ _ _ h => h)) (pa_cons (pe_make MK GI hrI (by rfl) T.mgC bI .nil (passes_call (takes_of rfl rfl rfl rfl) (fun _ _ _ _ h => h)) (pa_cons (pe_dget hu (pv 1) pe_str (fun _ _ => rfl)) pa_nil)) (pa_cons (pe_dget hu (pv 1) pe_str (fun _ _ => rfl)) pa_nil))))))), ?_⟩
    have z40 : 40000 ≤ sizeLine := by rw [sizeLine_eq]; omega
    intro D hD
    refine ⟨Nat.zero_le _, fun lw hlw => ⟨Nat.zero_le _, fun lr hlr => ?_⟩⟩
    have hDw : D ≠ lw := fun e => by rw [← e, upd_same] at hlw; cases hlw
    have hDr : D ≠ lr := fun e => by rw [← e, upd_ne hDw, upd_same] at hlr; cases hlr
    have hwr : lw ≠ lr := fun e => by rw [← e, upd_same] at hlr; cases hlr
    refine ⟨by rw [upd_ne hDr, upd_ne hDw, upd_same], [(Sum.inr ("weir" : Str), .ref lw), (Sum.inr ("right" : Str), .ref lr)], rfl, by show 2 ≤ 15; omega, ?_⟩
    have hHw : H lw = none := by
      rw [upd_ne (Ne.symm hDw)] at hlw
      exact hlw
    have hHr : H lr = none := by
      rw [upd_ne (Ne.symm hwr), upd_ne (Ne.symm hDr)] at hlr
      exact hlr
    obtain ⟨kv, ekv⟩ : ∃ kv : List (Key × V), kv = mergeK [] [(Sum.inr ("weir" : Str), .ref lw), (Sum.inr ("right" : Str), .ref lr)] := ⟨_, rfl⟩
    obtain ⟨vw, vr⟩ := kv_two (a := Sum.inr ("weir" : Str)) (b := Sum.inr ("right" : Str)) (x := V.ref lw) (y := V.ref lr) (fun e => absurd (Sum.inr.inj e) (by decide +kernel))
    rw [← ekv] at vw vr
    rw [← ekv]
    have s1 : Same H (upd (upd (upd (upd H D (.dK [])) lw (.lst [])) lr (.lst [])) D (.dK kv)) := fun b o hb => by
      rw [upd_ne (ne_of_none hb hD), upd_ne (ne_of_none hb hHr), upd_ne (ne_of_none hb hHw), upd_ne (ne_of_none hb hD)]
      exact hb
    have tw : TupL (upd (upd (upd (upd H D (.dK [])) lw (.lst [])) lr (.lst [])) D (.dK kv)) lw [] := ⟨by rw [upd_ne (Ne.symm hDw), upd_ne hwr, upd_same]; rfl, fun q hq => by cases hq⟩
    have tr : TupL (upd (upd (upd (upd H D (.dK [])) lw (.lst [])) lr (.lst [])) D (.dK kv)) lr [] := ⟨by rw [upd_ne (Ne.symm hDr), upd_same]; rfl, fun q hq => by cases hq⟩
    have hD1 : (upd (upd (upd (upd H D (.dK [])) lw (.lst [])) lr (.lst [])) D (.dK kv)) D = some (.dK kv) := upd_same
    generalize upd (upd (upd (upd H D (.dK [])) lw (.lst [])) lr (.lst [])) D (.dK kv) = H1 at s1 tw tr hD1
    have jl := joined_len hL
    refine ⟨_, rfl, ⟨_, rfl⟩, _, _, rfl, rfl, by decide +kernel, by omega, fun p np => ?_⟩
    rw [lines_back hL]
    have s2 : Same H (upd H1 p (.lst (ls.map V.str))) := s1.trans (same_upd np)
    have hp2 : (upd H1 p (.lst (ls.map V.str))) p = some (.lst (ls.map V.str)) := upd_same
    have tw2 := tw.same (same_upd np (o := .lst (ls.map V.str)))
    have tr2 := tr.same (same_upd np (o := .lst (ls.map V.str)))
    have hD2 := same_upd np (o := .lst (ls.map V.str)) _ _ hD1
    have npw : p ≠ lw := fun e => by rw [e, tw.lst] at np; cases np
    have npr : p ≠ lr := fun e => by rw [e, tr.lst] at np; cases np
    generalize upd H1 p (.lst (ls.map V.str)) = H2 at s2 hp2 tw2 tr2 hD2
    refine ⟨p, _, rfl, .inl (.inl hp2), ?_⟩
    refine for_it (walk_enum (xs := ls.map V.str)) (fun i σ H3 => ∃ (v2 v3 v4 : Option V), σ = [some (.str (Txt.join "\n" ls)), some (.ref D), v2, v3, v4] ∧ Same H H3 ∧ H3 p = some (.lst (ls.map V.str)) ∧ H3 D = some (.dK kv) ∧ (∀ z ∈ ls.take i, isLn z = true) ∧
      ∃ aw ar, TupL H3 lw aw ∧ TupL H3 lr ar ∧ aw.map (·.2) = wsD "weir" (ls.take i) ∧ ar.map (·.2) = wsD "right" (ls.take i))
      ⟨_, _, _, rfl, s2, hp2, hD2, fun z hz => (by rw [List.take_zero] at hz; cases hz), [], [], tw2, tr2, by rw [List.take_zero]; rfl, by rw [List.take_zero]; rfl⟩ (fun _ _ _ _ h => by obtain ⟨_, _, _, _, _, hp, _⟩ := h; exact .inl (.inl hp)) ?_ ?_
    · rintro i x σ H3 H4 hi ⟨v2, v3, v4, rfl, s3, hp3, hD3, good, aw, ar, tw3, tr3, ew, er⟩ ⟨Tt, x1, x2, rfl, hT, rfl, e1, e2⟩
      obtain rfl : V.int (i : Int) = x1 := Option.some.inj e1
      have e2 : (ls.map V.str)[i]? = some x2 := e2
      rw [List.getElem?_map] at e2
      obtain ⟨l, hl, rfl⟩ := Option.map_eq_some_iff.mp e2
      have hil : i < ls.length := by
        rw [List.length_map] at hi
        exact hi
      have hl1 := hL.ok l (List.mem_of_getElem? hl)
      obtain ⟨wp, w9, wall⟩ := hl1.words
      have sT := same_upd hT (o := .tup [V.int (i : Int), V.str l])
      refine ⟨Tt, _, rfl, .inl (.inl upd_same), rfl, _, _, rfl, _, _, rfl, rfl, ?_⟩
      have s4 := s3.trans sT
      have hp4 := sT _ _ hp3
      have hD4 := sT _ _ hD3
      have tw4 := tw3.same sT
      have tr4 := tr3.same sT
      generalize upd H3 Tt (.tup [V.int (i : Int), V.str l]) = H4 at s4 hp4 hD4 tw4 tr4
      have hl300 := hl1.most
      refine ⟨_, rfl, ⟨_, rfl⟩, _, _, rfl, rfl, by decide +kernel, by rw [len_tl]; omega, fun q nq => ?_⟩
      have sq := same_upd nq (o := .lst ((wOf l).map V.str))
      have s5 := s4.trans sq
      have hp5 := sq _ _ hp4
      have hD5 := sq _ _ hD4
      have tw5 := tw4.same sq
      have tr5 := tr4.same sq
      have hq5 : (upd H4 q (.lst ((wOf l).map V.str))) q = some (.lst ((wOf l).map V.str)) := upd_same
      have nqw : q ≠ lw := fun e => by rw [e, tw4.lst] at nq; cases nq
      have nqr : q ≠ lr := fun e => by rw [e, tr4.lst] at nq; cases nq
      show tSeq _ _ _ _ (upd H4 q (.lst ((wOf l).map V.str)))
      generalize upd H4 q (.lst ((wOf l).map V.str)) = H5 at s5 hp5 hD5 tw5 tr5 hq5
      refine ⟨_, rfl, q, wOf l, rfl, hq5, wp, w9, wall, fun H6 s6 => ⟨_, rfl, ?_⟩⟩
      have s56 := s5.trans s6
      cases hw : isW (wOf l) with
      | false =>
        refine iteT ?_
        refine ⟨_, rfl, by show 1 ≤ 1000; decide, fun a na => ⟨a, _, rfl, upd_same, by omega, by have := hL.most; omega, fun dx n1 n2 => ⟨rfl, dx, [(("line" : Str), V.int (i : Int))], upd_same, ?_, ?_, ?_⟩⟩⟩
        · rw [upd_ne n2, upd_same]
        · rw [upd_ne n2] at n1
          exact n1
        · exact told_nt ((kT i l hl hw good).same s56) na n1 n2
      | true =>
        refine iteF ?_
        have hp6 := s6 _ _ hp5
        have hD6 := s6 _ _ hD5
        have tw6 := tw5.same s6
        have tr6 := tr5.same s6
        have hq6 := s6 _ _ hq5
        obtain ⟨w0, wr, ewl⟩ : ∃ a r, wOf l = a :: r := by
          cases e : wOf l with
          | nil => rw [e] at wp; cases wp
          | cons a r => exact ⟨a, r, rfl⟩
        rw [ewl] at hq6
        have etake : ls.take (i + 1) = ls.take i ++ [l] := by rw [List.take_add_one, hl]; rfl
        have awl : aw.length ≤ 90 := by
          have h1 := congrArg List.length ew
          have h2 := hL.most
          have h3 : (wsD "weir" (ls.take i)).length ≤ (ls.take i).length := by
            unfold wsD
            rw [List.length_map]
            exact List.length_filter_le _ _
          rw [List.length_map] at h1
          rw [List.length_take] at h3
          omega
        have arl : ar.length ≤ 90 := by
          have h1 := congrArg List.length er
          have h2 := hL.most
          have h3 : (wsD "right" (ls.take i)).length ≤ (ls.take i).length := by
            unfold wsD
            rw [List.length_map]
            exact List.length_filter_le _ _
          rw [List.length_map] at h1
          rw [List.length_take] at h3
          omega
        rcases isLn_head (l := l) hw with ⟨eh, _⟩ | ⟨eh, _⟩
        · have e0 : w0 = "weir" := by
            have := eh
            unfold headW at this
            rw [ewl] at this
            exact this
          have vx : valV kv (Sum.inr w0) = some (.ref lw) := by
            rw [e0]
            exact vw
          refine ⟨_, rfl, _, rfl, q, _, 0, .str w0, rfl, rfl, .inl (.inl hq6), atI_nat (j := 0) rfl, D, .ref lw, rfl, (by rw [← vx]; exact DGet.k (k := Sum.inr w0) hD6), ⟨.inl ⟨rfl, _, .inl (.inl tw6.lst)⟩, _, rfl, 1, rfl, ?_⟩⟩
          unfold tNoPart
          refine ⟨q, _, rfl, .inl (.inl hq6), fun l2 nl2 => ?_⟩
          have hcut : cutV ((w0 :: wr).map V.str) (some (1 : Int)) none = wr.map V.str := cut_drop _ 1
          rw [hcut]
          have sl := same_upd nl2 (o := .lst (wr.map V.str))
          have hl2 : (upd H6 l2 (.lst (wr.map V.str))) l2 = some (.lst (wr.map V.str)) := upd_same
          have s7 := s56.trans sl
          have hp7 := sl _ _ hp6
          have hD7 := sl _ _ hD6
          have tw7 := tw6.same sl
          have tr7 := tr6.same sl
          generalize upd H6 l2 (.lst (wr.map V.str)) = H7 at hl2 s7 hp7 hD7 tw7 tr7
          refine ⟨l2, _, rfl, .inl ⟨.inl (.inl hl2), fun t nt => ?_⟩⟩
          have st := same_upd nt (o := .tup (wr.map V.str))
          have ht : (upd H7 t (.tup (wr.map V.str))) t = some (.tup (wr.map V.str)) := upd_same
          have s8 := s7.trans st
          have hp8 := st _ _ hp7
          have hD8 := st _ _ hD7
          have tw8 := tw7.same st
          have tr8 := tr7.same st
          generalize upd H7 t (.tup (wr.map V.str)) = H8 at ht s8 hp8 hD8 tw8 tr8
          refine ⟨lw, _, _, rfl, rfl, tw8.lst, by rw [List.length_map]; exact small1000 (by have := awl; omega), ?_⟩
          refine ⟨_, _, _, rfl, fun b o hb => ?_, ?_, ?_, fun z hz => ?_, aw ++ [(t, wr)], ar, tw8.snoc ht, tr8.other tw8.lst (Ne.symm hwr), (by rw [etake, wsD_snoc, if_pos eh, List.map_append, ew, ewl]; rfl), (by rw [etake, wsD_snoc, if_neg (by rw [eh]; decide +kernel), List.append_nil, er])⟩
          · rw [upd_ne (ne_of_none hb hHw)]
            exact s8 b o hb
          · rw [upd_ne npw]
            exact hp8
          · rw [upd_ne hDw]
            exact hD8
          · rw [etake, List.mem_append, List.mem_singleton] at hz
            rcases hz with hz | rfl
            · exact good z hz
            · exact hw
        · have e0 : w0 = "right" := by
            have := eh
            unfold headW at this
            rw [ewl] at this
            exact this
          have vx : valV kv (Sum.inr w0) = some (.ref lr) := by
            rw [e0]
            exact vr
          refine ⟨_, rfl, _, rfl, q, _, 0, .str w0, rfl, rfl, .inl (.inl hq6), atI_nat (j := 0) rfl, D, .ref lr, rfl, (by rw [← vx]; exact DGet.k (k := Sum.inr w0) hD6), ⟨.inl ⟨rfl, _, .inl (.inl tr6.lst)⟩, _, rfl, 1, rfl, ?_⟩⟩
          unfold tNoPart
          refine ⟨q, _, rfl, .inl (.inl hq6), fun l2 nl2 => ?_⟩
          have hcut : cutV ((w0 :: wr).map V.str) (some (1 : Int)) none = wr.map V.str := cut_drop _ 1
          rw [hcut]
          have sl := same_upd nl2 (o := .lst (wr.map V.str))
          have hl2 : (upd H6 l2 (.lst (wr.map V.str))) l2 = some (.lst (wr.map V.str)) := upd_same
          have s7 := s56.trans sl
          have hp7 := sl _ _ hp6
          have hD7 := sl _ _ hD6
          have tw7 := tw6.same sl
          have tr7 := tr6.same sl
          generalize upd H6 l2 (.lst (wr.map V.str)) = H7 at hl2 s7 hp7 hD7 tw7 tr7
          refine ⟨l2, _, rfl, .inl ⟨.inl (.inl hl2), fun t nt => ?_⟩⟩
          have st := same_upd nt (o := .tup (wr.map V.str))
          have ht : (upd H7 t (.tup (wr.map V.str))) t = some (.tup (wr.map V.str)) := upd_same
          have s8 := s7.trans st
          have hp8 := st _ _ hp7
          have hD8 := st _ _ hD7
          have tw8 := tw7.same st
          have tr8 := tr7.same st
          generalize upd H7 t (.tup (wr.map V.str)) = H8 at ht s8 hp8 hD8 tw8 tr8
          refine ⟨lr, _, _, rfl, rfl, tr8.lst, by rw [List.length_map]; exact small1000 (by have := arl; omega), ?_⟩
          refine ⟨_, _, _, rfl, fun b o hb => ?_, ?_, ?_, fun z hz => ?_, aw, ar ++ [(t, wr)], tw8.other tr8.lst hwr, tr8.snoc ht, (by rw [etake, wsD_snoc, if_neg (by rw [eh]; decide +kernel), List.append_nil, ew]), (by rw [etake, wsD_snoc, if_pos eh, List.map_append, er, ewl]; rfl)⟩
          · rw [upd_ne (ne_of_none hb hHr)]
            exact s8 b o hb
          · rw [upd_ne npr]
            exact hp8
          · rw [upd_ne hDr]
            exact hD8
          · rw [etake, List.mem_append, List.mem_singleton] at hz
            rcases hz with hz | rfl
            · exact good z hz
            · exact hw
    rintro σ H3 ⟨v2, v3, v4, rfl, s3, hp3, hD3, good, aw, ar, tw3, tr3, ew, er⟩
    rw [List.length_map, List.take_length] at good ew er
    obtain ⟨kR, kG⟩ := kk good
    have hsw := sort_fit (x := "weir") good
    have hsr := sort_fit (x := "right") good
    have hlw := Nat.le_trans (sort_len "weir" ls) hL.most
    have hlr2 := Nat.le_trans (sort_len "right" ls) hL.most
    have qw : Dq H3 (.ref lw) (.list (sortD "weir" ls)) := by
      have := tw3.dq
      rw [ew, ← sortD_ws] at this
      exact this
    have qr : Dq H3 (.ref lr) (.list (sortD "right" ls)) := by
      have := tr3.dq
      rw [er, ← sortD_ws] at this
      exact this
    refine ⟨_, rfl, D, .ref lw, rfl, (by rw [← vw]; exact DGet.k (k := Sum.inr ("weir" : Str)) hD3), fun x dx nx nd nxd => ?_⟩
    have sx : Same H3 (upd (upd H3 dx (.own x)) x (.ins Cr dx [])) := fun b o hb => by
      rw [upd_ne (ne_of_none hb nx), upd_ne (ne_of_none hb nd)]
      exact hb
    cases eW : wrD (.list (sortD "weir" ls)) with
    | some i => exact .inl ⟨x, dx, .ref lw, .list (sortD "weir" ls), 90, 2, rfl, upd_same, qw.same sx, .lst _ hsw hlw, by omega, by omega, fun j hj => tellsU_of (kR j hj) s3 nx nd, fun hn => by rw [eW] at hn; cases hn⟩
    | none =>
      obtain ⟨R, eR, g⟩ := wrD_good eW
      injection eR with eR
      obtain ⟨kGe, kGg⟩ := kG R eW g eR
      obtain ⟨lw2, ws, ds, e1, e2, hl0, hws⟩ := dqL qw rfl
      cases e1
      injection e2 with e2
      subst e2
      rw [eR] at hws
      obtain ⟨AR, rfl, rfl, hA⟩ := dq_rows hws
      refine .inr ⟨x, lw, dx, AR, rfl, upd_same, RowsAt.same ⟨hl0, hA⟩ sx, g, fun H5 u5 R5 => ⟨rfl, ?_⟩⟩
      have s35 : Same H3 H5 := fun b o hb => u5 b o (sx b o hb) (ne_of_none hb nx)
      have s5 := s3.trans s35
      refine ⟨_, rfl, D, .ref lr, rfl, (by rw [← vr]; exact DGet.k (k := Sum.inr ("right" : Str)) (s35 _ _ hD3)), fun x2 dx2 nx2 nd2 nxd2 => ?_⟩
      have sx2 : Same H5 (upd (upd H5 dx2 (.own x2)) x2 (.ins Cg dx2 [])) := fun b o hb => by
        rw [upd_ne (ne_of_none hb nx2), upd_ne (ne_of_none hb nd2)]
        exact hb
      cases eG : wrGD (rowsOf AR) (.list (sortD "right" ls)) with
      | some i => exact .inl ⟨x2, x, dx2, .ref lr, .list (sortD "right" ls), 90, 2, AR, rfl, upd_same, Same.riv sx2 R5, g, (qr.same s35).same sx2, .lst _ hsr hlr2, by omega, by omega, fun j hj => tellsU_of (kGe j hj) s5 nx2 nd2, fun hn => by rw [eG] at hn; cases hn⟩
      | none =>
        obtain ⟨BB, eB, bB⟩ := wrGD_none eG
        injection eB with eB
        obtain ⟨lr2, ws2, ds2, e3, e4, hl2, hws2⟩ := dqL qr rfl
        cases e3
        injection e4 with e4
        subst e4
        rw [eB] at hws2
        obtain ⟨BR, rfl, rfl, hB⟩ := dq_trips hws2
        refine .inr ⟨x2, x, lr, dx2, AR, BR, rfl, upd_same, Same.riv sx2 R5, g, ⟨sx2 _ _ (s35 _ _ hl2), fun z hz => sx2 _ _ (s35 _ _ (hB z hz))⟩, bB, fun H6 u6 R6 => ⟨rfl, ?_⟩⟩
        exact kGg _ bB eB x2 x H6 AR BR (s5.trans fun b o hb => u6 b o (sx2 b o hb) (ne_of_none hb nx2)) ⟨R6, g, bB⟩ rfl rfl
end
end K0
end
section
set_option Elab.async false
set_option linter.all false
set_option maxRecDepth 100000
set_option maxHeartbeats 4000000
namespace K0
open PySem PySem.Spec PyProof.Rows L2 TL
/-! ### a chart is written -/
abbrev scWriteChart_N : List Str := ["rights", "lines", "weir", "low", "name", "intake", "last"]
abbrev scWriteChart_S : Stmt := sWriteChart
theorem scWriteChart : FnScope scWriteChart_N ["rights"] (defScope sWriteChart) := ⟨rfl, rfl, rfl, by decide +kernel, rfl, by decide +kernel, by decide +kernel⟩
def weirL (r : Row) : Str := Str.empty ++ ("weir " : Str) ++ r.1 ++ (" " : Str) ++ r.2
def rightL (r : RRow) : Str := Str.empty ++ ("right " : Str) ++ r.1 ++ (" " : Str) ++ r.2.1 ++ (" " : Str) ++ r.2.2
def chartL (R : List Row) (B : List RRow) : List Str := R.map weirL ++ B.map rightL
def spWrite (Cg Cr : Addr) : Sp := fun vs H Q _ => ∃ (p q : Addr) (AR : List (Addr × Row)) (BR : List (Addr × RRow)), vs = [.ref p] ∧ RigOk Cg Cr H p q AR BR ∧ ∀ H', Same H H' → Q (.str (Txt.join "\n" (chartL (rowsOf AR) (bOf BR)))) H'
theorem len_cat (a b : Str) : (a ++ b).length = a.length + b.length := strLen_append a b
theorem row_len {R : List Row} (g : GoodRows R) {r : Row} (h : r ∈ R) : r.1.length ≤ 8 ∧ r.2.length ≤ 8 := by
  have st : ∀ {y : Str}, NameOk y → y.length ≤ 8 := fun h => by rw [len_list]; exact h.most
  refine ⟨st (g.nm.ok _ (List.mem_map_of_mem (f := (·.1)) h)), ?_⟩
  obtain ⟨rk, hr⟩ := g.rank
  rcases hr r h with e | ⟨e, _⟩
  · rw [e]; decide +kernel
  · exact st (g.nm.ok _ e)
theorem trip_len {R : List Row} (g : GoodRows R) {B : List RRow} (b : RtOk R B) {r : RRow} (h : r ∈ B) : r.1.length ≤ 8 ∧ r.2.1.length ≤ 8 ∧ r.2.2.length ≤ 8 := by
  have st : ∀ {y : Str}, NameOk y → y.length ≤ 8 := fun h => by rw [len_list]; exact h.most
  refine ⟨st (b.ok r h), st (g.nm.ok _ (b.inn r h)), ?_⟩
  rcases b.last r h with e | e
  · rw [e]; decide +kernel
  · exact st (g.nm.ok _ (course_sub g (b.inn r h) _ e))
def teW : TE := fun σ H Q => tJs [tC (.str "weir "), tFmt (tVar 2), tC (.str " "), tFmt (tVar 3)] Str.empty σ H fun out H1 => Q (.str out) H1
def teR : TE := fun σ H Q => tJs [tC (.str "right "), tFmt (tVar 4), tC (.str " "), tFmt (tVar 5), tC (.str " "), tFmt (tVar 6)] Str.empty σ H fun out H1 => Q (.str out) H1
theorem sum_len {m : Nat} : ∀ {ls : List Str}, (∀ l ∈ ls, l.length ≤ m) → (ls.map (·.length)).sum ≤ ls.length * m
  | [], _ => Nat.zero_le _
  | l :: r, h => by
    have h1 := h l List.mem_cons_self
    have h2 := sum_len (ls := r) fun z hz => h z (List.mem_cons_of_mem _ hz)
    rw [List.map_cons, List.sum_cons, List.length_cons, Nat.succ_mul]
    omega
theorem weirL_len {R : List Row} (g : GoodRows R) {r : Row} (h : r ∈ R) : (weirL r).length ≤ 40 := by
  obtain ⟨n1, n2⟩ := row_len g h
  have e0 : Str.empty.length = 0 := rfl
  have e5 : ("weir " : Str).length = 5 := by decide +kernel
  have e1 : (" " : Str).length = 1 := by decide +kernel
  unfold weirL
  simp only [len_cat]
  omega
theorem rightL_len {R : List Row} (g : GoodRows R) {B : List RRow} (b : RtOk R B) {r : RRow} (h : r ∈ B) : (rightL r).length ≤ 40 := by
  obtain ⟨n1, n2, n3⟩ := trip_len g b h
  have e0 : Str.empty.length = 0 := rfl
  have e6 : ("right " : Str).length = 6 := by decide +kernel
  have e1 : (" " : Str).length = 1 := by decide +kernel
  unfold rightL
  simp only [len_cat]
  omega
theorem chartL_len {R : List Row} (g : GoodRows R) {B : List RRow} (b : RtOk R B) : (∀ l ∈ chartL R B, l.length ≤ 40) ∧ (chartL R B).length ≤ 80 := by
  refine ⟨fun l hl => ?_, ?_⟩
  · rcases List.mem_append.mp hl with h | h
    · obtain ⟨r, hr, rfl⟩ := List.mem_map.mp h
      exact weirL_len g hr
    · obtain ⟨r, hr, rfl⟩ := List.mem_map.mp h
      exact rightL_len g b hr
  · have := g.most
    have := b.most
    unfold chartL
    rw [List.length_append, List.length_map, List.length_map]
    omega
section
variable {P : Program} {w : World} {K : PySem.W.Frag} {mg : Str → Option Value} {base : Heap} {tS tM tL : Tok}
theorem ok_write {f fR fS Cr Cg : Addr} {fd fdR fdS : FuncData} (F : FnP K "write_chart" sWriteChart f fd)
    (FR : FnM K "rows" "River.rows" sRows fR fdR) (Mrows : Meth K Cr "rows" fR) (FS : FnM K "rows" "Rights.rows" sGRows fS fdS) (MrowsG : Meth K Cg "rows" fS)
    (T : Rv K mg Cr) (TG : Rg K mg Cg) (B : Bl mg) : FnOk P w K mg base CX0 2 f fd ["rights"] (spWrite Cg Cr) := by
  have Grows : FnOk P w K mg base CX0 1 fR fdR ["self"] (spRows Cr) := ok_rows FR T B
  have brows : Binds K fdR ["self"] [] := FR.bindsN fun _ _ _ _ _ _ us hl => match us, hl with | [_], _ => rfl
  have GrowsG : FnOk P w K mg base CX0 1 fS fdS ["self"] (spRowsG Cg Cr) := ok_rowsG FS TG B
  have browsG : Binds K fdS ["self"] [] := FS.bindsN fun _ _ _ _ _ _ us hl => match us, hl with | [_], _ => rfl
  refine F.ok scWriteChart (fun vs H Q E h => ?_) (fun cdv A outer s H vs Q E hr h => ?_)
  · obtain ⟨p, q, AR, BR, rfl, _⟩ := h
    rfl
  · obtain ⟨p, q, AR, BR, rfl, G, kk⟩ := h
    have hu := hu_of hr
    have hrrows : Room 1 _ := hr
    refine ⟨_, PSs.nox (pss_cons
      (ps_setLc (i := 1) (own := [("weir", 2), ("low", 3)])  (tt := tYes) (by rfl) scWriteChart.nd rfl rfl (sw_true rfl rfl rfl (by decide +kernel)) (pi_list (pe_meth0 (fldK (K := K) (pv 0) rfl) T.cl Mrows Grows hrrows brows .nil pass0)) (blkOk_by (own := [("weir", 2), ("low", 3)]) (N := scWriteChart_N) (sc := defScope scWriteChart_S) (by decide +kernel)) (fun _ _ _ _ _ => (tgK (K := K) (n := 2) (by rfl) (pgs_cons (pg_name (i := 2) scWriteChart.nd rfl (Or.inl rfl)) (pgs_cons (pg_name (i := 3) scWriteChart.nd rfl (Or.inl rfl)) pgs_nil)))) (fun _ _ _ _ _ => pts_nil) (fun _ _ _ _ _ => (pe_joined (.cons pe_str (.cons (pe_fmt (pv 2)) (.cons pe_str (.cons (pe_fmt (pv 3)) .nil)))))))
      (pss_cons
      (ps_expr (pe_bm PySem.F.plainAttrs_list PySem.F.slot_list_extend PySem.F.type_list_extend mt_extend (pv 1) (pa_cons (pe_lc (own := [("name", 4), ("intake", 5), ("last", 6)])  (tt := tYes) (by rfl) scWriteChart.nd (pi_list (pe_meth0 (pv 0) TG.cl MrowsG GrowsG hrrows browsG .nil pass0)) (blkOk_by (own := [("name", 4), ("intake", 5), ("last", 6)]) (N := scWriteChart_N) (sc := defScope scWriteChart_S) (by decide +kernel)) (fun _ _ _ _ _ => (tgK (K := K) (n := 3) (by rfl) (pgs_cons (pg_name (i := 4) scWriteChart.nd rfl (Or.inl rfl)) (pgs_cons (pg_name (i := 5) scWriteChart.nd rfl (Or.inl rfl)) (pgs_cons (pg_name (i := 6) scWriteChart.nd rfl (Or.inl rfl)) pgs_nil))))) (fun _ _ _ _ _ => pts_nil) (fun _ _ _ _ _ => (pe_joined (.cons pe_str (.cons (pe_fmt (pv 4)) (.cons pe_str (.cons (pe_fmt (pv 5)) (.cons pe_str (.cons (pe_fmt (pv 6)) .nil))))))))) pa_nil)))
      (pss_one
      (ps_ret (pe_join pe_str (pv 1)))))), ?_⟩
    have z40 : 40000 ≤ sizeLine := by rw [sizeLine_eq]; omega
    obtain ⟨dx, tn, tr, dw, dl, dp, h1, h2, h3, h4, h5, h6, h7, h8⟩ := id G.at_.ex
    obtain ⟨dxq, tw, tqr, db, dc, da, du, o, q1, q2, q3, q4, q5, q6, q7, q8, q9⟩ := id h2.ex
    have hAl : AR.length ≤ 40 := by have := G.g.most; rw [List.length_map] at this; exact this
    have hBl : BR.length ≤ 40 := by have := G.b.most; rw [List.length_map] at this; exact this
    refine ⟨_, rfl, p, Cg, dx, _, _, rfl, h1, TG.cl, TG.river, rr6r _ _ _ _ _ _, q, dxq, _, rfl, q1, rfl, q, AR, rfl, h2, fun l nl => ?_⟩
    have s1 := same_upd nl (o := .lst (AR.map fun q => .ref q.1))
    have hl1 : (upd H l (.lst (AR.map fun q => V.ref q.1))) l = some (.lst (AR.map fun q => V.ref q.1)) := upd_same
    generalize upd H l (.lst (AR.map fun q => V.ref q.1)) = H1 at s1 hl1
    refine ⟨l, rfl, ⟨_, .inl (.inl hl1)⟩, fun D nD => ?_⟩
    refine lc_listO (K := K) (te := teW) (a := l) (xs := AR.map fun q => V.ref q.1) nD (fun j => (((rowsOf AR).take j).map weirL).map V.str) (by rw [List.take_zero]; rfl) (fun j _ => by rw [List.length_map, List.length_map, List.length_take, List.length_map]; exact small1000 (by omega)) (.inl (.inl hl1)) ?_ ?_
    · intro j x H3 Nx hx s3 put skip
      have hi : j < AR.length := by
        have := (List.getElem?_eq_some_iff.mp hx).1
        rw [List.length_map] at this
        exact this
      have ex := row_at hx hi
      subst ex
      obtain ⟨n1, n2⟩ := row_len G.g (List.mem_map_of_mem (f := (·.2)) (List.getElem_mem hi))
      refine ⟨AR[j].1, _, rfl, .inl (.inl (s3 _ _ (s1 _ _ (q4 _ (List.getElem_mem hi))))), rfl, _, _, rfl, _, _, rfl, rfl, rfl, ?_⟩
      refine tyes_i (iteT ?_)
      have e0 : Str.empty.length = 0 := rfl
      have e5 : ("weir " : Str).length = 5 := by decide +kernel
      have e1 : (" " : Str).length = 1 := by decide +kernel
      refine ⟨_, rfl, (by simp only [len_cat]; omega), _, rfl, .inl ⟨AR[j].2.1, rfl, by omega, _, rfl, (by simp only [len_cat]; omega), _, rfl, (by simp only [len_cat]; omega), _, rfl, .inl ⟨AR[j].2.2, rfl, by omega, _, rfl, (by simp only [len_cat]; omega), ?_⟩⟩⟩
      refine put _ _ (.refl _) ?_
      have e : (rowsOf AR)[j]? = some AR[j].2 := by
        rw [List.getElem?_map, List.getElem?_eq_getElem hi]
        rfl
      rw [List.take_add_one, e, List.map_append, List.map_append]
      rfl
    intro H2 s2 hD2
    rw [List.length_map, ← List.length_map (f := (·.2)) (as := AR), List.take_length] at hD2
    have s02 := s1.trans s2
    have G2 := G.same s02
    have k2 : ∀ b o, H b = some o → b ≠ D := fun b o hb => ne_of_none (s1 b o hb) nD
    refine ⟨_, rfl, ⟨.inl ⟨rfl, _, .inl (.inl hD2)⟩, ?_⟩⟩
    refine ⟨_, rfl, p, dx, _, rfl, s02 _ _ h1, rr6no _ _ _ _ _ _ (by decide +kernel), p, q, AR, BR, rfl, G2, fun l2 nl2 => ?_⟩
    have s3 := same_upd nl2 (o := .lst (BR.map fun q => .ref q.1))
    have hl3 : (upd H2 l2 (.lst (BR.map fun q => V.ref q.1))) l2 = some (.lst (BR.map fun q => V.ref q.1)) := upd_same
    have hD3 := s3 _ _ hD2
    have s03 := s02.trans s3
    generalize upd H2 l2 (.lst (BR.map fun q => V.ref q.1)) = H3 at s3 hl3 hD3 s03
    refine ⟨l2, rfl, ⟨_, .inl (.inl hl3)⟩, fun D2 nD2 => ?_⟩
    refine lc_listO (K := K) (te := teR) (a := l2) (xs := BR.map fun q => V.ref q.1) nD2 (fun j => (((bOf BR).take j).map rightL).map V.str) (by rw [List.take_zero]; rfl) (fun j _ => by rw [List.length_map, List.length_map, List.length_take, List.length_map]; exact small1000 (by omega)) (.inl (.inl hl3)) ?_ ?_
    · intro j x H4 Nx hx s4 put skip
      rw [List.getElem?_map] at hx
      obtain ⟨b, hb, rfl⟩ := Option.map_eq_some_iff.mp hx
      have hbm := List.mem_of_getElem? hb
      obtain ⟨n1, n2, n3⟩ := trip_len G.g G.b (List.mem_map_of_mem (f := (·.2)) hbm)
      refine ⟨b.1, _, rfl, .inl (.inl (s4 _ _ (s03 _ _ (h5 _ hbm)))), rfl, _, _, rfl, _, _, rfl, _, _, rfl, rfl, rfl, ?_⟩
      refine tyes_i (iteT ?_)
      have e0 : Str.empty.length = 0 := rfl
      have e6 : ("right " : Str).length = 6 := by decide +kernel
      have e1 : (" " : Str).length = 1 := by decide +kernel
      refine ⟨_, rfl, (by simp only [len_cat]; omega), _, rfl, .inl ⟨b.2.1, rfl, by omega, _, rfl, (by simp only [len_cat]; omega), _, rfl, (by simp only [len_cat]; omega), _, rfl, .inl ⟨b.2.2.1, rfl, by omega, _, rfl, (by simp only [len_cat]; omega), _, rfl, (by simp only [len_cat]; omega), _, rfl, .inl ⟨b.2.2.2, rfl, by omega, _, rfl, (by simp only [len_cat]; omega), ?_⟩⟩⟩⟩
      refine put _ _ (.refl _) ?_
      have e : (bOf BR)[j]? = some b.2 := by
        rw [List.getElem?_map, hb]
        rfl
      rw [List.take_add_one, e, List.map_append, List.map_append]
      rfl
    intro H4 s4 hD4
    rw [List.length_map, ← List.length_map (f := (·.2)) (as := BR), List.take_length] at hD4
    have hDD := s4 _ _ hD3
    have lR : ((rowsOf AR).map weirL).length ≤ 40 := by rw [List.length_map, List.length_map]; exact hAl
    have lB : ((bOf BR).map rightL).length ≤ 40 := by rw [List.length_map, List.length_map]; exact hBl
    refine ⟨D, D2, _, _, rfl, rfl, hDD, hD4, by simp only [List.length_map] at lR lB ⊢; omega, ?_⟩
    have hF : (upd H4 D (.lst (((rowsOf AR).map weirL).map V.str ++ ((bOf BR).map rightL).map V.str))) D = some (.lst ((chartL (rowsOf AR) (bOf BR)).map V.str)) := by
      rw [upd_same, chartL, List.map_append]
    have sF : Same H (upd H4 D (.lst (((rowsOf AR).map weirL).map V.str ++ ((bOf BR).map rightL).map V.str))) := fun b o hb => by
      rw [upd_ne (k2 b o hb)]
      exact s4 _ _ (s03 _ _ hb)
    generalize upd H4 D (.lst (((rowsOf AR).map weirL).map V.str ++ ((bOf BR).map rightL).map V.str)) = H5 at hF sF
    obtain ⟨c1, c2⟩ := chartL_len G.g G.b
    have c3 := sum_len c1
    refine ⟨⟨_, rfl⟩, _, rfl, _, D, _, rfl, rfl, .inl (.inl (.inl hF)), ?_, kk H5 sF⟩
    have e1 : ("\n" : Str).length = 1 := by decide +kernel
    rw [e1]
    omega
end
end K0
end
section
set_option Elab.async false
set_option linter.all false
set_option maxRecDepth 100000
set_option maxHeartbeats 2000000
namespace K0
open PySem PySem.Spec PyProof.Rows L2
/-! ### the other methods of rights, of names and weirs that are there -/
abbrev sGIntake : Stmt := inClass sRights 7
abbrev sGPasses : Stmt := inClass sRights 11
def firstW (l : List Str) : Str := l.headD ""
theorem way_first {R : List Row} (g : GoodRows R) {B : List RRow} (b : RtOk R B) {n : Str} (hn : n ∈ rnm B) : atI ((wayN R B n).map V.str) 0 = some (.str (firstW (wayN R B n))) := by
  have h := (last_in g b hn).1
  refine atI_nat (j := 0) ?_
  cases e : wayN R B n with
  | nil => rw [e] at h; cases h
  | cons a l => rfl
theorem scGIntake : FnScope ["self", "name"] ["self", "name"] (defScope sGIntake) := ⟨rfl, rfl, rfl, by decide +kernel, rfl, by decide +kernel, by decide +kernel⟩
theorem scGPasses : FnScope ["self", "name", "weir"] ["self", "name", "weir"] (defScope sGPasses) := ⟨rfl, rfl, rfl, by decide +kernel, rfl, by decide +kernel, by decide +kernel⟩
def spIntG (Cg Cr : Addr) : Sp := fun vs H Q _ => ∃ (p q : Addr) (n : Str) (AR : List (Addr × Row)) (BR : List (Addr × RRow)), vs = [.ref p, .str n] ∧ RigOk Cg Cr H p q AR BR ∧ n ∈ rnm (bOf BR) ∧ Q (.str (firstW (wyN AR BR n))) H
def spPassesG (Cg Cr : Addr) : Sp := fun vs H Q _ => ∃ (p q : Addr) (n y : Str) (AR : List (Addr × Row)) (BR : List (Addr × RRow)), vs = [.ref p, .str n, .str y] ∧ RigOk Cg Cr H p q AR BR ∧ n ∈ rnm (bOf BR) ∧ y ∈ namesOf AR ∧ Q (.bl (decide (y ∈ wyN AR BR n))) H
section
variable {P : Program} {w : World} {K : PySem.W.Frag} {mg : Str → Option Value} {base : Heap} {tS tM tL : Tok}
theorem ok_intG {f Cg Cr : Addr} {fd : FuncData} (F : FnM K "intake" "Rights.intake" sGIntake f fd) (D : NdG P w K mg base Cg Cr) (TG : Rg K mg Cg) : FnOk P w K mg base CX0 3 f fd ["self", "name"] (spIntG Cg Cr) := by
  obtain ⟨fN, fdN, Fneed_right, gneed_right, Gneed_right⟩ := D.ex
  have bneed_right : Binds K fdN ["rights", "name"] [] := Fneed_right.bindsN fun _ _ _ _ _ _ us hl => match us, hl with | [_, _], _ => rfl
  refine F.ok scGIntake (fun vs H Q E h => ?_) (fun cdv A outer s H vs Q E hr h => ?_)
  · obtain ⟨p, q, n, AR, BR, rfl, _⟩ := h
    rfl
  · obtain ⟨p, q, n, AR, BR, rfl, R, hn, k⟩ := h
    have hu := hu_of hr
    have hrneed_right : Room 2 _ := hr
    refine ⟨_, PSs.nox (pss_cons
      (ps_expr (pe_call Gneed_right hrneed_right (by rfl) gneed_right Fneed_right.kp bneed_right .nil pass0 (pa_cons (pv 0) (pa_cons (pv 1) pa_nil))))
      (pss_one
      (ps_ret (pe_ix (ixTK (K := K)) (pe_dget hu (fldK (K := K) (pv 0) rfl) (pv 1) (fun _ _ => rfl)) pe_int (fun _ _ => rfl))))), ?_⟩
    obtain ⟨dx, tn, tr, dw, dl, dp, h1, h2, h3, h4, h5, h6, h7, h8⟩ := id R.at_.ex
    obtain ⟨ta, w1, w2⟩ := h6.ex
    refine ⟨_, rfl, _, rfl, p, q, n, AR, BR, rfl, R, hn, ?_⟩
    exact ⟨_, rfl, p, Cg, dx, _, _, rfl, h1, TG.cl, TG._ways, rr6w _ _ _ _ _ _, _, rfl, dw, _, rfl, dget_rn (.inl w1) hn, ta n, _, _, _, rfl, rfl, .inl (w2 n hn), way_first R.g R.b hn, k⟩
theorem ok_passesG {f Cg Cr : Addr} {fd : FuncData} (F : FnM K "passes" "Rights.passes" sGPasses f fd) (D : NdG P w K mg base Cg Cr) (DW : NdS P w K mg base Cr) (TG : Rg K mg Cg) : FnOk P w K mg base CX0 3 f fd ["self", "name", "weir"] (spPassesG Cg Cr) := by
  obtain ⟨fN, fdN, Fneed_right, gneed_right, Gneed_right⟩ := D.ex
  have bneed_right : Binds K fdN ["rights", "name"] [] := Fneed_right.bindsN fun _ _ _ _ _ _ us hl => match us, hl with | [_, _], _ => rfl
  obtain ⟨fW, fdW, Fneed_weir, gneed_weir, Gneed_weir⟩ := DW.ex
  have bneed_weir : Binds K fdW ["river", "weir"] [] := Fneed_weir.bindsN fun _ _ _ _ _ _ us hl => match us, hl with | [_, _], _ => rfl
  refine F.ok scGPasses (fun vs H Q E h => ?_) (fun cdv A outer s H vs Q E hr h => ?_)
  · obtain ⟨p, q, n, y, AR, BR, rfl, _⟩ := h
    rfl
  · obtain ⟨p, q, n, y, AR, BR, rfl, R, hn, hy, k⟩ := h
    have hu := hu_of hr
    have hrneed_right : Room 2 _ := hr
    have hrneed_weir : Room 2 _ := hr
    refine ⟨_, PSs.nox (pss_cons
      (ps_expr (pe_call Gneed_right hrneed_right (by rfl) gneed_right Fneed_right.kp bneed_right .nil pass0 (pa_cons (pv 0) (pa_cons (pv 1) pa_nil))))
      (pss_cons
      (ps_expr (pe_call Gneed_weir hrneed_weir (by rfl) gneed_weir Fneed_weir.kp bneed_weir .nil pass0 (pa_cons (fldK (K := K) (pv 0) rfl) (pa_cons (pv 2) pa_nil))))
      (pss_one
      (ps_ret (pe_cmpR (inK (K := K)) (pv 2) (pe_dget hu (fldK (K := K) (pv 0) rfl) (pv 1) (fun _ _ => rfl)) (by rfl)))))), ?_⟩
    obtain ⟨dx, tn, tr, dw, dl, dp, h1, h2, h3, h4, h5, h6, h7, h8⟩ := id R.at_.ex
    obtain ⟨ta, w1, w2⟩ := h6.ex
    refine ⟨_, rfl, _, rfl, p, q, n, AR, BR, rfl, R, hn, ?_⟩
    refine ⟨_, rfl, p, Cg, dx, _, _, rfl, h1, TG.cl, TG.river, rr6r _ _ _ _ _ _, _, rfl, q, y, AR, rfl, h2, hy, ?_⟩
    refine ⟨_, rfl, _, rfl, p, Cg, dx, _, _, rfl, h1, TG.cl, TG._ways, rr6w _ _ _ _ _ _, _, rfl, dw, _, rfl, dget_rn (.inl w1) hn, ta n, _, rfl, .inr (.inl (w2 n hn)), rfl, flat_strs _, ?_⟩
    have e : inV (.str y) ((wayN (rowsOf AR) (bOf BR) n).map V.str) = decide (y ∈ wayN (rowsOf AR) (bOf BR) n) := inV_str _ _
    rw [if_neg Bool.false_ne_true, e]
    exact k
end
end K0
end
section
set_option Elab.async false
set_option linter.all false
set_option maxRecDepth 100000
set_option maxHeartbeats 4000000
namespace K0
open PySem PySem.Spec PyProof.Rows L2
/-! ### the way of a row -/
abbrev scLWay_N : List Str := ["_law_rows", "_law_right", "_law_course_here"]
abbrev scLWay_S : Stmt := sLWay
theorem scLWay : FnScope scLWay_N ["_law_rows", "_law_right"] (defScope sLWay) := ⟨rfl, rfl, rfl, by decide +kernel, rfl, by decide +kernel, by decide +kernel⟩
def spLWay : Sp := fun vs H Q _ => ∃ (l t : Addr) (AR : List (Addr × Row)) (r : RRow), vs = [.ref l, .ref t] ∧ RowsAt H l AR ∧ GoodRows (rowsOf AR) ∧ H t = some (.tup [.str r.1, .str r.2.1, .str r.2.2]) ∧ r.2.1 ∈ namesOf AR ∧ (r.2.2 = "sea" ∨ r.2.2 ∈ course (rowsOf AR) r.2.1) ∧
  ∀ (H' : Hp) (c : Addr), Same H H' → H c = none → H' c = some (.lst ((wayB (rowsOf AR) r).map V.str)) → Q (.ref c) H'
section
variable {P : Program} {w : World} {K : PySem.W.Frag} {mg : Str → Option Value} {base : Heap} {tS tM tL : Tok}
theorem ok_lway {f fC : Addr} {fd fdC : FuncData} (F : FnP K "_law_way" sLWay f fd) (F_law_course : FnP K "_law_course" sLCourse fC fdC) (g_law_course : mg "_law_course" = some (.ref fC)) (B : Bl mg) : FnOk P w K mg base CX0 2 f fd ["_law_rows", "_law_right"] spLWay := by
  have G_law_course : FnOk P w K mg base CX0 1 fC fdC ["_law_rows", "_law_weir"] spLCourse := ok_lcourse F_law_course B
  have b_law_course : Binds K fdC ["_law_rows", "_law_weir"] [] := F_law_course.bindsN fun _ _ _ _ _ _ us hl => match us, hl with | [_, _], _ => rfl
  refine F.ok scLWay (fun vs H Q E h => ?_) (fun cdv A outer s H vs Q E hr h => ?_)
  · obtain ⟨l, t, AR, r, rfl, _⟩ := h
    rfl
  · obtain ⟨l, t, AR, r, rfl, hR, hG, ht, hi, hl, k⟩ := h
    have hr_law_course : Room 1 _ := hr
    refine ⟨_, PSs.nox (pss_cons
      (ps_set (i := 2) scLWay.nd rfl (Or.inl rfl) (pe_call G_law_course hr_law_course (by rfl) g_law_course F_law_course.kp b_law_course .nil pass0 (pa_cons (pv 0) (pa_cons (pe_ix (ixTK (K := K)) (pv 1) pe_int (fun _ _ => rfl)) pa_nil))))
      (pss_one
      (ps_ret (pe_ifExp (pt_cmpR op_eq (pe_ix (ixTK (K := K)) (pv 1) pe_int (fun _ _ => rfl)) pe_str (nomark _)) (pv 2) (pe_slice sl_list (pv 2) po_none (po_some (pe_op op_add (pe_bm PySem.F.plainAttrs_list PySem.F.slot_list_index PySem.F.type_list_index mt_index (pv 2) (pa_cons (pe_ix (ixTK (K := K)) (pv 1) pe_int (fun _ _ => rfl)) pa_nil)) pe_int))))))), ?_⟩
    refine ⟨_, rfl, _, rfl, t, _, _, _, rfl, rfl, .inl (.inl ht), atI_nat (j := 1) rfl, l, AR, r.2.1, rfl, hR, hG, hi, fun H1 c s1 hc0 hc => ?_⟩
    have ht1 := s1 _ _ ht
    refine ⟨_, rfl, t, _, _, _, rfl, rfl, .inl (.inl ht1), atI_nat (j := 2) rfl, rfl, _, rfl, ?_⟩
    refine ite2 (fun e => ?_) (fun e => ?_)
    · have e : r.2.2 = "sea" := V.str.inj (of_decide_eq_true e)
      refine ⟨_, rfl, k H1 c s1 hc0 ?_⟩
      unfold wayB
      rw [if_pos e]
      exact hc
    · have e : ¬ r.2.2 = "sea" := fun z => e (decide_eq_true (congrArg V.str z))
      have hin := hl.resolve_left e
      have hlt := List.idxOf_lt_length_iff.mpr hin
      have hat : ((course (rowsOf AR) r.2.1).map V.str)[(course (rowsOf AR) r.2.1).idxOf r.2.2]? = some (.str r.2.2) := by
        rw [List.getElem?_map, List.getElem?_eq_getElem hlt, List.getElem_idxOf]
        rfl
      have hfst : ∀ (m : Nat) (z : V), m < (course (rowsOf AR) r.2.1).idxOf r.2.2 → ((course (rowsOf AR) r.2.1).map V.str)[m]? = some z → eqV z (.str r.2.2) = false := fun m z hm e2 => by
        rw [List.getElem?_map] at e2
        obtain ⟨y, hy, rfl⟩ := Option.map_eq_some_iff.mp e2
        rw [eqV_str]
        refine decide_eq_false fun e3 => ?_
        have q := List.not_of_lt_findIdx (p := fun z => z == r.2.2) (xs := course (rowsOf AR) r.2.1) hm
        obtain ⟨hml, e4⟩ := List.getElem?_eq_some_iff.mp hy
        rw [e4, e3, beq_self_eq_true] at q
        cases q
      refine ⟨_, rfl, _, rfl, .inl ⟨rfl, _, .inl (.inl hc)⟩, _, rfl, t, _, _, .str r.2.2, rfl, rfl, .inl (.inl ht1), atI_nat (j := 2) rfl, ?_⟩
      refine ⟨c, _, .str r.2.2, _, .str r.2.2, rfl, rfl, .inl (.inl hc), rfl, flat_strs _, hat, by rw [eqV_str]; exact decide_eq_true rfl, hfst, ?_⟩
      refine ⟨_, _, rfl, rfl, _, rfl, c, _, rfl, .inl (.inl hc), fun z nz => ?_⟩
      refine k _ z (s1.trans (same_upd nz)) ?_ ?_
      · cases e : H z with
        | none => rfl
        | some o =>
          rw [s1 _ _ e] at nz
          cases nz
      · rw [upd_same]
        unfold wayB
        rw [if_neg (by assumption)]
        have e9 : (((course (rowsOf AR) r.2.1).idxOf r.2.2 : Nat) : Int) + 1 = (((course (rowsOf AR) r.2.1).idxOf r.2.2 + 1 : Nat) : Int) := by omega
        rw [e9, cut_take, List.map_take]
end
end K0
end
section
set_option Elab.async false
set_option linter.all false
set_option maxRecDepth 100000
set_option maxHeartbeats 4000000
namespace K0
open PySem PySem.Spec PyProof.Rows L2 TL
/-! ### a mark, a line of a table -/
def markW (W : List Str) (y : Str) : Str := if firstW W = y then (if lastW W = y then "both" else "in") else if lastW W = y then "out" else if y ∈ W then "by" else "-"
theorem mark_len (W : List Str) (y : Str) : (markW W y).length ≤ 8 := by
  unfold markW
  have a : ("both" : Str).length ≤ 8 := by decide +kernel
  have b : ("in" : Str).length ≤ 8 := by decide +kernel
  have c : ("out" : Str).length ≤ 8 := by decide +kernel
  have d : ("by" : Str).length ≤ 8 := by decide +kernel
  have e : ("-" : Str).length ≤ 8 := by decide +kernel
  repeat' split
  all_goals assumption
abbrev scMark_N : List Str := ["rights", "name", "weir", "begins", "ends"]
abbrev scMark_S : Stmt := sMark
theorem scMark : FnScope scMark_N ["rights", "name", "weir"] (defScope sMark) := ⟨rfl, rfl, rfl, by decide +kernel, rfl, by decide +kernel, by decide +kernel⟩
def spMark (Cg Cr : Addr) : Sp := fun vs H Q _ => ∃ (p q : Addr) (n y : Str) (AR : List (Addr × Row)) (BR : List (Addr × RRow)), vs = [.ref p, .str n, .str y] ∧ RigOk Cg Cr H p q AR BR ∧ n ∈ rnm (bOf BR) ∧ y ∈ namesOf AR ∧ Q (.str (markW (wyN AR BR n) y)) H
abbrev scTLine_N : List Str := ["head", "cells", "cell"]
abbrev scTLine_S : Stmt := sTableLine
theorem scTLine : FnScope scTLine_N ["head", "cells"] (defScope sTableLine) := ⟨rfl, rfl, rfl, by decide +kernel, rfl, by decide +kernel, by decide +kernel⟩
def cellL (c : Str) : Str := Str.empty ++ (" " : Str) ++ Txt.rjust c 8
def tlineL (h : Str) (cs : List Str) : Str := Txt.ljust h 8 ++ Txt.join "" (cs.map cellL)
theorem pad_len {c : Str} (h : c.length ≤ 8) : (Txt.rjust c 8).length = 8 ∧ (Txt.ljust c 8).length = 8 := by
  have a := len_rjust c 8
  have b := len_ljust c 8
  by_cases e : (c.length : Int) < 8
  · rw [decide_eq_true e, if_pos rfl] at a b
    omega
  · rw [decide_eq_false e, if_neg Bool.false_ne_true] at a b
    omega
theorem cellL_len {c : Str} (h : c.length ≤ 8) : (cellL c).length = 9 := by
  have e0 : Str.empty.length = 0 := rfl
  have e1 : (" " : Str).length = 1 := by decide +kernel
  have := (pad_len h).1
  unfold cellL
  simp only [len_cat]
  omega
theorem cells_len {cs : List Str} (h : ∀ c ∈ cs, c.length ≤ 8) (hl : cs.length ≤ 40) : (Txt.join "" (cs.map cellL)).length ≤ 400 := by
  rw [len_tl, join_eq, tl_join]
  have key : ∀ ps : List (List Nat), (∀ p ∈ ps, p.length ≤ 9) → (joinL [] ps).length ≤ ps.length * 9 := by
    intro ps
    induction ps with
    | nil => intro _; simp [joinL]
    | cons p r ih =>
      intro hp
      have h1 := hp p List.mem_cons_self
      cases r with
      | nil =>
        simp only [joinL, List.length_singleton]
        omega
      | cons q r2 =>
        have h2 := ih fun z hz => hp z (List.mem_cons_of_mem _ hz)
        show (p ++ ([] ++ joinL [] (q :: r2))).length ≤ _
        rw [List.nil_append, List.length_append, List.length_cons, Nat.succ_mul]
        omega
  have e : tl "" = [] := by decide +kernel
  rw [e]
  have := key ((cs.map cellL).map tl) fun p hp => by
    obtain ⟨l, hl, rfl⟩ := List.mem_map.mp hp
    obtain ⟨c, hc, rfl⟩ := List.mem_map.mp hl
    rw [← len_tl, cellL_len (h c hc)]
    exact Nat.le_refl _
  rw [List.length_map, List.length_map] at this
  omega
def spTLine (K : PySem.W.Frag) : Sp := fun vs H Q _ => ∃ (h : Str) (c : Addr) (cs : List Str), vs = [.str h, .ref c] ∧ (H c = some (.lst (cs.map V.str)) ∨ H c = some (.tup (cs.map V.str))) ∧ h.length ≤ 8 ∧ (∀ x ∈ cs, x.length ≤ 8) ∧ cs.length ≤ 40 ∧ ∀ H', Same H H' → Q (.str (tlineL h cs)) H'
def teC : TE := fun σ H Q => tJs [tC (.str " "), tFmt (tM1 (fun x xs H Q => ∃ (a : Str) (i : Int), x = .str a ∧ xs = [.int i] ∧ PadOk i = true ∧ Q (.str (Txt.rjust a i)) H) (tVar 2) (tC (.int 8)))] Str.empty σ H fun out H1 => Q (.str out) H1
section
variable {P : Program} {w : World} {K : PySem.W.Frag} {mg : Str → Option Value} {base : Heap} {tS tM tL : Tok}
theorem ok_mark {f fI fL fP Cr Cg : Addr} {fd fdI fdL fdP : FuncData} (F : FnP K "_mark" sMark f fd) (FI : FnM K "intake" "Rights.intake" sGIntake fI fdI) (Mintake : Meth K Cg "intake" fI) (FL : FnM K "last" "Rights.last" sGLast fL fdL) (Mlast : Meth K Cg "last" fL)
    (FP : FnM K "passes" "Rights.passes" sGPasses fP fdP) (Mpasses : Meth K Cg "passes" fP) (D : NdG P w K mg base Cg Cr) (DW : NdS P w K mg base Cr) (TG : Rg K mg Cg) : FnOk P w K mg base CX0 4 f fd ["rights", "name", "weir"] (spMark Cg Cr) := by
  have Gintake : FnOk P w K mg base CX0 3 fI fdI ["self", "name"] (spIntG Cg Cr) := ok_intG FI D TG
  have Glast : FnOk P w K mg base CX0 3 fL fdL ["self", "name"] (spLastG Cg Cr) := ok_lastG FL D TG
  have Gpasses : FnOk P w K mg base CX0 3 fP fdP ["self", "name", "weir"] (spPassesG Cg Cr) := ok_passesG FP D DW TG
  have bintake : Binds K fdI ["self", "name"] [] := FI.bindsN fun _ _ _ _ _ _ us hl => match us, hl with | [_, _], _ => rfl
  have blast : Binds K fdL ["self", "name"] [] := FL.bindsN fun _ _ _ _ _ _ us hl => match us, hl with | [_, _], _ => rfl
  have bpasses : Binds K fdP ["self", "name", "weir"] [] := FP.bindsN fun _ _ _ _ _ _ us hl => match us, hl with | [_, _, _], _ => rfl
  refine F.ok scMark (fun vs H Q E h => ?_) (fun cdv A outer s H vs Q E hr h => ?_)
  · obtain ⟨p, q, n, y, AR, BR, rfl, _⟩ := h
    rfl
  · obtain ⟨p, q, n, y, AR, BR, rfl, G, hn, hy, kk⟩ := h
    have hrintake : Room 3 _ := hr
    have hrlast : Room 3 _ := hr
    have hrpasses : Room 3 _ := hr
    refine ⟨_, PSs.nox (pss_cons
      (ps_set (i := 3) scMark.nd rfl (Or.inl rfl) (pe_cmpR op_eq (pe_meth (pv 0) TG.cl Mintake Gintake hrintake bintake .nil pass0 (pa_cons (pv 1) pa_nil)) (pv 2) (nomark _)))
      (pss_cons
      (ps_set (i := 4) scMark.nd rfl (Or.inl rfl) (pe_cmpR op_eq (pe_meth (pv 0) TG.cl Mlast Glast hrlast blast .nil pass0 (pa_cons (pv 1) pa_nil)) (pv 2) (nomark _)))
      (pss_cons
      (ps_if (PW.pt (pw_and (pt_val (pv 3)) (pw_and1 (pt_val (pv 4))))) (pss_one
      (ps_ret pe_str)) pss_nil)
      (pss_cons
      (ps_if (pt_val (pv 3)) (pss_one
      (ps_ret pe_str)) pss_nil)
      (pss_cons
      (ps_if (pt_val (pv 4)) (pss_one
      (ps_ret pe_str)) pss_nil)
      (pss_one
      (ps_ret (pe_ifExp (pt_val (pe_meth (pv 0) TG.cl Mpasses Gpasses hrpasses bpasses .nil pass0 (pa_cons (pv 1) (pa_cons (pv 2) pa_nil)))) pe_str pe_str)))))))), ?_⟩
    obtain ⟨dx, tn, tr, dw, dl, dp, h1, h2, h3, h4, h5, h6, h7, h8⟩ := id G.at_.ex
    have hn0 : ∀ {m : Str}, (["river", "names", "_rows", "_ways", "_lasts", "_passing"] : List Str).contains m = false → (r6 (V.ref q) (V.ref tn) (V.ref tr) (V.ref dw) (V.ref dl) (V.ref dp)).lookup m = none := fun h => rr6no _ _ _ _ _ _ h
    refine ⟨_, rfl, p, dx, _, rfl, h1, hn0 (by decide +kernel), _, rfl, p, q, n, AR, BR, rfl, G, hn, _, rfl, ?_⟩
    have d1 : ∀ z : Str, decide (V.str z = V.str y) = decide (z = y) := fun z => decide_eq_decide.mpr ⟨V.str.inj, congrArg _⟩
    refine ⟨rfl, ?_⟩
    refine ⟨_, rfl, p, dx, _, rfl, h1, hn0 (by decide +kernel), _, rfl, p, q, n, AR, BR, rfl, G, hn, _, rfl, rfl, ?_⟩
    rw [d1, d1]
    unfold markW at kk
    by_cases a1 : firstW (wyN AR BR n) = y
    · rw [if_pos a1] at kk
      by_cases a2 : lastW (wyN AR BR n) = y
      · rw [if_pos a2] at kk
        rw [decide_eq_true a1, decide_eq_true a2]
        exact ⟨_, rfl, _, rfl, iteT ⟨_, rfl, _, rfl, iteT kk⟩⟩
      · rw [if_neg a2] at kk
        rw [decide_eq_true a1, decide_eq_false a2]
        exact ⟨_, rfl, _, rfl, iteT ⟨_, rfl, _, rfl, iteF ⟨_, rfl, _, rfl, iteT kk⟩⟩⟩
    · rw [if_neg a1] at kk
      by_cases a2 : lastW (wyN AR BR n) = y
      · rw [if_pos a2] at kk
        rw [decide_eq_false a1, decide_eq_true a2]
        exact ⟨_, rfl, _, rfl, iteF (iteF ⟨_, rfl, _, rfl, iteF ⟨_, rfl, _, rfl, iteT kk⟩⟩)⟩
      · rw [if_neg a2] at kk
        rw [decide_eq_false a1, decide_eq_false a2]
        refine ⟨_, rfl, _, rfl, iteF (iteF ⟨_, rfl, _, rfl, iteF ⟨_, rfl, _, rfl, iteF ?_⟩⟩)⟩
        refine ⟨_, rfl, p, dx, _, rfl, h1, hn0 (by decide +kernel), _, rfl, _, rfl, p, q, n, y, AR, BR, rfl, G, hn, hy, _, rfl, ?_⟩
        by_cases a3 : y ∈ wyN AR BR n
        · rw [if_pos a3] at kk
          rw [decide_eq_true a3]
          exact iteT kk
        · rw [if_neg a3] at kk
          rw [decide_eq_false a3]
          exact iteF kk
theorem ok_tline {f : Addr} {fd : FuncData} {tW : Tok} (F : FnP K "_table_line" sTableLine f fd) (gW : mg "WIDTH" = some (.int 8 tW)) : FnOk P w K mg base CX0 1 f fd ["head", "cells"] (spTLine K) := by
  refine F.ok scTLine (fun vs H Q E h => ?_) (fun cdv A outer s H vs Q E hr h => ?_)
  · obtain ⟨h, c, cs, rfl, _⟩ := h
    rfl
  · obtain ⟨h, c, cs, rfl, hc, h8, c8, cl, kk⟩ := h
    have e0 : Str.empty.length = 0 := rfl
    have e1 : (" " : Str).length = 1 := by decide +kernel
    have z40 : 40000 ≤ sizeLine := by rw [sizeLine_eq]; omega
    rcases hc with hc | hc
    · refine ⟨_, PSs.nox (pss_one
      (ps_ret (pe_op op_add_str (pe_m1 PySem.F.slot_str_ljust PySem.F.type_str_ljust mt_ljust (pv 0) (pe_glob (v := .int 8) (by rfl) gW ⟨_, rfl⟩) (by rfl) (by rfl) (by rfl)) (pe_join pe_str (pe_lc (own := [("cell", 2)]) (g := gName 2) (tt := tYes) (by rfl) scTLine.nd (pi_list (pv 1)) (blkOk_by (own := [("cell", 2)]) (N := scTLine_N) (sc := defScope scTLine_S) (by decide +kernel)) (fun _ _ _ _ _ => (pg_name (i := 2) scTLine.nd rfl (Or.inl rfl))) (fun _ _ _ _ _ => pts_nil) (fun _ _ _ _ _ => (pe_joined (.cons pe_str (.cons (pe_fmt (pe_m1 PySem.F.slot_str_rjust PySem.F.type_str_rjust mt_rjust (pv 2) (pe_glob (v := .int 8) (by rfl) gW ⟨_, rfl⟩) (by rfl) (by rfl) (by rfl))) .nil))))))))), ?_⟩
      refine ⟨_, rfl, ⟨_, rfl⟩, h, 8, rfl, rfl, by decide +kernel, ⟨_, rfl⟩, _, rfl, c, rfl, ⟨_, .inl (.inl hc)⟩, fun D nD => ?_⟩
      refine lc_listO (K := K) (te := teC) (a := c) (xs := cs.map V.str) nD (fun j => ((cs.take j).map cellL).map V.str) (by rw [List.take_zero]; rfl) (fun j _ => by rw [List.length_map, List.length_map, List.length_take]; exact small1000 (by omega)) (.inl (.inl hc)) ?_ ?_
      · intro j x H3 Nx hx s3 put skip
        rw [List.getElem?_map] at hx
        obtain ⟨y, hy, rfl⟩ := Option.map_eq_some_iff.mp hx
        have y8 := c8 y (List.mem_of_getElem? hy)
        have pl := (pad_len y8).1
        refine ⟨rfl, ?_⟩
        refine tyes_i (iteT ?_)
        refine ⟨_, rfl, (by simp only [len_cat]; omega), _, rfl, ⟨_, rfl⟩, y, 8, rfl, rfl, by decide +kernel, .inl ⟨_, rfl, by omega, _, rfl, (by simp only [len_cat]; omega), ?_⟩⟩
        refine put _ _ (.refl _) ?_
        rw [List.take_add_one, hy, List.map_append, List.map_append]
        rfl
      intro H2 s2 hD2
      rw [List.length_map, List.take_length] at hD2
      have lsum := sum_len (m := 9) (ls := cs.map cellL) fun l hl => by
        obtain ⟨z, hz, rfl⟩ := List.mem_map.mp hl
        exact Nat.le_of_eq (cellL_len (c8 z hz))
      rw [List.length_map] at lsum
      have ee : ("" : Str).length = 0 := by decide +kernel
      have tl2 := cells_len c8 cl
      have p8 := (pad_len h8).2
      refine ⟨_, D, _, rfl, rfl, .inl (.inl (.inl hD2)), by rw [ee]; omega, _, _, rfl, rfl, by omega, kk H2 s2⟩
    · refine ⟨_, PSs.nox (pss_one
      (ps_ret (pe_op op_add_str (pe_m1 PySem.F.slot_str_ljust PySem.F.type_str_ljust mt_ljust (pv 0) (pe_glob (v := .int 8) (by rfl) gW ⟨_, rfl⟩) (by rfl) (by rfl) (by rfl)) (pe_join pe_str (pe_lc (own := [("cell", 2)]) (g := gName 2) (tt := tYes) (by rfl) scTLine.nd (pi_tup (pv 1)) (blkOk_by (own := [("cell", 2)]) (N := scTLine_N) (sc := defScope scTLine_S) (by decide +kernel)) (fun _ _ _ _ _ => (pg_name (i := 2) scTLine.nd rfl (Or.inl rfl))) (fun _ _ _ _ _ => pts_nil) (fun _ _ _ _ _ => (pe_joined (.cons pe_str (.cons (pe_fmt (pe_m1 PySem.F.slot_str_rjust PySem.F.type_str_rjust mt_rjust (pv 2) (pe_glob (v := .int 8) (by rfl) gW ⟨_, rfl⟩) (by rfl) (by rfl) (by rfl))) .nil))))))))), ?_⟩
      refine ⟨_, rfl, ⟨_, rfl⟩, h, 8, rfl, rfl, by decide +kernel, ⟨_, rfl⟩, _, rfl, c, rfl, ⟨_, .inl (.inl hc)⟩, fun D nD => ?_⟩
      refine lc_tupO (K := K) (te := teC) (a := c) (xs := cs.map V.str) nD (fun j => ((cs.take j).map cellL).map V.str) (by rw [List.take_zero]; rfl) (fun j _ => by rw [List.length_map, List.length_map, List.length_take]; exact small1000 (by omega)) (fun H2 s2 => .inl (.inl (s2 _ _ hc))) ?_ ?_
      · intro j x H3 Nx hx s3 put skip
        rw [List.getElem?_map] at hx
        obtain ⟨y, hy, rfl⟩ := Option.map_eq_some_iff.mp hx
        have y8 := c8 y (List.mem_of_getElem? hy)
        have pl := (pad_len y8).1
        refine ⟨rfl, ?_⟩
        refine tyes_i (iteT ?_)
        refine ⟨_, rfl, (by simp only [len_cat]; omega), _, rfl, ⟨_, rfl⟩, y, 8, rfl, rfl, by decide +kernel, .inl ⟨_, rfl, by omega, _, rfl, (by simp only [len_cat]; omega), ?_⟩⟩
        refine put _ _ (.refl _) ?_
        rw [List.take_add_one, hy, List.map_append, List.map_append]
        rfl
      intro H2 s2 hD2
      rw [List.length_map, List.take_length] at hD2
      have lsum := sum_len (m := 9) (ls := cs.map cellL) fun l hl => by
        obtain ⟨z, hz, rfl⟩ := List.mem_map.mp hl
        exact Nat.le_of_eq (cellL_len (c8 z hz))
      rw [List.length_map] at lsum
      have ee : ("" : Str).length = 0 := by decide +kernel
      have tl2 := cells_len c8 cl
      have p8 := (pad_len h8).2
      refine ⟨_, D, _, rfl, rfl, .inl (.inl (.inl hD2)), by rw [ee]; omega, _, _, rfl, rfl, by omega, kk H2 s2⟩
end
end K0
end
section
set_option Elab.async false
set_option linter.all false
set_option maxRecDepth 100000
set_option maxHeartbeats 4000000
namespace K0
open PySem PySem.Spec PyProof.Rows L2 TL
/-! ### the table of a chart -/
abbrev scCTable_N : List Str := ["rights", "weirs", "lines", "name", "weir"]
abbrev scCTable_S : Stmt := sChartTable
theorem scCTable : FnScope scCTable_N ["rights"] (defScope sChartTable) := ⟨rfl, rfl, rfl, by decide +kernel, rfl, by decide +kernel, by decide +kernel⟩
def rowL (R : List Row) (B : List RRow) (n : Str) : Str := tlineL n ((nmsOf R).map (markW (wayN R B n)))
def tableL (R : List Row) (B : List RRow) : List Str := tlineL "" (nmsOf R) :: (rnm B).map (rowL R B)
def spCTable (Cg Cr : Addr) : Sp := fun vs H Q _ => ∃ (p q : Addr) (AR : List (Addr × Row)) (BR : List (Addr × RRow)), vs = [.ref p] ∧ RigOk Cg Cr H p q AR BR ∧ ∀ H', Same H H' → Q (.str (Txt.join "\n" (tableL (rowsOf AR) (bOf BR)))) H'
theorem tlineL_len {h : Str} {cs : List Str} (h8 : h.length ≤ 8) (c8 : ∀ x ∈ cs, x.length ≤ 8) (cl : cs.length ≤ 40) : (tlineL h cs).length ≤ 408 := by
  have a := (pad_len h8).2
  have b := cells_len c8 cl
  unfold tlineL
  rw [len_cat]
  omega
section
variable {P : Program} {w : World} {K : PySem.W.Frag} {mg : Str → Option Value} {base : Heap} {tS tM tL : Tok}
theorem ok_ctable {f fI fL fP fM fT Cr Cg : Addr} {fd fdI fdL fdP fdM fdT : FuncData} {tW : Tok} (F : FnP K "chart_table" sChartTable f fd) (FI : FnM K "intake" "Rights.intake" sGIntake fI fdI) (Mintake : Meth K Cg "intake" fI) (FL : FnM K "last" "Rights.last" sGLast fL fdL) (Mlast : Meth K Cg "last" fL)
    (FP : FnM K "passes" "Rights.passes" sGPasses fP fdP) (Mpasses : Meth K Cg "passes" fP) (F_mark : FnP K "_mark" sMark fM fdM) (g_mark : mg "_mark" = some (.ref fM)) (F_table_line : FnP K "_table_line" sTableLine fT fdT) (g_table_line : mg "_table_line" = some (.ref fT)) (gW : mg "WIDTH" = some (.int 8 tW))
    (D : NdG P w K mg base Cg Cr) (DW : NdS P w K mg base Cr) (TG : Rg K mg Cg) (T : Rv K mg Cr) (B : Bl mg) : FnOk P w K mg base CX0 5 f fd ["rights"] (spCTable Cg Cr) := by
  have G_mark : FnOk P w K mg base CX0 4 fM fdM ["rights", "name", "weir"] (spMark Cg Cr) := ok_mark F_mark FI Mintake FL Mlast FP Mpasses D DW TG
  have b_mark : Binds K fdM ["rights", "name", "weir"] [] := F_mark.bindsN fun _ _ _ _ _ _ us hl => match us, hl with | [_, _, _], _ => rfl
  have G_table_line : FnOk P w K mg base CX0 1 fT fdT ["head", "cells"] (spTLine K) := ok_tline F_table_line gW
  have b_table_line : Binds K fdT ["head", "cells"] [] := F_table_line.bindsN fun _ _ _ _ _ _ us hl => match us, hl with | [_, _], _ => rfl
  refine F.ok scCTable (fun vs H Q E h => ?_) (fun cdv A outer s H vs Q E hr h => ?_)
  · obtain ⟨p, q, AR, BR, rfl, _⟩ := h
    rfl
  · obtain ⟨p, q, AR, BR, rfl, G, kk⟩ := h
    have hr_mark : Room 4 _ := hr
    have hr_table_line : Room 1 _ := hr.mono (by decide)
    refine ⟨_, PSs.nox (pss_cons
      (ps_set (i := 1) scCTable.nd rfl (Or.inl rfl) (fldK (K := K) (fldK (K := K) (pv 0) rfl) rfl))
      (pss_cons
      (ps_set (i := 2) scCTable.nd rfl (Or.inl rfl) (pe_lst (pa_cons (pe_call G_table_line hr_table_line (by rfl) g_table_line F_table_line.kp b_table_line .nil pass0 (pa_cons pe_str (pa_cons (pv 1) pa_nil))) pa_nil)))
      (pss_cons
      (ps_for PassesOwn.never rfl (pi_tup (fldK (K := K) (pv 0) rfl)) (pg_name (i := 3) scCTable.nd rfl (Or.inr rfl)) (pss_one
      (ps_expr (pe_bm PySem.F.plainAttrs_list PySem.F.slot_list_append PySem.F.type_list_append mt_append (pv 2) (pa_cons (pe_call G_table_line hr_table_line (by rfl) g_table_line F_table_line.kp b_table_line .nil pass0 (pa_cons (pv 3) (pa_cons (pe_lc (own := [("weir", 4)]) (g := gName 4) (tt := tYes) (by rfl) scCTable.nd (pi_tup (pv 1)) (blkOk_by (own := [("weir", 4)]) (N := scCTable_N) (sc := defScope scCTable_S) (by decide +kernel)) (fun _ _ _ _ _ => (pg_name (i := 4) scCTable.nd rfl (Or.inl rfl))) (fun _ _ _ _ _ => pts_nil) (fun _ _ _ _ _ => (pe_call G_mark hr_mark (by rfl) g_mark F_mark.kp b_mark .nil pass0 (pa_cons (pv 0) (pa_cons (pv 3) (pa_cons (pv 4) pa_nil)))))) pa_nil))) pa_nil)))))
      (pss_one
      (ps_ret (pe_join pe_str (pv 2))))))), ?_⟩
    obtain ⟨dx, tn, tr, dw, dl, dp, h1, h2, h3, h4, h5, h6, h7, h8⟩ := id G.at_.ex
    obtain ⟨dxq, tw, tqr, db, dc, da, du, o, q1, q2, q3, q4, q5, q6, q7, q8, q9⟩ := id h2.ex
    obtain ⟨fo, fpo, hfn⟩ := h3
    have hAl : AR.length ≤ 40 := by have := G.g.most; rw [List.length_map] at this; exact this
    have hBl : BR.length ≤ 40 := by have := G.b.most; rw [List.length_map] at this; exact this
    have lnA : (namesOf AR).length = AR.length := by rw [List.length_map, List.length_map]
    have lnB : (rnm (bOf BR)).length = BR.length := by rw [List.length_map, List.length_map]
    have nm8 : ∀ y ∈ namesOf AR, y.length ≤ 8 := fun y hy => by rw [len_list]; exact (G.g.nm.ok y hy).most
    have ee : ("" : Str).length ≤ 8 := by decide +kernel
    have z40 : 40000 ≤ sizeLine := by rw [sizeLine_eq]; omega
    have zM : ∀ n, n ≤ 900 → n < sizeLine := fun n hn => small1000 (by omega)
    refine ⟨_, rfl, p, Cg, dx, _, _, rfl, h1, TG.cl, TG.river, rr6r _ _ _ _ _ _, q, Cr, dxq, _, _, rfl, q1, T.cl, T.weirs, g7w _ _ _ _ _ _ _, ?_⟩
    refine ⟨_, rfl, "", tw, namesOf AR, rfl, .inr q2, ee, nm8, by omega, fun H1 s1 => ⟨by show 1 ≤ sizeLine; omega, fun l nl => ?_⟩⟩
    have s2 := s1.trans (same_upd nl (o := .lst [V.str (tlineL "" (namesOf AR))]))
    have hl2 : (upd H1 l (.lst [V.str (tlineL "" (namesOf AR))])) l = some (.lst [V.str (tlineL "" (namesOf AR))]) := upd_same
    have hHl : H l = none := by
      cases e : H l with
      | none => rfl
      | some x =>
        rw [s1 _ _ e] at nl
        cases nl
    generalize upd H1 l (.lst [V.str (tlineL "" (namesOf AR))]) = H2 at s2 hl2
    refine ⟨_, rfl, p, Cg, dx, _, _, rfl, s2 _ _ h1, TG.cl, TG.names, rr6n _ _ _ _ _ _, tn, rfl, ⟨_, .inl (.inr ⟨_, s2 _ _ hfn⟩)⟩, ?_⟩
    refine for_tup (K := K) (a := tn) (xs := (rnm (bOf BR)).map V.str) (fun i σ H3 => ∃ (v3 : Option V), σ = [some (.ref p), some (.ref tw), some (.ref l), v3, none] ∧ Same H H3 ∧ H3 l = some (.lst ((tlineL "" (namesOf AR) :: ((rnm (bOf BR)).take i).map (rowL (rowsOf AR) (bOf BR))).map V.str)))
      ⟨_, rfl, s2, by rw [List.take_zero]; exact hl2⟩ (fun i σ H3 _ h => by obtain ⟨_, _, s3, _⟩ := h; exact .inl (.inr ⟨_, s3 _ _ hfn⟩)) ?_ ?_
    · rintro i x σ H3 hx ⟨v3, rfl, s3, hl3⟩
      rw [List.getElem?_map] at hx
      obtain ⟨n, hn, rfl⟩ := Option.map_eq_some_iff.mp hx
      have hnm := List.mem_of_getElem? hn
      have n8 : n.length ≤ 8 := by
        obtain ⟨r, hr, rfl⟩ := List.mem_map.mp hnm
        exact (trip_len G.g G.b hr).1
      refine ⟨_, rfl, ⟨.inl ⟨rfl, _, .inl (.inl hl3)⟩, ?_⟩⟩
      refine ⟨_, rfl, _, rfl, tw, rfl, ⟨_, .inl (.inl (s3 _ _ q2))⟩, fun D nD => ?_⟩
      refine lc_tupO (K := K) (a := tw) (xs := (namesOf AR).map V.str) nD (fun j => (((namesOf AR).take j).map (markW (wyN AR BR n))).map V.str) (by rw [List.take_zero]; rfl) (fun j _ => by rw [List.length_map, List.length_map, List.length_take]; exact small1000 (by omega)) (fun H4 s4 => .inl (.inl (s4 _ _ (s3 _ _ q2)))) ?_ ?_
      · intro j x H4 Nx hx s4 put skip
        rw [List.getElem?_map] at hx
        obtain ⟨y, hy, rfl⟩ := Option.map_eq_some_iff.mp hx
        refine ⟨rfl, ?_⟩
        refine tyes_i (iteT ?_)
        refine ⟨_, rfl, _, rfl, _, rfl, p, q, n, y, AR, BR, rfl, G.same (s3.trans s4), hnm, List.mem_of_getElem? hy, ?_⟩
        refine put _ _ (.refl _) ?_
        rw [List.take_add_one, hy, List.map_append, List.map_append]
        rfl
      intro H4 s4 hD4
      rw [List.length_map, List.take_length] at hD4
      refine ⟨n, D, (namesOf AR).map (markW (wyN AR BR n)), rfl, .inl hD4, n8, fun x hx => ?_, by rw [List.length_map]; omega, fun H5 s5 => ?_⟩
      · obtain ⟨y, _, rfl⟩ := List.mem_map.mp hx
        exact mark_len _ _
      have hl5 := s5 _ _ (s4 _ _ hl3)
      refine ⟨l, _, _, rfl, rfl, hl5, ?_, ?_⟩
      · rw [List.length_map, List.length_cons, List.length_map, List.length_take]
        exact zM _ (by omega)
      refine ⟨_, rfl, fun b o hb => ?_, ?_⟩
      · rw [upd_ne (ne_of_none hb hHl)]
        exact s5 _ _ (s4 _ _ (s3 _ _ hb))
      · rw [upd_same, List.take_add_one, hn, List.map_append, ← List.cons_append, List.map_append]
        rfl
    rintro σ H3 ⟨v3, rfl, s3, hl3⟩
    rw [List.length_map, List.take_length] at hl3
    have lrow : ∀ z ∈ tableL (rowsOf AR) (bOf BR), z.length ≤ 408 := fun z hz => by
      rcases List.mem_cons.mp hz with rfl | hz
      · exact tlineL_len ee nm8 (by show (namesOf AR).length ≤ 40; omega)
      · obtain ⟨n, hn, rfl⟩ := List.mem_map.mp hz
        obtain ⟨r, hr, rfl⟩ := List.mem_map.mp hn
        refine tlineL_len (trip_len G.g G.b hr).1 (fun x hx => ?_) (by rw [List.length_map]; show (namesOf AR).length ≤ 40; omega)
        obtain ⟨y, _, rfl⟩ := List.mem_map.mp hx
        exact mark_len _ _
    have lsum := sum_len lrow
    have ltab : (tableL (rowsOf AR) (bOf BR)).length ≤ 41 := by
      unfold tableL
      rw [List.length_cons, List.length_map]
      omega
    have e1 : ("\n" : Str).length = 1 := by decide +kernel
    have hl3 : H3 l = some (.lst ((tableL (rowsOf AR) (bOf BR)).map V.str)) := hl3
    exact ⟨⟨_, rfl⟩, _, rfl, _, l, _, rfl, rfl, .inl (.inl (.inl hl3)), by rw [e1]; omega, kk H3 s3⟩
end
end K0
end
section
set_option Elab.async false
set_option linter.all false
set_option maxRecDepth 100000
set_option maxHeartbeats 2000000
namespace K0
open PySem PySem.Spec PyProof.Rows L2 TL
/-! ### what the lines of a chart tell -/
theorem plain_cat {a b : Str} (ha : Plain a) (hb : Plain b) : Plain (a ++ b) := fun c hc => by
  have : c ∈ tl a ++ tl b := by rw [← tl_append]; exact hc
  rcases List.mem_append.mp this with h | h
  · exact ha c h
  · exact hb c h
theorem plain_lit {y : Str} (h : (y.cps.toList.all fun c => decide (c < 1114112)) = true) : Plain y := fun c hc => of_decide_eq_true (List.all_eq_true.mp h c hc)
theorem tl_empty : tl Str.empty = [] := rfl
theorem weirL_words (r : Row) : weirL r = Txt.join " " ["weir", r.1, r.2] := by
  refine ext_tl ?_
  rw [join_eq, tl_join]
  unfold weirL
  have e : tl ("weir " : Str) = tl ("weir" : Str) ++ tl (" " : Str) := by decide +kernel
  simp only [tl_append, List.map_cons, List.map_nil, joinL, e, tl_empty, List.nil_append, List.append_assoc]
theorem rightL_words (r : RRow) : rightL r = Txt.join " " ["right", r.1, r.2.1, r.2.2] := by
  refine ext_tl ?_
  rw [join_eq, tl_join]
  unfold rightL
  have e : tl ("right " : Str) = tl ("right" : Str) ++ tl (" " : Str) := by decide +kernel
  simp only [tl_append, List.map_cons, List.map_nil, joinL, e, tl_empty, List.nil_append, List.append_assoc]
theorem name_sp {y : Str} (h : NameOk y) : (32 : Nat) ∉ tl y := fun z => by
  have : 97 ≤ 32 := (h.low _ z).1
  omega
theorem name_nl {y : Str} (h : NameOk y) : (10 : Nat) ∉ tl y := fun z => by
  have : 97 ≤ 10 := (h.low _ z).1
  omega
theorem sea_name : NameOk "sea" := ⟨by decide +kernel, by decide +kernel, fun c hc => by
  have : c = 115 ∨ c = 101 ∨ c = 97 := by simpa [sea_list, seaL] using hc
  show 97 ≤ c ∧ c ≤ 122
  omega⟩
theorem row_names {R : List Row} (g : GoodRows R) {r : Row} (h : r ∈ R) : NameOk r.1 ∧ NameOk r.2 := by
  refine ⟨g.nm.ok _ (List.mem_map_of_mem (f := (·.1)) h), ?_⟩
  obtain ⟨rk, hr⟩ := g.rank
  rcases hr r h with e | ⟨e, _⟩
  · rw [e]; exact sea_name
  · exact g.nm.ok _ e
theorem trip_names {R : List Row} (g : GoodRows R) {B : List RRow} (b : RtOk R B) {r : RRow} (h : r ∈ B) : NameOk r.1 ∧ NameOk r.2.1 ∧ NameOk r.2.2 := by
  refine ⟨b.ok r h, g.nm.ok _ (b.inn r h), ?_⟩
  rcases b.last r h with e | e
  · rw [e]; exact sea_name
  · exact g.nm.ok _ (course_sub g (b.inn r h) _ e)
theorem wOf_join {ps : List Str} (hne : ps ≠ []) (h : ∀ p ∈ ps, (32 : Nat) ∉ tl p) : wOf (Txt.join " " ps) = ps := split_join tl_sp (by decide +kernel) hne h
theorem wOf_weir {r : Row} (h : NameOk r.1 ∧ NameOk r.2) : wOf (weirL r) = (["weir", r.1, r.2] : List Str) := by
  rw [weirL_words]
  refine wOf_join (by simp) fun p hp => ?_
  rcases List.mem_cons.mp hp with rfl | hp
  · decide +kernel
  rcases List.mem_cons.mp hp with rfl | hp
  · exact name_sp h.1
  · rw [List.mem_singleton.mp hp]; exact name_sp h.2
theorem wOf_right {r : RRow} (h : NameOk r.1 ∧ NameOk r.2.1 ∧ NameOk r.2.2) : wOf (rightL r) = (["right", r.1, r.2.1, r.2.2] : List Str) := by
  rw [rightL_words]
  refine wOf_join (by simp) fun p hp => ?_
  rcases List.mem_cons.mp hp with rfl | hp
  · decide +kernel
  rcases List.mem_cons.mp hp with rfl | hp
  · exact name_sp h.1
  rcases List.mem_cons.mp hp with rfl | hp
  · exact name_sp h.2.1
  · rw [List.mem_singleton.mp hp]; exact name_sp h.2.2
theorem isLn_weir {r : Row} (h : NameOk r.1 ∧ NameOk r.2) : isLn (weirL r) = true := by
  unfold isLn isW
  rw [wOf_weir h]
  have a : nameB (.str r.1) = true := nameB_t ⟨_, rfl, h.1⟩
  have b : nameB (.str r.2) = true := nameB_t ⟨_, rfl, h.2⟩
  simp [a, b]
theorem isLn_right {r : RRow} (h : NameOk r.1 ∧ NameOk r.2.1 ∧ NameOk r.2.2) : isLn (rightL r) = true := by
  unfold isLn isW
  rw [wOf_right h]
  have a : nameB (.str r.1) = true := nameB_t ⟨_, rfl, h.1⟩
  have b : nameB (.str r.2.1) = true := nameB_t ⟨_, rfl, h.2.1⟩
  have c : nameB (.str r.2.2) = true := nameB_t ⟨_, rfl, h.2.2⟩
  simp [a, b, c]
theorem nl_cat {a b : Str} (ha : (10 : Nat) ∉ tl a) (hb : (10 : Nat) ∉ tl b) : (10 : Nat) ∉ tl (a ++ b) := fun h => by
  rw [tl_append] at h
  rcases List.mem_append.mp h with h | h
  · exact ha h
  · exact hb h
theorem ln_weir {r : Row} (h : NameOk r.1 ∧ NameOk r.2) : Ln1 (weirL r) := by
  have p1 := name_plain h.1
  have p2 := name_plain h.2
  have n1 := name_nl h.1
  have n2 := name_nl h.2
  have m1 : (tl r.1).length ≤ 8 := h.1.most
  have m2 : (tl r.2).length ≤ 8 := h.2.most
  refine ⟨plain_cat (plain_cat (plain_cat (plain_cat (plain_lit rfl) (plain_lit (by decide +kernel))) p1) (plain_lit (by decide +kernel))) p2, nl_cat (nl_cat (nl_cat (nl_cat (by decide +kernel) (by decide +kernel)) n1) (by decide +kernel)) n2, ?_⟩
  unfold weirL
  have e5 : (tl ("weir " : Str)).length = 5 := by decide +kernel
  have e1 : (tl (" " : Str)).length = 1 := by decide +kernel
  simp only [tl_append, List.length_append, tl_empty, List.length_nil]
  omega
theorem ln_right {r : RRow} (h : NameOk r.1 ∧ NameOk r.2.1 ∧ NameOk r.2.2) : Ln1 (rightL r) := by
  have p1 := name_plain h.1
  have p2 := name_plain h.2.1
  have p3 := name_plain h.2.2
  have n1 := name_nl h.1
  have n2 := name_nl h.2.1
  have n3 := name_nl h.2.2
  have m1 : (tl r.1).length ≤ 8 := h.1.most
  have m2 : (tl r.2.1).length ≤ 8 := h.2.1.most
  have m3 : (tl r.2.2).length ≤ 8 := h.2.2.most
  refine ⟨plain_cat (plain_cat (plain_cat (plain_cat (plain_cat (plain_cat (plain_lit rfl) (plain_lit (by decide +kernel))) p1) (plain_lit (by decide +kernel))) p2) (plain_lit (by decide +kernel))) p3, nl_cat (nl_cat (nl_cat (nl_cat (nl_cat (nl_cat (by decide +kernel) (by decide +kernel)) n1) (by decide +kernel)) n2) (by decide +kernel)) n3, ?_⟩
  unfold rightL
  have e6 : (tl ("right " : Str)).length = 6 := by decide +kernel
  have e1 : (tl (" " : Str)).length = 1 := by decide +kernel
  simp only [tl_append, List.length_append, tl_empty, List.length_nil]
  omega
theorem rest_weir {r : Row} (h : NameOk r.1 ∧ NameOk r.2) : restD (weirL r) = rowD r := by
  unfold restD
  rw [wOf_weir h]
  rfl
theorem rest_right {r : RRow} (h : NameOk r.1 ∧ NameOk r.2.1 ∧ NameOk r.2.2) : restD (rightL r) = tripD r := by
  unfold restD
  rw [wOf_right h]
  rfl
/-- two lists mixed, each in its order -/
inductive Shuf : List Str → List Str → List Str → Prop where
  | nil : Shuf [] [] []
  | left {a b c : List Str} (x : Str) (h : Shuf a b c) : Shuf (a ++ [x]) b (c ++ [x])
  | right {a b c : List Str} (x : Str) (h : Shuf a b c) : Shuf a (b ++ [x]) (c ++ [x])
theorem Shuf.len {a b c : List Str} (h : Shuf a b c) : c.length = a.length + b.length := by
  induction h with
  | nil => rfl
  | left x h ih => rw [List.length_append, List.length_append, ih, List.length_singleton]; omega
  | right x h ih => rw [List.length_append, List.length_append, ih, List.length_singleton]; omega
theorem Shuf.mem {a b c : List Str} (h : Shuf a b c) : ∀ x ∈ c, x ∈ a ∨ x ∈ b := by
  induction h with
  | nil => intro x hx; cases hx
  | left y h ih =>
    intro x hx
    rcases List.mem_append.mp hx with hx | hx
    · exact (ih x hx).imp_left fun z => List.mem_append_left _ z
    · exact .inl (List.mem_append_right _ hx)
  | right y h ih =>
    intro x hx
    rcases List.mem_append.mp hx with hx | hx
    · exact (ih x hx).imp_right fun z => List.mem_append_left _ z
    · exact .inr (List.mem_append_right _ hx)
theorem Shuf.sort {a b c : List Str} (h : Shuf a b c) (ha : ∀ x ∈ a, headW x = "weir") (hb : ∀ x ∈ b, headW x = "right") : sortD "weir" c = a.map restD ∧ sortD "right" c = b.map restD := by
  have ne : ¬ ("weir" : Str) = "right" := by decide +kernel
  induction h with
  | nil => exact ⟨rfl, rfl⟩
  | left y h ih =>
    obtain ⟨i1, i2⟩ := ih (fun x hx => ha x (List.mem_append_left _ hx)) hb
    have hy := ha y (List.mem_append_right _ (List.mem_singleton.mpr rfl))
    rw [sort_snoc, sort_snoc, i1, i2, if_pos hy, if_neg (by rw [hy]; exact ne), List.append_nil, List.map_append]
    exact ⟨rfl, rfl⟩
  | right y h ih =>
    obtain ⟨i1, i2⟩ := ih ha fun x hx => hb x (List.mem_append_left _ hx)
    have hy := hb y (List.mem_append_right _ (List.mem_singleton.mpr rfl))
    rw [sort_snoc, sort_snoc, i1, i2, if_pos hy, if_neg (by rw [hy]; exact fun z => ne z.symm), List.append_nil, List.map_append]
    exact ⟨rfl, rfl⟩
/-- the lines of a chart of these rows, mixed -/
abbrev Mixed (R : List Row) (B : List RRow) (ls : List Str) : Prop := Shuf (R.map weirL) (B.map rightL) ls
section
variable {R : List Row} {B : List RRow} {ls : List Str} (g : GoodRows R) (b : RtOk R B) (h : Mixed R B ls)
include g b h
theorem Mixed.each : ∀ l ∈ ls, Ln1 l ∧ isLn l = true := fun l hl => by
  rcases h.mem l hl with hl | hl
  · obtain ⟨r, hr, rfl⟩ := List.mem_map.mp hl
    have n := row_names g hr
    exact ⟨ln_weir n, isLn_weir n⟩
  · obtain ⟨r, hr, rfl⟩ := List.mem_map.mp hl
    have n := trip_names g b hr
    exact ⟨ln_right n, isLn_right n⟩
theorem Mixed.count : 1 ≤ ls.length ∧ ls.length ≤ 80 := by
  have := h.len
  rw [List.length_map, List.length_map] at this
  have := g.one
  have := g.most
  have := b.most
  omega
theorem Mixed.lns : Lns ls := ⟨fun e => (by have := (h.count g b).1; rw [e] at this; cases this), (by have := (h.count g b).2; omega), fun l hl => (h.each g b l hl).1⟩
theorem Mixed.rows : sortD "weir" ls = R.map rowD ∧ sortD "right" ls = B.map tripD := by
  obtain ⟨a, c⟩ := h.sort (fun x hx => by
    obtain ⟨r, hr, rfl⟩ := List.mem_map.mp hx
    unfold headW
    rw [wOf_weir (row_names g hr)]
    rfl) fun x hx => by
    obtain ⟨r, hr, rfl⟩ := List.mem_map.mp hx
    unfold headW
    rw [wOf_right (trip_names g b hr)]
    rfl
  rw [a, c, List.map_map, List.map_map]
  exact ⟨List.map_congr_left fun r hr => rest_weir (row_names g hr), List.map_congr_left fun r hr => rest_right (trip_names g b hr)⟩
end
theorem shuf_left : ∀ (a : List Str), Shuf a [] a := fun a => by
  have key : ∀ n, ∀ a : List Str, a.length = n → Shuf a [] a := fun n => by
    induction n with
    | zero => intro a h; rw [List.length_eq_zero_iff.mp h]; exact .nil
    | succ n ih =>
      intro a h
      have hne : a ≠ [] := fun e => by rw [e] at h; cases h
      rw [← List.dropLast_concat_getLast hne]
      exact .left _ (ih _ (by rw [List.length_dropLast]; omega))
  exact key _ a rfl
theorem shuf_app (a : List Str) : ∀ b : List Str, Shuf a b (a ++ b) := fun b => by
  have key : ∀ n, ∀ b : List Str, b.length = n → Shuf a b (a ++ b) := fun n => by
    induction n with
    | zero => intro b h; rw [List.length_eq_zero_iff.mp h, List.append_nil]; exact shuf_left a
    | succ n ih =>
      intro b h
      have hne : b ≠ [] := fun e => by rw [e] at h; cases h
      rw [← List.dropLast_concat_getLast hne, ← List.append_assoc]
      exact .right _ (ih _ (by rw [List.length_dropLast]; omega))
  exact key _ b rfl
theorem chart_mixed (R : List Row) (B : List RRow) : Mixed R B (chartL R B) := shuf_app _ _
end K0
end
section
set_option Elab.async false
set_option linter.all false
set_option maxRecDepth 100000
set_option maxHeartbeats 4000000
namespace L2
open PySem PySem.Spec PyProof.Rows
def rJoin (K : PySem.W.Frag) : V → List V → Hp → VK → Prop := fun x xs H Q => ∃ a p, ∃ ys : List Str, x = .str a ∧ xs = [.ref p] ∧ (SqL K H p (ys.map V.str) ∨ SqT K H p (ys.map V.str)) ∧
  (ys.map (·.length)).sum + ys.length * a.length ≤ 16777216 ∧ Q (.str (Txt.join a ys)) H
theorem pe_joinK {X : Cx} {K : PySem.W.Frag} {o e : Expr} {to te : TE} {apos pos : Pos} (eK : X.K = K) (ho : PE X o to) (he : PE X e te) (hs : starEach [e] X.env = [(false, eval e X.env)] := by rfl) (hbase : attributeBase o "join" X.env (eval o X.env) = eval o X.env := by rfl) (hline : (apos.endLine == pos.line) = true := by rfl) :
    PE X (.Call (.Attribute o "join" apos) [e] [] pos) (tM1 (rJoin K) to te) := by
  subst eK
  exact pe_join ho he hs hbase hline
end L2
namespace K0
open PySem PySem.Spec PyProof.Rows L2 TL
/-! ### the lines of a chart, mixed -/
abbrev scLLines_N : List Str := ["_law_bag_here", "_law_rows", "_law_rights_here", "_law_left", "_law_more", "_law_found", "_law_k", "_law_row"]
abbrev scLLines_S : Stmt := sLLines
theorem scLLines : FnScope scLLines_N ["_law_bag_here", "_law_rows", "_law_rights_here"] (defScope sLLines) := ⟨rfl, rfl, rfl, by decide +kernel, rfl, by decide +kernel, by decide +kernel⟩
theorem weirL_add (r : Row) : ("weir " : Str) ++ Txt.join " " ([r.1, r.2] : List Str) = weirL r := by
  refine ext_tl ?_
  rw [join_eq, tl_append, tl_join]
  unfold weirL
  simp only [tl_append, List.map_cons, List.map_nil, joinL, tl_empty, List.nil_append, List.append_assoc]
theorem rightL_add (r : RRow) : ("right " : Str) ++ Txt.join " " ([r.1, r.2.1, r.2.2] : List Str) = rightL r := by
  refine ext_tl ?_
  rw [join_eq, tl_append, tl_join]
  unfold rightL
  simp only [tl_append, List.map_cons, List.map_nil, joinL, tl_empty, List.nil_append, List.append_assoc]
def spLLines : Sp := fun vs H Q _ => ∃ (b l r : Addr) (AR : List (Addr × Row)) (BR : List (Addr × RRow)), vs = [.ref b, .ref l, .ref r] ∧ BagAt H b ∧ l ≠ b ∧ r ≠ b ∧ RowsAt H l AR ∧ BRows H r BR ∧ GoodRows (rowsOf AR) ∧ RtOk (rowsOf AR) (bOf BR) ∧
  ∀ H' z ls, Upto b H H' → BagAt H' b → H z = none → z ≠ b → H' z = some (.lst (ls.map V.str)) → Mixed (rowsOf AR) (bOf BR) ls → Q (.ref z) H'
theorem none_of {H H1 : Hp} {a : Addr} (s : Same H H1) (n : H1 a = none) : H a = none := by
  cases e : H a with
  | none => rfl
  | some x =>
    rw [s _ _ e] at n
    cases n
theorem bagS' {H H' : Hp} {p : Addr} (h : BagAt H p) (s : Same H H') : BagAt H' p := by
  obtain ⟨xs, a, b⟩ := h
  exact ⟨xs, s _ _ a, b⟩
theorem lines_shaped {xs : List Str} (h : ∀ x ∈ xs, Ln1 x) (hl : xs.length ≤ 90) : SeqAt.shaped (.list (xs.map .str)) = true := by
  refine (Fit.lst (m := 900) (k := 0) _ (fun d hd => ?_) (by rw [List.length_map]; omega)).shaped (by omega)
  obtain ⟨x, hx, rfl⟩ := List.mem_map.mp hd
  have := (h x hx).most
  exact .str _ (h x hx).pl (by show (tl x).length ≤ 900; omega)
theorem weir_words_len {r : Row} (h : NameOk r.1 ∧ NameOk r.2) : ([r.1, r.2].map (·.length)).sum ≤ 16 := by
  have m1 : r.1.length ≤ 8 := by rw [len_list]; exact h.1.most
  have m2 : r.2.length ≤ 8 := by rw [len_list]; exact h.2.most
  simp only [List.map_cons, List.map_nil, List.sum_cons, List.sum_nil]
  omega
theorem right_words_len {r : RRow} (h : NameOk r.1 ∧ NameOk r.2.1 ∧ NameOk r.2.2) : ([r.1, r.2.1, r.2.2].map (·.length)).sum ≤ 24 := by
  have m1 : r.1.length ≤ 8 := by rw [len_list]; exact h.1.most
  have m2 : r.2.1.length ≤ 8 := by rw [len_list]; exact h.2.1.most
  have m3 : r.2.2.length ≤ 8 := by rw [len_list]; exact h.2.2.most
  simp only [List.map_cons, List.map_nil, List.sum_cons, List.sum_nil]
  omega
section
variable {P : Program} {w : World} {K : PySem.W.Frag} {mg : Str → Option Value} {base : Heap} {tS tM tL : Tok}
theorem ok_llines {f fT : Addr} {fd fdT : FuncData} (F : FnP K "_law_lines" sLLines f fd) (F_law_take : FnP K "_law_take" sTake fT fdT) (g_law_take : mg "_law_take" = some (.ref fT)) (B : Bl mg) : FnOk P w K mg base CX0 2 f fd ["_law_bag_here", "_law_rows", "_law_rights_here"] spLLines := by
  have G_law_take : FnOk P w K mg base CX0 1 fT fdT ["_law_bag_here", "_law_many"] spTake := ok_take F_law_take B
  have b_law_take : Binds K fdT ["_law_bag_here", "_law_many"] [] := F_law_take.bindsN fun _ _ _ _ _ _ us hl => match us, hl with | [_, _], _ => rfl
  refine F.ok scLLines (fun vs H Q E h => ?_) (fun cdv A outer s H vs Q E hr h => ?_)
  · obtain ⟨b, l, r, AR, BR, rfl, _⟩ := h
    rfl
  · obtain ⟨b, l, r, AR, BR, rfl, hB, nlb, nrb, hR, hBR, g, rt, kk⟩ := h
    have hr_law_take : Room 1 _ := hr
    have hu64 := hr.units
    refine ⟨_, PSs.nox (pss_cons
      (ps_par (i := 3) (j := 4) (by rfl) scLLines.nd rfl rfl (by decide) rfl rfl (pa_cons (pe_lc (own := [("_law_row", 7)]) (g := gName 7) (tt := tYes) (by rfl) scLLines.nd (pi_list (pv 1)) (blkOk_by (own := [("_law_row", 7)]) (N := scLLines_N) (sc := defScope scLLines_S) (by decide +kernel)) (fun _ _ _ _ _ => (pg_name (i := 7) scLLines.nd rfl (Or.inl rfl))) (fun _ _ _ _ _ => pts_nil) (fun _ _ _ _ _ => (pe_op op_add_str pe_str (pe_joinK (K := K) rfl pe_str (pv 7))))) (pa_cons (pe_lc (own := [("_law_row", 7)]) (g := gName 7) (tt := tYes) (by rfl) scLLines.nd (pi_list (pv 2)) (blkOk_by (own := [("_law_row", 7)]) (N := scLLines_N) (sc := defScope scLLines_S) (by decide +kernel)) (fun _ _ _ _ _ => (pg_name (i := 7) scLLines.nd rfl (Or.inl rfl))) (fun _ _ _ _ _ => pts_nil) (fun _ _ _ _ _ => (pe_op op_add_str pe_str (pe_joinK (K := K) rfl pe_str (pv 7))))) pa_nil)) (by rfl))
      (pss_cons
      (ps_set (i := 5) scLLines.nd rfl (Or.inl rfl) (pe_lst pa_nil))
      (pss_cons
      (ps_for PassesOwn.never rfl (pi_range1 (by rfl) B.range (pa_cons (pe_op op_add (pe_callB (lenK (K := K)) (by rfl) B.len PySem.boot_len (pa_cons (pv 1) pa_nil)) (pe_callB (lenK (K := K)) (by rfl) B.len PySem.boot_len (pa_cons (pv 2) pa_nil))) pa_nil)) (pg_name (i := 6) scLLines.nd rfl (Or.inl rfl)) (pss_one
      (ps_if (PW.pt (pw_and (pt_cmpR (op_neD hu64) (pv 3) (pe_lst pa_nil) (nomark _)) (pw_and1 (PW.pt (pw_or (pt_cmpR (op_eqD hu64) (pv 4) (pe_lst pa_nil) (nomark _)) (pw_or1 (pt_cmpR op_eq (pe_call G_law_take hr_law_take (by rfl) g_law_take F_law_take.kp b_law_take .nil pass0 (pa_cons (pv 0) (pa_cons pe_int pa_nil))) pe_int (nomark _)))))))) (pss_one
      (ps_expr (pe_bm PySem.F.plainAttrs_list PySem.F.slot_list_append PySem.F.type_list_append mt_append (pv 5) (pa_cons (pe_bm PySem.F.plainAttrs_list PySem.F.slot_list_pop PySem.F.type_list_pop mt_popAt (pv 3) (pa_cons pe_int pa_nil)) pa_nil)))) (pss_one
      (ps_expr (pe_bm PySem.F.plainAttrs_list PySem.F.slot_list_append PySem.F.type_list_append mt_append (pv 5) (pa_cons (pe_bm PySem.F.plainAttrs_list PySem.F.slot_list_pop PySem.F.type_list_pop mt_popAt (pv 4) (pa_cons pe_int pa_nil)) pa_nil)))))))
      (pss_one
      (ps_ret (pv 5)))))), ?_⟩
    have z40 : 40000 ≤ sizeLine := by rw [sizeLine_eq]; omega
    have e1 : (" " : Str).length = 1 := by decide +kernel
    have e5 : ("weir " : Str).length = 5 := by decide +kernel
    have e6 : ("right " : Str).length = 6 := by decide +kernel
    have hAl : AR.length ≤ 40 := by have := g.most; rw [List.length_map] at this; exact this
    have hBl : BR.length ≤ 40 := by have := rt.most; rw [List.length_map] at this; exact this
    refine ⟨_, rfl, l, rfl, ⟨_, .inl (.inl hR.lst)⟩, fun D1 n1 => ?_⟩
    refine lc_listO (K := K) (a := l) (xs := AR.map fun q => V.ref q.1) n1 (fun j => (((rowsOf AR).take j).map weirL).map V.str) (by rw [List.take_zero]; rfl) (fun j _ => by rw [List.length_map, List.length_map, List.length_take, List.length_map]; exact small1000 (by omega)) (.inl (.inl hR.lst)) ?_ ?_
    · intro j x H3 Nx hx s3 put skip
      have hi : j < AR.length := by
        have := (List.getElem?_eq_some_iff.mp hx).1
        rw [List.length_map] at this
        exact this
      have ex := row_at hx hi
      subst ex
      have nn := row_names g (List.mem_map_of_mem (f := (·.2)) (List.getElem_mem hi))
      refine ⟨rfl, ?_⟩
      refine tyes_i (iteT ?_)
      have wl := weir_words_len nn
      have ew := weirL_len g (List.mem_map_of_mem (f := (·.2)) (List.getElem_mem hi))
      rw [← weirL_add, len_cat] at ew
      refine ⟨⟨_, rfl⟩, _, rfl, _, AR[j].1, [AR[j].2.1, AR[j].2.2], rfl, rfl, .inr (.inl (.inl (s3 _ _ (hR.tup _ (List.getElem_mem hi))))), by rw [e1]; simp only [List.length_cons, List.length_nil] at wl ⊢; omega, _, _, rfl, rfl, by omega, ?_⟩
      rw [weirL_add]
      refine put _ _ (.refl _) ?_
      have e : (rowsOf AR)[j]? = some AR[j].2 := by
        rw [List.getElem?_map, List.getElem?_eq_getElem hi]
        rfl
      rw [List.take_add_one, e, List.map_append, List.map_append]
      rfl
    intro H1 s1 hD1
    rw [List.length_map, ← List.length_map (f := (·.2)) (as := AR), List.take_length] at hD1
    have hBR1 := hBR.same s1
    refine ⟨_, rfl, r, rfl, ⟨_, .inl (.inl hBR1.lst)⟩, fun D2 n2 => ?_⟩
    refine lc_listO (K := K) (a := r) (xs := BR.map fun q => V.ref q.1) n2 (fun j => (((bOf BR).take j).map rightL).map V.str) (by rw [List.take_zero]; rfl) (fun j _ => by rw [List.length_map, List.length_map, List.length_take, List.length_map]; exact small1000 (by omega)) (.inl (.inl hBR1.lst)) ?_ ?_
    · intro j x H3 Nx hx s3 put skip
      rw [List.getElem?_map] at hx
      obtain ⟨bb, hb, rfl⟩ := Option.map_eq_some_iff.mp hx
      have hbm := List.mem_of_getElem? hb
      have nn := trip_names g rt (List.mem_map_of_mem (f := (·.2)) hbm)
      refine ⟨rfl, ?_⟩
      refine tyes_i (iteT ?_)
      have wl := right_words_len nn
      have ew := rightL_len g rt (List.mem_map_of_mem (f := (·.2)) hbm)
      rw [← rightL_add, len_cat] at ew
      refine ⟨⟨_, rfl⟩, _, rfl, _, bb.1, [bb.2.1, bb.2.2.1, bb.2.2.2], rfl, rfl, .inr (.inl (.inl (s3 _ _ (hBR1.tup _ hbm)))), by rw [e1]; simp only [List.length_cons, List.length_nil] at wl ⊢; omega, _, _, rfl, rfl, by omega, ?_⟩
      rw [rightL_add]
      refine put _ _ (.refl _) ?_
      have e : (bOf BR)[j]? = some bb.2 := by
        rw [List.getElem?_map, hb]
        rfl
      rw [List.take_add_one, e, List.map_append, List.map_append]
      rfl
    intro H2 s2 hD2
    rw [List.length_map, ← List.length_map (f := (·.2)) (as := BR), List.take_length] at hD2
    have hD12 := s2 _ _ hD1
    have s02 := s1.trans s2
    have h1n : H D1 = none := n1
    have h2n : H D2 = none := none_of s1 n2
    have n12 : D1 ≠ D2 := fun e => by rw [e] at hD1; rw [hD1] at n2; cases n2
    refine ⟨_, _, rfl, ?_⟩
    refine ⟨Nat.zero_le _, fun D3 n3 => ?_⟩
    have h3n : H D3 = none := none_of s02 n3
    have n13 : D1 ≠ D3 := fun e => by rw [e] at hD12; rw [hD12] at n3; cases n3
    have n23 : D2 ≠ D3 := fun e => by rw [e] at hD2; rw [hD2] at n3; cases n3
    have s3 := same_upd n3 (o := .lst [])
    have s03 := s02.trans s3
    have l10 := s3 _ _ hD12
    have l20 := s3 _ _ hD2
    have l30 : (upd H2 D3 (.lst [])) D3 = some (.lst (([] : List Str).map V.str)) := upd_same
    generalize upd H2 D3 (.lst []) = H3 at s3 s03 l10 l20 l30
    have hB0 := hB
    obtain ⟨bx0, hbx0, _⟩ := id hB0
    have nb1 : b ≠ D1 := ne_of_none hbx0 h1n
    have nb2 : b ≠ D2 := ne_of_none hbx0 h2n
    have nb3 : b ≠ D3 := ne_of_none hbx0 h3n
    have hR3 := hR.same s03
    have hBR3 := hBR.same s03
    refine ⟨_, rfl, l, _, rfl, .inl (.inl (.inl hR3.lst)), _, rfl, r, _, rfl, .inl (.inl (.inl hBR3.lst)), _, _, rfl, rfl, ?_⟩
    have lRM : ((rowsOf AR).map weirL).length = AR.length := by rw [List.length_map, List.length_map]
    have lBM : ((bOf BR).map rightL).length = BR.length := by rw [List.length_map, List.length_map]
    have lA2 : (AR.map fun q => V.ref q.1).length = AR.length := List.length_map _
    have lB2 : (BR.map fun q => V.ref q.1).length = BR.length := List.length_map _
    refine ⟨_, rfl, by omega, by omega, ?_⟩
    refine for_range (lo := 0) (fun k σ H4 => ∃ (v6 : Option V) (a a' c c' ls : List Str), σ = [some (.ref b), some (.ref l), some (.ref r), some (.ref D1), some (.ref D2), some (.ref D3), v6, none] ∧ Upto b H H4 ∧ BagAt H4 b ∧ H4 D1 = some (.lst (a'.map V.str)) ∧ H4 D2 = some (.lst (c'.map V.str)) ∧ H4 D3 = some (.lst (ls.map V.str)) ∧
      Shuf a c ls ∧ a ++ a' = (rowsOf AR).map weirL ∧ c ++ c' = (bOf BR).map rightL ∧ ls.length = k)
      ⟨_, [], _, [], _, [], rfl, .of s03, bagS' hB s03, l10, l20, l30, .nil, rfl, rfl, rfl⟩ ?_ ?_
    · rintro k σ H4 hkn ⟨v6, a, a', c, c', ls, rfl, u4, B4, l1, l2, l3, sh, e1a, e2a, hk⟩
      have ln1 := congrArg List.length e1a
      have ln2 := congrArg List.length e2a
      have lsh := sh.len
      rw [List.length_append, lRM] at ln1
      rw [List.length_append, lBM] at ln2
      have okA : ∀ x ∈ a', Ln1 x := fun x hx => by
        have : x ∈ (rowsOf AR).map weirL := by rw [← e1a]; exact List.mem_append_right _ hx
        obtain ⟨rr, hr2, rfl⟩ := List.mem_map.mp this
        exact ln_weir (row_names g hr2)
      have okC : ∀ x ∈ c', Ln1 x := fun x hx => by
        have : x ∈ (bOf BR).map rightL := by rw [← e2a]; exact List.mem_append_right _ hx
        obtain ⟨rr, hr2, rfl⟩ := List.mem_map.mp this
        exact ln_right (trip_names g rt hr2)
      refine ⟨_, rfl, Nat.zero_le _, fun e0 ne0 => ?_⟩
      have sE := same_upd ne0 (o := .lst [])
      have he0 : (upd H4 e0 (.lst [])) e0 = some (.lst []) := upd_same
      have u5 := u4.trans (.of sE)
      have B5 := bagS' B4 sE
      have l1 := sE _ _ l1
      have l2 := sE _ _ l2
      have l3 := sE _ _ l3
      generalize upd H4 e0 (.lst []) = H5 at he0 u5 B5 l1 l2 l3
      refine ⟨_, _, .lst (.inl (.inl l1)) (strs_dq a').dp, .lst (.inl (.inl he0)) .nil, lines_shaped okA (by omega), by decide +kernel, _, rfl, ?_⟩
      rw [eqv_nilD, List.length_map]
      by_cases ha : a'.length = 0
      · refine iteNo (fun z => z ha) ?_
        refine iteF ?_
        obtain ⟨x, c2, rfl⟩ : ∃ x c2, c' = x :: c2 := by
          cases c' with
          | nil => rw [List.length_nil] at ln2; omega
          | cons x c2 => exact ⟨x, c2, rfl⟩
        obtain ⟨bxs, hbx, bv⟩ := B5
        refine ⟨_, rfl, ⟨.inl ⟨rfl, _, .inl (.inl l3)⟩, _, rfl, ⟨.inl ⟨rfl, _, .inl (.inl l2)⟩, D2, _, 0, 0, .str x, rfl, rfl, l2, by decide, by decide, (by rw [seqIndex_of (by omega) (by simp only [List.map_cons, List.length_cons]; omega)]; rfl), rfl, ?_⟩⟩⟩
        have f3 : (upd H5 D2 (.lst ((V.str x :: c2.map V.str).eraseIdx 0))) D3 = some (.lst (ls.map V.str)) := by rw [upd_ne (Ne.symm n23)]; exact l3
        refine ⟨D3, _, _, rfl, rfl, f3, by rw [List.length_map]; exact small1000 (by omega), ?_⟩
        refine ⟨_, a, a', c ++ [x], c2, ls ++ [x], rfl, fun b2 o hb hn => ?_, ⟨bxs, ?_, bv⟩, ?_, ?_, ?_, .right x sh, e1a, (by rw [List.append_assoc]; exact e2a), by rw [List.length_append, hk]; rfl⟩
        · rw [upd_ne (ne_of_none hb h3n), upd_ne (ne_of_none hb h2n)]
          exact u5 b2 o hb hn
        · rw [upd_ne nb3, upd_ne nb2]
          exact hbx
        · rw [upd_ne n13, upd_ne n12]; exact l1
        · rw [upd_ne n23, upd_same]; rfl
        · rw [upd_same, List.map_append]
          rfl
      refine iteYes ha ?_
      obtain ⟨x, a2, rfl⟩ : ∃ x a2, a' = x :: a2 := by
        cases a' with
        | nil => exact absurd rfl ha
        | cons x a2 => exact ⟨x, a2, rfl⟩
      refine ⟨_, rfl, Nat.zero_le _, fun e1 ne1 => ?_⟩
      have sE := same_upd ne1 (o := .lst [])
      have he1 : (upd H5 e1 (.lst [])) e1 = some (.lst []) := upd_same
      have u6 := u5.trans (.of sE)
      have B6 := bagS' B5 sE
      have l1 := sE _ _ l1
      have l2 := sE _ _ l2
      have l3 := sE _ _ l3
      generalize upd H5 e1 (.lst []) = H6 at he1 u6 B6 l1 l2 l3
      refine ⟨_, _, .lst (.inl (.inl l2)) (strs_dq c').dp, .lst (.inl (.inl he1)) .nil, lines_shaped okC (by omega), by decide +kernel, _, rfl, ?_⟩
      rw [eqv_nilD, List.length_map]
      by_cases hc : c'.length = 0
      · refine iteD hc ?_
        refine iteT ?_
        obtain ⟨bxs, hbx, bv⟩ := B6
        refine ⟨_, rfl, ⟨.inl ⟨rfl, _, .inl (.inl l3)⟩, _, rfl, ⟨.inl ⟨rfl, _, .inl (.inl l1)⟩, D1, _, 0, 0, .str x, rfl, rfl, l1, by decide, by decide, (by rw [seqIndex_of (by omega) (by simp only [List.map_cons, List.length_cons]; omega)]; rfl), rfl, ?_⟩⟩⟩
        have f3 : (upd H6 D1 (.lst ((V.str x :: a2.map V.str).eraseIdx 0))) D3 = some (.lst (ls.map V.str)) := by rw [upd_ne (Ne.symm n13)]; exact l3
        refine ⟨D3, _, _, rfl, rfl, f3, by rw [List.length_map]; exact small1000 (by omega), ?_⟩
        refine ⟨_, a ++ [x], a2, c, c', ls ++ [x], rfl, fun b2 o hb hn => ?_, ⟨bxs, ?_, bv⟩, ?_, ?_, ?_, .left x sh, (by rw [List.append_assoc]; exact e1a), e2a, by rw [List.length_append, hk]; rfl⟩
        · rw [upd_ne (ne_of_none hb h3n), upd_ne (ne_of_none hb h1n)]
          exact u6 b2 o hb hn
        · rw [upd_ne nb3, upd_ne nb1]
          exact hbx
        · rw [upd_ne n13, upd_same]; rfl
        · rw [upd_ne n23, upd_ne (Ne.symm n12)]; exact l2
        · rw [upd_same, List.map_append]
          rfl
      refine iteDn hc ?_
      obtain ⟨y, c2, rfl⟩ : ∃ y c2, c' = y :: c2 := by
        cases c' with
        | nil => exact absurd rfl hc
        | cons x a2 => exact ⟨x, a2, rfl⟩
      refine ⟨_, rfl, b, 2, rfl, B6, by omega, by omega, fun d bxs hd0 hd2 bv => ⟨rfl, _, rfl, ?_⟩⟩
      have u7 : Upto b H (upd H6 b (.lst bxs)) := fun b2 o hb hn => by
        rw [upd_ne hn]
        exact u6 b2 o hb hn
      have hbx : (upd H6 b (.lst bxs)) b = some (.lst bxs) := upd_same
      have l1 : (upd H6 b (.lst bxs)) D1 = _ := (upd_ne (Ne.symm nb1)).trans l1
      have l2 : (upd H6 b (.lst bxs)) D2 = _ := (upd_ne (Ne.symm nb2)).trans l2
      have l3 : (upd H6 b (.lst bxs)) D3 = _ := (upd_ne (Ne.symm nb3)).trans l3
      generalize upd H6 b (.lst bxs) = H7 at u7 hbx l1 l2 l3
      refine ite2 (fun _ => ?_) (fun _ => ?_)
      · skip
        refine ⟨_, rfl, ⟨.inl ⟨rfl, _, .inl (.inl l3)⟩, _, rfl, ⟨.inl ⟨rfl, _, .inl (.inl l1)⟩, D1, _, 0, 0, .str x, rfl, rfl, l1, by decide, by decide, (by rw [seqIndex_of (by omega) (by simp only [List.map_cons, List.length_cons]; omega)]; rfl), rfl, ?_⟩⟩⟩
        have f3 : (upd H7 D1 (.lst ((V.str x :: a2.map V.str).eraseIdx 0))) D3 = some (.lst (ls.map V.str)) := by rw [upd_ne (Ne.symm n13)]; exact l3
        refine ⟨D3, _, _, rfl, rfl, f3, by rw [List.length_map]; exact small1000 (by omega), ?_⟩
        refine ⟨_, a ++ [x], a2, c, (y :: c2), ls ++ [x], rfl, fun b2 o hb hn => ?_, ⟨bxs, ?_, bv⟩, ?_, ?_, ?_, .left x sh, (by rw [List.append_assoc]; exact e1a), e2a, by rw [List.length_append, hk]; rfl⟩
        · rw [upd_ne (ne_of_none hb h3n), upd_ne (ne_of_none hb h1n)]
          exact u7 b2 o hb hn
        · rw [upd_ne nb3, upd_ne nb1]
          exact hbx
        · rw [upd_ne n13, upd_same]; rfl
        · rw [upd_ne n23, upd_ne (Ne.symm n12)]; exact l2
        · rw [upd_same, List.map_append]
          rfl
      · skip
        refine ⟨_, rfl, ⟨.inl ⟨rfl, _, .inl (.inl l3)⟩, _, rfl, ⟨.inl ⟨rfl, _, .inl (.inl l2)⟩, D2, _, 0, 0, .str y, rfl, rfl, l2, by decide, by decide, (by rw [seqIndex_of (by omega) (by simp only [List.map_cons, List.length_cons]; omega)]; rfl), rfl, ?_⟩⟩⟩
        have f3 : (upd H7 D2 (.lst ((V.str y :: c2.map V.str).eraseIdx 0))) D3 = some (.lst (ls.map V.str)) := by rw [upd_ne (Ne.symm n23)]; exact l3
        refine ⟨D3, _, _, rfl, rfl, f3, by rw [List.length_map]; exact small1000 (by omega), ?_⟩
        refine ⟨_, a, (x :: a2), c ++ [y], c2, ls ++ [y], rfl, fun b2 o hb hn => ?_, ⟨bxs, ?_, bv⟩, ?_, ?_, ?_, .right y sh, e1a, (by rw [List.append_assoc]; exact e2a), by rw [List.length_append, hk]; rfl⟩
        · rw [upd_ne (ne_of_none hb h3n), upd_ne (ne_of_none hb h2n)]
          exact u7 b2 o hb hn
        · rw [upd_ne nb3, upd_ne nb2]
          exact hbx
        · rw [upd_ne n13, upd_ne n12]; exact l1
        · rw [upd_ne n23, upd_same]; rfl
        · rw [upd_same, List.map_append]
          rfl
    rintro σ H4 ⟨v6, a, a', c, c', ls, rfl, u4, B4, l1, l2, l3, sh, e1a, e2a, hk⟩
    have ln1 := congrArg List.length e1a
    have ln2 := congrArg List.length e2a
    have lsh := sh.len
    rw [List.length_append, lRM] at ln1
    rw [List.length_append, lBM] at ln2
    have ha : a' = [] := List.length_eq_zero_iff.mp (by omega)
    have hc : c' = [] := List.length_eq_zero_iff.mp (by omega)
    rw [ha, List.append_nil] at e1a
    rw [hc, List.append_nil] at e2a
    rw [e1a, e2a] at sh
    exact ⟨_, rfl, kk H4 D3 ls u4 B4 h3n (Ne.symm nb3) l3 sh⟩
end
end K0
end
section
set_option Elab.async false
set_option linter.all false
set_option maxRecDepth 100000
set_option maxHeartbeats 4000000
namespace K0
open PySem PySem.Spec PyProof.Rows L2 TL
/-! ### the table, by the law -/
abbrev scLTable_N : List Str := ["_law_rows", "_law_rights_here", "_law_lines_here", "_law_right", "_law_way_here", "_law_line", "_law_weir", "_law_below", "_law_mark"]
abbrev scLTable_S : Stmt := sLTable
theorem scLTable : FnScope scLTable_N ["_law_rows", "_law_rights_here"] (defScope sLTable) := ⟨rfl, rfl, rfl, by decide +kernel, rfl, by decide +kernel, by decide +kernel⟩
theorem joinL_flat : ∀ ps : List (List Nat), joinL [] ps = ps.flatten
  | [] => rfl
  | [p] => by simp [joinL]
  | p :: q :: r => by
    show p ++ ([] ++ joinL [] (q :: r)) = _
    rw [List.nil_append, joinL_flat (q :: r)]
    exact (List.flatten_cons ..).symm
theorem tl_none : tl "" = [] := by decide +kernel
theorem join_snoc (xs : List Str) (x : Str) : Txt.join "" (xs ++ [x]) = Txt.join "" xs ++ x := by
  refine ext_tl ?_
  rw [tl_append, join_eq, join_eq, tl_join, tl_join, tl_none, joinL_flat, joinL_flat, List.map_append, List.flatten_append]
  simp
theorem tline_snoc (h : Str) (cs : List Str) (c : Str) : tlineL h (cs ++ [c]) = tlineL h cs ++ (" " : Str) ++ Txt.rjust c 8 := by
  unfold tlineL
  rw [List.map_append, List.map_cons, List.map_nil, join_snoc]
  refine ext_tl ?_
  unfold cellL
  simp only [tl_append, tl_empty, List.nil_append, List.append_assoc]
theorem tline_nil (h : Str) : tlineL h [] = Txt.ljust h 8 := by
  refine ext_tl ?_
  unfold tlineL
  rw [List.map_nil, tl_append, join_eq, tl_join, tl_none, joinL_flat]
  simp
theorem eight : Txt.ljust "" 8 = ("        " : Str) := by decide +kernel
theorem cell_add (c : Str) : (" " : Str) ++ Txt.rjust c 8 = cellL c := by
  refine ext_tl ?_
  unfold cellL
  simp only [tl_append, tl_empty, List.nil_append]
theorem course_ne {R : List Row} (g : GoodRows R) {x : Str} {m : Nat} (c : CourseIs R x m) {i j : Nat} (hij : i < j) (hj : j < m) (e : itr (lowR R) i x = itr (lowR R) j x) : False := by
  have h1 : itr (lowR R) (m - j) (itr (lowR R) j x) = "sea" := by
    rw [itr_add, show j + (m - j) = m by omega]
    exact c.sea
  rw [← e, itr_add] at h1
  have := c.mem (i + (m - j)) (by omega)
  rw [h1] at this
  exact g.nm.sea _ this rfl
theorem way_facts {R : List Row} (g : GoodRows R) {B : List RRow} (b : RtOk R B) {r : RRow} (h : r ∈ B) : (wayB R r).Nodup ∧ 1 ≤ (wayB R r).length ∧ (wayB R r).length ≤ 40 := by
  obtain ⟨m, k, w⟩ := way_is g (b.inn r h) (b.last r h)
  have h1 := w.one
  have h2 := w.most
  have h3 := w.c.most
  have h4 := g.most
  rw [w.eq, List.length_map, List.length_range]
  refine ⟨nodup_range _ _ fun i j hi hj e => ?_, by omega, by omega⟩
  rcases Nat.lt_trichotomy i j with z | z | z
  · exact (course_ne g w.c z (by omega) e).elim
  · exact z
  · exact (course_ne g w.c z (by omega) e.symm).elim
def markLaw (W : List Str) (y : Str) : Str := if y = firstW W ∨ y = lastW W then (if W.length = 1 then "both" else if y = firstW W then "in" else "out") else if y ∈ W then "by" else "-"
theorem mark_law {W : List Str} (nd : W.Nodup) (h1 : 1 ≤ W.length) (y : Str) : markLaw W y = markW W y := by
  obtain ⟨a, t, rfl⟩ : ∃ a t, W = a :: t := by
    cases W with
    | nil => cases h1
    | cons a t => exact ⟨a, t, rfl⟩
  have hf : firstW (a :: t) = a := rfl
  unfold markLaw markW
  rw [hf]
  cases t with
  | nil =>
    have hl : lastW [a] = a := rfl
    rw [hl]
    by_cases e : a = y
    · rw [if_pos (.inl e.symm), if_pos (show [a].length = 1 from rfl), if_pos e, if_pos e]
    · rw [if_neg (by rintro (z | z) <;> exact e z.symm), if_neg e, if_neg e]
  | cons c u =>
    have hm : lastW (a :: c :: u) ∈ c :: u := by
      have : lastW (a :: c :: u) = (c :: u).getLast (by simp) := by
        unfold lastW
        rw [List.getLast?_cons_cons, List.getLast?_eq_some_getLast (by simp)]
        rfl
      rw [this]
      exact List.getLast_mem _
    have hn : a ≠ lastW (a :: c :: u) := fun e => (List.nodup_cons.mp nd).1 (by rw [e]; exact hm)
    rw [if_neg (show ¬ (a :: c :: u).length = 1 by simp)]
    by_cases e : a = y
    · rw [if_pos (.inl e.symm), if_pos e.symm, if_pos e, if_neg (fun z => hn (e.trans z.symm))]
    · by_cases e2 : lastW (a :: c :: u) = y
      · rw [if_pos (.inr e2.symm), if_neg (fun z => e z.symm), if_neg e, if_pos e2]
      · rw [if_neg (by rintro (z | z); exact e z.symm; exact e2 z.symm), if_neg e, if_neg e2]
def spLTable : Sp := fun vs H Q _ => ∃ (l r : Addr) (AR : List (Addr × Row)) (BR : List (Addr × RRow)), vs = [.ref l, .ref r] ∧ RowsAt H l AR ∧ BRows H r BR ∧ GoodRows (rowsOf AR) ∧ RtOk (rowsOf AR) (bOf BR) ∧ ∀ H', Same H H' → Q (.str (Txt.join "\n" (tableL (rowsOf AR) (bOf BR)))) H'
section
variable {P : Program} {w : World} {K : PySem.W.Frag} {mg : Str → Option Value} {base : Heap} {tS tM tL : Tok}
theorem ok_ltable {f fW fC : Addr} {fd fdW fdC : FuncData} (F : FnP K "_law_table" sLTable f fd) (F_law_way : FnP K "_law_way" sLWay fW fdW) (g_law_way : mg "_law_way" = some (.ref fW)) (F_law_course : FnP K "_law_course" sLCourse fC fdC) (g_law_course : mg "_law_course" = some (.ref fC)) (B : Bl mg) : FnOk P w K mg base CX0 3 f fd ["_law_rows", "_law_rights_here"] spLTable := by
  have G_law_way : FnOk P w K mg base CX0 2 fW fdW ["_law_rows", "_law_right"] spLWay := ok_lway F_law_way F_law_course g_law_course B
  have b_law_way : Binds K fdW ["_law_rows", "_law_right"] [] := F_law_way.bindsN fun _ _ _ _ _ _ us hl => match us, hl with | [_, _], _ => rfl
  refine F.ok scLTable (fun vs H Q E h => ?_) (fun cdv A outer s H vs Q E hr h => ?_)
  · obtain ⟨l, r, AR, BR, rfl, _⟩ := h
    rfl
  · obtain ⟨l, r, AR, BR, rfl, hR, hBR, g, rt, kk⟩ := h
    have hr_law_way : Room 2 _ := hr
    refine ⟨_, PSs.nox (pss_cons
      (ps_set (i := 2) scLTable.nd rfl (Or.inl rfl) (pe_lst (pa_cons (pe_op op_add_str pe_str (pe_joinK (K := K) rfl pe_str (pe_lc (own := [("_law_weir", 6), ("_law_below", 7)])  (tt := tYes) (by rfl) scLTable.nd (pi_list (pv 0)) (blkOk_by (own := [("_law_weir", 6), ("_law_below", 7)]) (N := scLTable_N) (sc := defScope scLTable_S) (by decide +kernel)) (fun _ _ _ _ _ => (tgK (K := K) (n := 2) (by rfl) (pgs_cons (pg_name (i := 6) scLTable.nd rfl (Or.inl rfl)) (pgs_cons (pg_name (i := 7) scLTable.nd rfl (Or.inl rfl)) pgs_nil)))) (fun _ _ _ _ _ => pts_nil) (fun _ _ _ _ _ => (pe_op op_add_str pe_str (pe_m1 PySem.F.slot_str_rjust PySem.F.type_str_rjust mt_rjust (pv 6) pe_int (by rfl) (by rfl) (by rfl))))))) pa_nil)))
      (pss_cons
      (ps_for PassesOwn.never rfl (pi_list (pv 1)) (pg_name (i := 3) scLTable.nd rfl (Or.inl rfl)) (pss_cons
      (ps_par (i := 4) (j := 5) (by rfl) scLTable.nd rfl rfl (by decide) rfl rfl (pa_cons (pe_call G_law_way hr_law_way (by rfl) g_law_way F_law_way.kp b_law_way .nil pass0 (pa_cons (pv 0) (pa_cons (pv 3) pa_nil))) (pa_cons (pe_m1 PySem.F.slot_str_ljust PySem.F.type_str_ljust mt_ljust (pe_ix (ixTK (K := K)) (pv 3) pe_int (fun _ _ => rfl)) pe_int (by rfl) (by rfl) (by rfl)) pa_nil)) (by rfl))
      (pss_cons
      (ps_for PassesOwn.never rfl (pi_list (pv 0)) (tgK (K := K) (n := 2) (by rfl) (pgs_cons (pg_name (i := 6) scLTable.nd rfl (Or.inl rfl)) (pgs_cons (pg_name (i := 7) scLTable.nd rfl (Or.inl rfl)) pgs_nil))) (pss_cons
      (ps_set (i := 8) scLTable.nd rfl (Or.inl rfl) (pe_ifExp (pt_cmpR (notInK (K := K)) (pv 6) (pv 4) (by rfl)) pe_str pe_str))
      (pss_cons
      (ps_if (pt_cmpR (inK (K := K)) (pv 6) (pe_tup (pa_cons (pe_ix (ixLK (K := K)) (pv 4) pe_int (fun _ _ => rfl)) (pa_cons (pe_ix (ixLK (K := K)) (pv 4) (pe_un un_neg pe_int) (fun _ _ => rfl)) pa_nil))) (by rfl)) (pss_one
      (ps_set (i := 8) scLTable.nd rfl (Or.inl rfl) (pe_ifExp (pt_cmpR op_eq (pe_callB (lenK (K := K)) (by rfl) B.len PySem.boot_len (pa_cons (pv 4) pa_nil)) pe_int (nomark _)) pe_str (pe_ifExp (pt_cmpR op_eq (pv 6) (pe_ix (ixLK (K := K)) (pv 4) pe_int (fun _ _ => rfl)) (nomark _)) pe_str pe_str)))) pss_nil)
      (pss_one
      (ps_set (i := 5) scLTable.nd rfl (Or.inl rfl) (pe_op op_add_str (pe_op op_add_str (pv 5) pe_str) (pe_m1 PySem.F.slot_str_rjust PySem.F.type_str_rjust mt_rjust (pv 8) pe_int (by rfl) (by rfl) (by rfl))))))))
      (pss_one
      (ps_expr (pe_bm PySem.F.plainAttrs_list PySem.F.slot_list_append PySem.F.type_list_append mt_append (pv 2) (pa_cons (pv 5) pa_nil)))))))
      (pss_one
      (ps_ret (pe_join pe_str (pv 2)))))), ?_⟩
    have z40 : 40000 ≤ sizeLine := by rw [sizeLine_eq]; omega
    have e1 : (" " : Str).length = 1 := by decide +kernel
    have ee0 : ("" : Str).length = 0 := by decide +kernel
    have ee8 : ("        " : Str).length = 8 := by decide +kernel
    have hAl : AR.length ≤ 40 := by have := g.most; rw [List.length_map] at this; exact this
    have hBl : BR.length ≤ 40 := by have := rt.most; rw [List.length_map] at this; exact this
    have lnA : (namesOf AR).length = AR.length := by rw [List.length_map, List.length_map]
    have nm8 : ∀ y ∈ namesOf AR, y.length ≤ 8 := fun y hy => by rw [len_list]; exact (g.nm.ok y hy).most
    have name_at : ∀ {i : Nat} (hi : i < AR.length), (namesOf AR)[i]? = some AR[i].2.1 := fun hi => by
      show ((AR.map (·.2)).map (·.1))[_]? = _
      rw [List.getElem?_map, List.getElem?_map, List.getElem?_eq_getElem hi]
      rfl
    refine ⟨⟨_, rfl⟩, _, rfl, l, rfl, ⟨_, .inl (.inl hR.lst)⟩, fun D nD => ?_⟩
    refine lc_listO (K := K) (a := l) (xs := AR.map fun q => V.ref q.1) nD (fun j => (((namesOf AR).take j).map cellL).map V.str) (by rw [List.take_zero]; rfl) (fun j _ => by rw [List.length_map, List.length_map, List.length_take]; exact small1000 (by omega)) (.inl (.inl hR.lst)) ?_ ?_
    · intro j x H3 Nx hx s3 put skip
      have hi : j < AR.length := by
        have := (List.getElem?_eq_some_iff.mp hx).1
        rw [List.length_map] at this
        exact this
      have ex := row_at hx hi
      subst ex
      have y8 := nm8 _ (List.mem_of_getElem? (name_at hi))
      have pl := (pad_len y8).1
      refine ⟨AR[j].1, _, rfl, .inl (.inl (s3 _ _ (hR.tup _ (List.getElem_mem hi)))), rfl, _, _, rfl, _, _, rfl, rfl, rfl, ?_⟩
      refine tyes_i (iteT ?_)
      refine ⟨_, rfl, ⟨_, rfl⟩, AR[j].2.1, 8, rfl, rfl, by decide +kernel, _, _, rfl, rfl, by omega, ?_⟩
      rw [cell_add]
      refine put _ _ (.refl _) ?_
      rw [List.take_add_one, name_at hi, List.map_append, List.map_append]
      rfl
    intro H1 s1 hD1
    rw [List.length_map, ← lnA, List.take_length] at hD1
    have lsum := sum_len (m := 9) (ls := (namesOf AR).map cellL) fun z hz => by
      obtain ⟨c, hc, rfl⟩ := List.mem_map.mp hz
      exact Nat.le_of_eq (cellL_len (nm8 c hc))
    rw [List.length_map] at lsum
    have cl := cells_len nm8 (by omega)
    refine ⟨_, D, _, rfl, rfl, .inl (.inl (.inl hD1)), by rw [ee0]; omega, _, _, rfl, rfl, by omega, by show 1 ≤ sizeLine; omega, fun L nL => ?_⟩
    have hHL : H L = none := none_of s1 nL
    have eL : ("        " : Str) ++ Txt.join "" ((namesOf AR).map cellL) = tlineL "" (namesOf AR) := by
      unfold tlineL
      rw [eight]
    rw [eL]
    have s2 := s1.trans (same_upd nL (o := .lst [V.str (tlineL "" (namesOf AR))]))
    have hL2 : (upd H1 L (.lst [V.str (tlineL "" (namesOf AR))])) L = some (.lst [V.str (tlineL "" (namesOf AR))]) := upd_same
    generalize upd H1 L (.lst [V.str (tlineL "" (namesOf AR))]) = H2 at s2 hL2
    have hBR2 := hBR.same s2
    refine ⟨_, rfl, r, rfl, ⟨_, .inl (.inl hBR2.lst)⟩, ?_⟩
    refine for_list (K := K) (a := r) (xs := BR.map fun q => V.ref q.1) (fun i σ H3 => ∃ (v3 v4 v5 v6 v7 v8 : Option V), σ = [some (.ref l), some (.ref r), some (.ref L), v3, v4, v5, v6, v7, v8] ∧ Same H H3 ∧ H3 L = some (.lst ((tlineL "" (namesOf AR) :: ((rnm (bOf BR)).take i).map (rowL (rowsOf AR) (bOf BR))).map V.str)))
      ⟨_, _, _, _, _, _, rfl, s2, by rw [List.take_zero]; exact hL2⟩ (fun i σ H3 _ h => by obtain ⟨_, _, _, _, _, _, _, s3, _⟩ := h; exact .inl (.inl (s3 _ _ hBR.lst))) ?_ ?_
    · rintro i x σ H3 hx ⟨v3, v4, v5, v6, v7, v8, rfl, s3, hL3⟩
      rw [List.getElem?_map] at hx
      obtain ⟨bb, hb, rfl⟩ := Option.map_eq_some_iff.mp hx
      have hbm := List.mem_of_getElem? hb
      have hbB : bb.2 ∈ bOf BR := List.mem_map_of_mem (f := (·.2)) hbm
      have ht := s3 _ _ (hBR.tup _ hbm)
      have n8 := (trip_len g rt hbB).1
      obtain ⟨wnd, w1, w40⟩ := way_facts g rt hbB
      refine ⟨_, rfl, _, rfl, l, bb.1, AR, bb.2, rfl, hR.same s3, g, ht, rt.inn _ hbB, rt.last _ hbB, fun H4 c s4 nc hc => ?_⟩
      have hnm : bb.2.1 ∈ rnm (bOf BR) := List.mem_map_of_mem (f := (·.1)) hbB
      have eW := way_of (R := rowsOf AR) rt.nd hbB
      rw [← eW] at hc wnd w1 w40
      have wf := way_first g rt hnm
      have wl := (way_ne g rt hnm).1
      have eRow : rowL (rowsOf AR) (bOf BR) bb.2.1 = tlineL bb.2.1 ((namesOf AR).map (markW (wayN (rowsOf AR) (bOf BR) bb.2.1))) := rfl
      generalize wayN (rowsOf AR) (bOf BR) bb.2.1 = W at hc wnd w1 w40 wf wl eRow
      have hL4 := s4 _ _ hL3
      have s04 := s3.trans s4
      refine ⟨_, rfl, bb.1, _, _, _, rfl, rfl, .inl (.inl (s4 _ _ ht)), atI_nat (j := 0) rfl, ⟨_, rfl⟩, bb.2.1, 8, rfl, rfl, by decide +kernel, _, _, rfl, ?_⟩
      refine ⟨_, rfl, l, rfl, ⟨_, .inl (.inl (s04 _ _ hR.lst))⟩, ?_⟩
      refine for_list (K := K) (a := l) (xs := AR.map fun q => V.ref q.1) (fun j σ H5 => ∃ (v6 v7 v8 : Option V), σ = [some (.ref l), some (.ref r), some (.ref L), some (.ref bb.1), some (.ref c), some (.str (tlineL bb.2.1 (((namesOf AR).take j).map (markW W)))), v6, v7, v8] ∧ Same H4 H5)
        ⟨_, _, _, by rw [List.take_zero, List.map_nil, tline_nil]; rfl, .refl _⟩ (fun j σ H5 _ h => by obtain ⟨_, _, _, _, s5⟩ := h; exact .inl (.inl (s5 _ _ (s04 _ _ hR.lst)))) ?_ ?_
      · rintro j x σ H5 hx ⟨v6, v7, v8, rfl, s5⟩
        have hi : j < AR.length := by
          have := (List.getElem?_eq_some_iff.mp hx).1
          rw [List.length_map] at this
          exact this
        have ex := row_at hx hi
        subst ex
        have y8 := nm8 _ (List.mem_of_getElem? (name_at hi))
        have hc5 := s5 _ _ hc
        have eN : tlineL bb.2.1 (((namesOf AR).take (j + 1)).map (markW W)) = tlineL bb.2.1 (((namesOf AR).take j).map (markW W)) ++ (" " : Str) ++ Txt.rjust (markW W AR[j].2.1) 8 := by
          rw [List.take_add_one, name_at hi, List.map_append]
          exact tline_snoc _ _ _
        have ll := tlineL_len (h := bb.2.1) (cs := ((namesOf AR).take j).map (markW W)) n8 (fun x hx => by
          obtain ⟨y, _, rfl⟩ := List.mem_map.mp hx
          exact mark_len _ _) (by rw [List.length_map, List.length_take]; omega)
        have mk8 := (pad_len (mark_len W AR[j].2.1)).1
        have eM := mark_law wnd w1 AR[j].2.1
        refine ⟨AR[j].1, _, rfl, .inl (.inl (s5 _ _ (s04 _ _ (hR.tup _ (List.getElem_mem hi))))), rfl, _, _, rfl, _, _, rfl, rfl, ?_⟩
        refine ⟨_, rfl, _, rfl, c, _, rfl, .inl (.inl (.inl hc5)), rfl, flat_strs _, _, rfl, ?_⟩
        rw [if_pos rfl, inV_str]
        have hin : ∀ {a b : Str}, AR[j].2.1 ∈ ([a, b] : List Str) ↔ (AR[j].2.1 = a ∨ AR[j].2.1 = b) := fun {a b} => by
          rw [List.mem_cons, List.mem_singleton]
        have fl : firstW W ∈ W ∧ lastW W ∈ W := by
          refine ⟨?_, ?_⟩
          · cases W with
            | nil => cases w1
            | cons a t => exact List.mem_cons_self
          · unfold lastW
            rw [List.getLast?_eq_some_getLast (fun e => by rw [e] at w1; cases w1)]
            exact List.getLast_mem _
        by_cases hy : AR[j].2.1 ∈ W
        · rw [decide_eq_true hy]
          refine iteF ?_
          refine ⟨_, rfl, _, rfl, c, _, 0, _, rfl, rfl, .inl (.inl hc5), wf, _, rfl, 1, rfl, c, _, -1, _, rfl, rfl, .inl (.inl hc5), wl, by show 2 ≤ sizeLine; omega, fun tp ntp => ?_⟩
          have sT := same_upd ntp (o := .tup [V.str (firstW W), V.str (lastW W)])
          have htp : (upd H5 tp (.tup [V.str (firstW W), V.str (lastW W)])) tp = some (.tup ([firstW W, lastW W].map V.str)) := upd_same
          have s6 := s5.trans sT
          have hc6 := sT _ _ hc5
          generalize upd H5 tp (.tup [V.str (firstW W), V.str (lastW W)]) = H6 at s6 htp hc6
          refine ⟨tp, _, rfl, .inr (.inl (.inl htp)), rfl, flat_strs _, _, rfl, ?_⟩
          rw [if_neg Bool.false_ne_true, inV_str]
          by_cases ho : AR[j].2.1 = firstW W ∨ AR[j].2.1 = lastW W
          · rw [decide_eq_true (hin.mpr ho)]
            refine iteT ?_
            refine ⟨_, rfl, c, _, rfl, .inl (.inl (.inl hc6)), rfl, _, rfl, ?_⟩
            rw [List.length_map]
            by_cases h1 : W.length = 1
            · refine iteD (congrArg (fun n : Nat => V.int (n : Int)) h1) ?_
              have em : markW W AR[j].2.1 = "both" := by rw [← eM]; unfold markLaw; rw [if_pos ho, if_pos h1]
              rw [em] at mk8 eN
              refine ⟨_, rfl, _, _, rfl, rfl, by omega, _, rfl, ⟨_, rfl⟩, "both", 8, rfl, rfl, by decide +kernel, _, _, rfl, rfl, by rw [len_cat]; omega, ?_⟩
              exact ⟨_, _, _, by rw [eN]; rfl, s6⟩
            · refine iteDn (fun e => h1 (by have := V.int.inj e; omega)) ?_
              refine ⟨_, rfl, _, rfl, c, _, 0, _, rfl, rfl, .inl (.inl hc6), wf, rfl, _, rfl, ?_⟩
              by_cases h2 : AR[j].2.1 = firstW W
              · refine iteD (congrArg V.str h2) ?_
                have em : markW W AR[j].2.1 = "in" := by rw [← eM]; unfold markLaw; rw [if_pos ho, if_neg h1, if_pos h2]
                rw [em] at mk8 eN
                refine ⟨_, rfl, _, _, rfl, rfl, by omega, _, rfl, ⟨_, rfl⟩, "in", 8, rfl, rfl, by decide +kernel, _, _, rfl, rfl, by rw [len_cat]; omega, ?_⟩
                exact ⟨_, _, _, by rw [eN]; rfl, s6⟩
              · refine iteDn (fun e => h2 (V.str.inj e)) ?_
                have em : markW W AR[j].2.1 = "out" := by rw [← eM]; unfold markLaw; rw [if_pos ho, if_neg h1, if_neg h2]
                rw [em] at mk8 eN
                refine ⟨_, rfl, _, _, rfl, rfl, by omega, _, rfl, ⟨_, rfl⟩, "out", 8, rfl, rfl, by decide +kernel, _, _, rfl, rfl, by rw [len_cat]; omega, ?_⟩
                exact ⟨_, _, _, by rw [eN]; rfl, s6⟩
          · rw [decide_eq_false (fun z => ho (hin.mp z))]
            refine iteF ?_
            have em : markW W AR[j].2.1 = "by" := by rw [← eM]; unfold markLaw; rw [if_neg ho, if_pos hy]
            rw [em] at mk8 eN
            refine ⟨_, rfl, _, _, rfl, rfl, by omega, _, rfl, ⟨_, rfl⟩, "by", 8, rfl, rfl, by decide +kernel, _, _, rfl, rfl, by rw [len_cat]; omega, ?_⟩
            exact ⟨_, _, _, by rw [eN]; rfl, s6⟩
        · rw [decide_eq_false hy]
          refine iteT ?_
          refine ⟨_, rfl, _, rfl, c, _, 0, _, rfl, rfl, .inl (.inl hc5), wf, _, rfl, 1, rfl, c, _, -1, _, rfl, rfl, .inl (.inl hc5), wl, by show 2 ≤ sizeLine; omega, fun tp ntp => ?_⟩
          have sT := same_upd ntp (o := .tup [V.str (firstW W), V.str (lastW W)])
          have htp : (upd H5 tp (.tup [V.str (firstW W), V.str (lastW W)])) tp = some (.tup ([firstW W, lastW W].map V.str)) := upd_same
          have s6 := s5.trans sT
          have hc6 := sT _ _ hc5
          generalize upd H5 tp (.tup [V.str (firstW W), V.str (lastW W)]) = H6 at s6 htp hc6
          refine ⟨tp, _, rfl, .inr (.inl (.inl htp)), rfl, flat_strs _, _, rfl, ?_⟩
          rw [if_neg Bool.false_ne_true, inV_str]
          have ho : ¬ (AR[j].2.1 = firstW W ∨ AR[j].2.1 = lastW W) := by
            rintro (z | z)
            · exact hy (by rw [z]; exact fl.1)
            · exact hy (by rw [z]; exact fl.2)
          rw [decide_eq_false (fun z => ho (hin.mp z))]
          refine iteF ?_
          have em : markW W AR[j].2.1 = "-" := by rw [← eM]; unfold markLaw; rw [if_neg ho, if_neg hy]
          rw [em] at mk8 eN
          refine ⟨_, rfl, _, _, rfl, rfl, by omega, _, rfl, ⟨_, rfl⟩, "-", 8, rfl, rfl, by decide +kernel, _, _, rfl, rfl, by rw [len_cat]; omega, ?_⟩
          exact ⟨_, _, _, by rw [eN]; rfl, s6⟩
      rintro σ H5 ⟨v6, v7, v8, rfl, s5⟩
      rw [List.length_map, ← lnA, List.take_length, ← eRow]
      have hL5 := s5 _ _ hL4
      refine ⟨_, rfl, ⟨.inl ⟨rfl, _, .inl (.inl hL5)⟩, _, rfl, L, _, _, rfl, rfl, hL5, ?_, ?_⟩⟩
      · rw [List.length_map, List.length_cons, List.length_map, List.length_take]
        have : (rnm (bOf BR)).length = BR.length := by rw [List.length_map, List.length_map]
        exact small1000 (by omega)
      have hn : (rnm (bOf BR))[i]? = some bb.2.1 := by
        show ((BR.map (·.2)).map (·.1))[_]? = _
        rw [List.getElem?_map, List.getElem?_map, hb]
        rfl
      refine ⟨_, _, _, _, _, _, rfl, fun b o hb => ?_, ?_⟩
      · rw [upd_ne (ne_of_none hb hHL)]
        exact s5 _ _ (s04 _ _ hb)
      · rw [upd_same, List.take_add_one, hn, List.map_append, ← List.cons_append, List.map_append]
        rfl
    rintro σ H3 ⟨v3, v4, v5, v6, v7, v8, rfl, s3, hL3⟩
    have lB3 : (BR.map fun q => V.ref q.1).length = (rnm (bOf BR)).length := by rw [List.length_map, List.length_map, List.length_map]
    rw [lB3, List.take_length] at hL3
    have hL3 : H3 L = some (.lst ((tableL (rowsOf AR) (bOf BR)).map V.str)) := hL3
    have ee : ("" : Str).length ≤ 8 := by decide +kernel
    have lrow : ∀ z ∈ tableL (rowsOf AR) (bOf BR), z.length ≤ 408 := fun z hz => by
      rcases List.mem_cons.mp hz with rfl | hz
      · exact tlineL_len ee nm8 (by show (namesOf AR).length ≤ 40; omega)
      · obtain ⟨n, hn, rfl⟩ := List.mem_map.mp hz
        obtain ⟨r, hr, rfl⟩ := List.mem_map.mp hn
        refine tlineL_len (trip_len g rt hr).1 (fun x hx => ?_) (by rw [List.length_map]; show (namesOf AR).length ≤ 40; omega)
        obtain ⟨y, _, rfl⟩ := List.mem_map.mp hx
        exact mark_len _ _
    have lsum := sum_len lrow
    have ltab : (tableL (rowsOf AR) (bOf BR)).length ≤ 41 := by
      unfold tableL
      rw [List.length_cons, List.length_map]
      have : (rnm (bOf BR)).length = BR.length := by rw [List.length_map, List.length_map]
      omega
    have e1 : ("\n" : Str).length = 1 := by decide +kernel
    exact ⟨⟨_, rfl⟩, _, rfl, _, L, _, rfl, rfl, .inl (.inl (.inl hL3)), by rw [e1]; omega, kk H3 s3⟩
end
end K0
end
section
set_option Elab.async false
set_option linter.all false
set_option maxRecDepth 100000
set_option maxHeartbeats 4000000
namespace L2
open PySem PySem.Spec PyProof.Rows
/-- x not in a tuple of data -/
def rNotInT (K : PySem.W.Frag) : R2 := fun x y H Q => ∃ d ds, Dp K H x d ∧ Dp K H y (.tuple ds) ∧ SeqAt.shaped d = true ∧ SeqAt.shaped (.list ds) = true ∧ Q (.bl (!ds.any fun z => PyData.eqv z d)) H
theorem op_notInT {X : Cx} (hu : X.A.units + 65 < cLine) : OpR X (compareOp .NotIn) (rNotInT X.K) := by
  intro pins s σ H x y v u Q I rx ry h
  obtain ⟨d, ds, hd, he, sd, se, q⟩ := h
  obtain ⟨as, r1⟩ := Dp.reads I d x v hd rx
  obtain ⟨bs, r2⟩ := Dp.reads I (.tuple ds) y u he ry
  exact SeqAt.notIn_tuple_reads r2 r1 (SeqAt.canLay_of_shaped se) (SeqAt.canLay_of_shaped sd) (room_in_shaped sd hu) ⟨.bl _, H, I, rfl, q⟩
end L2
namespace K0
open PySem PySem.Spec PyProof.Rows L2 TL
/-! ### what is due of lines -/
abbrev scLDue_N : List Str := ["_law_lines_here", "_law_rows", "_law_rights_here", "_law_number", "_law_line", "_law_words", "_law_place", "_law_word"]
abbrev scLDue_S : Stmt := sLDue
theorem scLDue : FnScope scLDue_N ["_law_lines_here"] (defScope sLDue) := ⟨rfl, rfl, rfl, by decide +kernel, rfl, by decide +kernel, by decide +kernel⟩
def badLn (ls : List Str) (i : Nat) : Prop := ∃ l, ls[i]? = some l ∧ isLn l = false
noncomputable def dueD (ls : List Str) : PyData :=
  match firstP (badLn ls) ls.length with
  | some i => .tuple [.str "text", .int (i : Int)]
  | none => match wrD (.list (sortD "weir" ls)) with
    | some i => .tuple [.str "river", .int i]
    | none => match wrGD ((sortD "weir" ls).map unrow) (.list (sortD "right" ls)) with
      | some i => .tuple [.str "rights", .int i]
      | none => .tuple [.str "rows", .list (sortD "weir" ls), .list (sortD "right" ls)]
theorem any_head (w0 : Str) (n : Nat) : (([.tuple [.str "weir", .int 3], .tuple [.str "right", .int 4]] : List PyData).any fun z => PyData.eqv z (.tuple [.str w0, .int (n : Int)])) = ((decide (w0 = "weir") && decide (n = 3)) || (decide (w0 = "right") && decide (n = 4))) := by
  have e3 : ((3 : Int) == (n : Int)) = decide (n = 3) := by
    rw [Bool.eq_iff_iff, beq_iff_eq, decide_eq_true_eq]
    omega
  have e4 : ((4 : Int) == (n : Int)) = decide (n = 4) := by
    rw [Bool.eq_iff_iff, beq_iff_eq, decide_eq_true_eq]
    omega
  have ew : ∀ z : Str, (z == w0) = decide (w0 = z) := fun z => by
    rw [Bool.eq_iff_iff, beq_iff_eq, decide_eq_true_eq]
    exact eq_comm
  simp only [List.any_cons, List.any_nil, PyData.eqv, PyData.eqvAll, Bool.and_true, Bool.or_false, e3, e4, ew]
def spLDue : Sp := fun vs H Q _ => ∃ (l : Addr) (ls : List Str), vs = [.ref l] ∧ H l = some (.lst (ls.map V.str)) ∧ Lns ls ∧ ∀ v H', Same H H' → Dq H' v (dueD ls) → Q v H'
section
variable {P : Program} {w : World} {K : PySem.W.Frag} {mg : Str → Option Value} {base : Heap} {tS tM tL : Tok}
theorem ok_ldue {f fN fR fG fP fT fC : Addr} {fd fdN fdR fdG fdP fdT fdC : FuncData} (F : FnP K "_law_due" sLDue f fd) (F_law_is_name : FnP K "_law_is_name" sLIsName fN fdN) (g_law_is_name : mg "_law_is_name" = some (.ref fN))
    (F_law_is_pair : FnP K "_law_is_pair" sLIsPair fP fdP) (g_law_is_pair : mg "_law_is_pair" = some (.ref fP)) (F_law_is_right : FnP K "_law_is_right" sLIsRight fT fdT) (g_law_is_right : mg "_law_is_right" = some (.ref fT)) (F_law_course : FnP K "_law_course" sLCourse fC fdC) (g_law_course : mg "_law_course" = some (.ref fC))
    (F_law_wrong_river : FnP K "_law_wrong_river" sLWrongRiver fR fdR) (g_law_wrong_river : mg "_law_wrong_river" = some (.ref fR)) (F_law_wrong_rights : FnP K "_law_wrong_rights" sLWrongRights fG fdG) (g_law_wrong_rights : mg "_law_wrong_rights" = some (.ref fG)) (B : Bl mg) : FnOk P w K mg base CX0 4 f fd ["_law_lines_here"] spLDue := by
  have G_law_is_name : FnOk P w K mg base CX0 1 fN fdN ["_law_word"] spIsNameD := ok_lisname F_law_is_name B
  have b_law_is_name : Binds K fdN ["_law_word"] [] := F_law_is_name.bindsN fun _ _ _ _ _ _ us hl => match us, hl with | [_], _ => rfl
  have G_law_wrong_river : FnOk P w K mg base CX0 3 fR fdR ["_law_rows"] spLWrong := ok_lwrong F_law_wrong_river F_law_is_name g_law_is_name F_law_is_pair g_law_is_pair B
  have b_law_wrong_river : Binds K fdR ["_law_rows"] [] := F_law_wrong_river.bindsN fun _ _ _ _ _ _ us hl => match us, hl with | [_], _ => rfl
  have G_law_wrong_rights : FnOk P w K mg base CX0 3 fG fdG ["_law_rows", "_law_rights_here"] spLWrongG := ok_lwrongG F_law_wrong_rights F_law_is_name g_law_is_name F_law_is_right g_law_is_right F_law_course g_law_course B
  have b_law_wrong_rights : Binds K fdG ["_law_rows", "_law_rights_here"] [] := F_law_wrong_rights.bindsN fun _ _ _ _ _ _ us hl => match us, hl with | [_, _], _ => rfl
  refine F.ok scLDue (fun vs H Q E h => ?_) (fun cdv A outer s H vs Q E hr h => ?_)
  · obtain ⟨l, ls, rfl, _⟩ := h
    rfl
  · obtain ⟨l, ls, rfl, hl, hL, kk⟩ := h
    have hr_law_is_name : Room 1 _ := hr.mono (by decide)
    have hr_law_wrong_river : Room 3 _ := hr
    have hr_law_wrong_rights : Room 3 _ := hr
    have hu65 : (A.deeper (envOfC "_law_due" (defScope sLDue) s.heap.objs.size f cdv)).units + 65 < cLine := by
      have := hr.un
      omega
    refine ⟨_, PSs.nox (pss_cons
      (ps_par (i := 1) (j := 2) (by rfl) scLDue.nd rfl rfl (by decide) rfl rfl (pa_cons (pe_lst pa_nil) (pa_cons (pe_lst pa_nil) pa_nil)) (by rfl))
      (pss_cons
      (ps_for PassesOwn.never rfl (pi_enum (by rfl) B.enumerate (pa_cons (pv 0) pa_nil)) (tgK (K := K) (n := 2) (by rfl) (pgs_cons (pg_name (i := 3) scLDue.nd rfl (Or.inl rfl)) (pgs_cons (pg_name (i := 4) scLDue.nd rfl (Or.inl rfl)) pgs_nil))) (pss_cons
      (ps_set (i := 5) scLDue.nd rfl (Or.inl rfl) (pe_split (pv 4) pe_str))
      (pss_cons
      (ps_if (pt_cmpR (op_notInT hu65) (pe_tup (pa_cons (pe_ix (ixLK (K := K)) (pv 5) pe_int (fun _ _ => rfl)) (pa_cons (pe_callB (lenK (K := K)) (by rfl) B.len PySem.boot_len (pa_cons (pv 5) pa_nil)) pa_nil))) (pe_tup (pa_cons (pe_tup (pa_cons pe_str (pa_cons pe_int pa_nil))) (pa_cons (pe_tup (pa_cons pe_str (pa_cons pe_int pa_nil))) pa_nil))) (by rfl)) (pss_one
      (ps_ret (pe_tup (pa_cons pe_str (pa_cons (pv 3) pa_nil))))) pss_nil)
      (pss_cons
      (ps_if (pt_not (pt_val (pe_callB (allK (K := K) rfl) (by rfl) B.all (by decide +kernel) (pa_cons (pe_lc (own := [("_law_word", 7)]) (g := gName 7) (tt := tYes) (by rfl) scLDue.nd (pi_list (pe_slice sl_list (pv 5) (po_some pe_int) po_none)) (blkOk_by (own := [("_law_word", 7)]) (N := scLDue_N) (sc := defScope scLDue_S) (by decide +kernel)) (fun _ _ _ _ _ => (pg_name (i := 7) scLDue.nd rfl (Or.inl rfl))) (fun _ _ _ _ _ => pts_nil) (fun _ _ _ _ _ => (pe_call G_law_is_name hr_law_is_name (by rfl) g_law_is_name F_law_is_name.kp b_law_is_name .nil pass0 (pa_cons (pv 7) pa_nil)))) pa_nil)))) (pss_one
      (ps_ret (pe_tup (pa_cons pe_str (pa_cons (pv 3) pa_nil))))) pss_nil)
      (pss_one
      (ps_if (pt_cmpR op_eq (pe_ix (ixLK (K := K)) (pv 5) pe_int (fun _ _ => rfl)) pe_str (nomark _)) (pss_one
      (ps_expr (pe_bm PySem.F.plainAttrs_list PySem.F.slot_list_append PySem.F.type_list_append mt_append (pv 1) (pa_cons (pe_tup (pa_cons (pe_ix (ixLK (K := K)) (pv 5) pe_int (fun _ _ => rfl)) (pa_cons (pe_ix (ixLK (K := K)) (pv 5) pe_int (fun _ _ => rfl)) pa_nil))) pa_nil)))) (pss_one
      (ps_expr (pe_bm PySem.F.plainAttrs_list PySem.F.slot_list_append PySem.F.type_list_append mt_append (pv 2) (pa_cons (pe_tup (pa_cons (pe_ix (ixLK (K := K)) (pv 5) pe_int (fun _ _ => rfl)) (pa_cons (pe_ix (ixLK (K := K)) (pv 5) pe_int (fun _ _ => rfl)) (pa_cons (pe_ix (ixLK (K := K)) (pv 5) pe_int (fun _ _ => rfl)) pa_nil)))) pa_nil))))))))))
      (pss_cons
      (ps_set (i := 6) scLDue.nd rfl (Or.inl rfl) (pe_call G_law_wrong_river hr_law_wrong_river (by rfl) g_law_wrong_river F_law_wrong_river.kp b_law_wrong_river .nil pass0 (pa_cons (pv 1) pa_nil)))
      (pss_cons
      (ps_if (pt_cmpR op_notN (pv 6) pe_non (nomark _)) (pss_one
      (ps_ret (pe_tup (pa_cons pe_str (pa_cons (pv 6) pa_nil))))) pss_nil)
      (pss_cons
      (ps_set (i := 6) scLDue.nd rfl (Or.inl rfl) (pe_call G_law_wrong_rights hr_law_wrong_rights (by rfl) g_law_wrong_rights F_law_wrong_rights.kp b_law_wrong_rights .nil pass0 (pa_cons (pv 1) (pa_cons (pv 2) pa_nil))))
      (pss_one
      (ps_ret (pe_ifExp (pt_cmpR op_isN (pv 6) pe_non (nomark _)) (pe_tup (pa_cons pe_str (pa_cons (pv 1) (pa_cons (pv 2) pa_nil)))) (pe_tup (pa_cons pe_str (pa_cons (pv 6) pa_nil))))))))))), ?_⟩
    have z40 : 40000 ≤ sizeLine := by rw [sizeLine_eq]; omega
    refine ⟨Nat.zero_le _, fun lw nlw => ⟨Nat.zero_le _, fun lr nlr => ?_⟩⟩
    refine ⟨_, _, rfl, ?_⟩
    have hHw : H lw = none := nlw
    have hHr : H lr = none := none_of (same_upd nlw (o := .lst [])) nlr
    have hwr : lw ≠ lr := fun e => by rw [← e, upd_same] at nlr; cases nlr
    have s1 : Same H (upd (upd H lw (.lst [])) lr (.lst [])) := (same_upd nlw).trans (same_upd nlr)
    have tw : TupL (upd (upd H lw (.lst [])) lr (.lst [])) lw [] := ⟨by rw [upd_ne hwr, upd_same]; rfl, fun q hq => by cases hq⟩
    have tr : TupL (upd (upd H lw (.lst [])) lr (.lst [])) lr [] := ⟨by rw [upd_same]; rfl, fun q hq => by cases hq⟩
    generalize upd (upd H lw (.lst [])) lr (.lst []) = H1 at s1 tw tr
    refine ⟨_, rfl, l, _, rfl, .inl (.inl (s1 _ _ hl)), ?_⟩
    refine for_it (walk_enum (xs := ls.map V.str)) (fun i σ H3 => ∃ (v3 v4 v5 : Option V), σ = [some (.ref l), some (.ref lw), some (.ref lr), v3, v4, v5, none, none] ∧ Same H H3 ∧ (∀ z ∈ ls.take i, isLn z = true) ∧
      ∃ aw ar, TupL H3 lw aw ∧ TupL H3 lr ar ∧ aw.map (·.2) = wsD "weir" (ls.take i) ∧ ar.map (·.2) = wsD "right" (ls.take i))
      ⟨_, _, _, rfl, s1, fun z hz => (by rw [List.take_zero] at hz; cases hz), [], [], tw, tr, by rw [List.take_zero]; rfl, by rw [List.take_zero]; rfl⟩ (fun _ _ _ _ h => by obtain ⟨_, _, _, _, s3, _⟩ := h; exact .inl (.inl (s3 _ _ hl))) ?_ ?_
    · rintro i x σ H3 H4 hi ⟨v3, v4, v5, rfl, s3, good, aw, ar, tw3, tr3, ew, er⟩ ⟨Tt, x1, x2, rfl, hT, rfl, e1, e2⟩
      obtain rfl : V.int (i : Int) = x1 := Option.some.inj e1
      have e2 : (ls.map V.str)[i]? = some x2 := e2
      rw [List.getElem?_map] at e2
      obtain ⟨ln, hln, rfl⟩ := Option.map_eq_some_iff.mp e2
      have hil : i < ls.length := by
        rw [List.length_map] at hi
        exact hi
      have hl1 := hL.ok ln (List.mem_of_getElem? hln)
      obtain ⟨wp, w9, wall⟩ := hl1.words
      have edue : isW (wOf ln) = false → dueD ls = .tuple [.str "text", .int (i : Int)] := fun hw => by
        have : firstP (badLn ls) ls.length = some i := firstP_some hil ⟨ln, hln, hw⟩ fun j hj => by
          rintro ⟨z, hz, hzw⟩
          have := good z (List.mem_of_getElem? (by rw [List.getElem?_take_of_lt hj]; exact hz))
          rw [this] at hzw
          cases hzw
        unfold dueD
        rw [this]
      have sT := same_upd hT (o := .tup [V.int (i : Int), V.str ln])
      refine ⟨Tt, _, rfl, .inl (.inl upd_same), rfl, _, _, rfl, _, _, rfl, rfl, ?_⟩
      have s4 := s3.trans sT
      have tw4 := tw3.same sT
      have tr4 := tr3.same sT
      generalize upd H3 Tt (.tup [V.int (i : Int), V.str ln]) = H4 at s4 tw4 tr4
      have hl300 := hl1.most
      refine ⟨_, rfl, ⟨_, rfl⟩, _, _, rfl, rfl, by decide +kernel, by rw [len_tl]; omega, fun q nq => ?_⟩
      have sq := same_upd nq (o := .lst ((wOf ln).map V.str))
      have s5 := s4.trans sq
      have tw5 := tw4.same sq
      have tr5 := tr4.same sq
      have hq5 : (upd H4 q (.lst ((wOf ln).map V.str))) q = some (.lst ((wOf ln).map V.str)) := upd_same
      show tSeq _ _ _ _ (upd H4 q (.lst ((wOf ln).map V.str)))
      generalize upd H4 q (.lst ((wOf ln).map V.str)) = H5 at s5 tw5 tr5 hq5
      obtain ⟨w0, wr, ewl⟩ : ∃ a r, wOf ln = a :: r := by
        cases e : wOf ln with
        | nil => rw [e] at wp; cases wp
        | cons a r => exact ⟨a, r, rfl⟩
      have hq5' := hq5
      rw [ewl] at hq5
      refine ⟨_, rfl, q, _, 0, .str w0, rfl, rfl, .inl (.inl hq5), atI_nat (j := 0) rfl, _, rfl, q, _, rfl, .inl (.inl (.inl hq5)), by show 2 ≤ sizeLine; omega, fun p1 n1 => ⟨by show 2 ≤ sizeLine; omega, fun p2 n2 => ⟨by show 2 ≤ sizeLine; omega, fun p3 n3 => ⟨by show 2 ≤ sizeLine; omega, fun p4 n4 => ?_⟩⟩⟩⟩
      have sa := same_upd n1 (o := .tup [V.str w0, V.int (((w0 :: wr).map V.str).length : Int)])
      have sb := same_upd n2 (o := .tup [V.str "weir", V.int 3])
      have sc := same_upd n3 (o := .tup [V.str "right", V.int 4])
      have sd := same_upd n4 (o := .tup [V.ref p2, V.ref p3])
      have hp1 := sd _ _ (sc _ _ (sb _ _ (upd_same (H := H5) (a := p1) (o := .tup [V.str w0, V.int (((w0 :: wr).map V.str).length : Int)]))))
      have hp2 := sd _ _ (sc _ _ (upd_same (H := upd H5 p1 (.tup [V.str w0, V.int (((w0 :: wr).map V.str).length : Int)])) (a := p2) (o := .tup [V.str "weir", V.int 3])))
      have hp3 := sd _ _ (upd_same (H := upd (upd H5 p1 (.tup [V.str w0, V.int (((w0 :: wr).map V.str).length : Int)])) p2 (.tup [V.str "weir", V.int 3])) (a := p3) (o := .tup [V.str "right", V.int 4]))
      have hp4 := upd_same (H := upd (upd (upd H5 p1 (.tup [V.str w0, V.int (((w0 :: wr).map V.str).length : Int)])) p2 (.tup [V.str "weir", V.int 3])) p3 (.tup [V.str "right", V.int 4])) (a := p4) (o := .tup [V.ref p2, V.ref p3])
      have s56 := ((sa.trans sb).trans sc).trans sd
      have s6 := s5.trans s56
      have tw6 := tw5.same s56
      have tr6 := tr5.same s56
      have hq6 := s56 _ _ hq5
      show rNotInT _ (V.ref p1) (V.ref p4) (upd (upd (upd (upd H5 p1 (.tup [V.str w0, V.int (((w0 :: wr).map V.str).length : Int)])) p2 (.tup [V.str "weir", V.int 3])) p3 (.tup [V.str "right", V.int 4])) p4 (.tup [V.ref p2, V.ref p3])) _
      generalize upd (upd (upd (upd H5 p1 (.tup [V.str w0, V.int (((w0 :: wr).map V.str).length : Int)])) p2 (.tup [V.str "weir", V.int 3])) p3 (.tup [V.str "right", V.int 4])) p4 (.tup [V.ref p2, V.ref p3]) = H6 at hp1 hp2 hp3 hp4 s6 tw6 tr6 hq6
      have qd : Dq H6 (.ref p1) (.tuple [.str w0, .int (((w0 :: wr).map V.str).length : Int)]) := .tup hp1 (.cons (.str _) (.cons (.int _) .nil))
      have qs : Dq H6 (.ref p4) (.tuple [.tuple [.str "weir", .int 3], .tuple [.str "right", .int 4]]) := .tup hp4 (.cons (.tup hp2 (.cons (.str _) (.cons (.int _) .nil))) (.cons (.tup hp3 (.cons (.str _) (.cons (.int _) .nil))) .nil))
      have all_ok : ∀ y ∈ w0 :: wr, Plain y ∧ y.cps.toList.length ≤ 900 := fun y hy => wall y (by rw [ewl]; exact hy)
      have shd : SeqAt.shaped (.tuple [.str w0, .int (((w0 :: wr).map V.str).length : Int)]) = true := by
        refine (Fit.tup (m := 900) (k := 0) _ (fun d hd => ?_) (by show 2 ≤ 900; omega)).shaped (by omega)
        rcases List.mem_cons.mp hd with rfl | hd
        · exact .str _ (all_ok w0 List.mem_cons_self).1 (all_ok w0 List.mem_cons_self).2
        · rw [List.mem_singleton.mp hd]
          exact .int _
      refine ⟨_, _, qd.dp, qs.dp, shd, by decide +kernel, _, rfl, ?_⟩
      rw [any_head, List.length_map]
      have eis : isW (wOf ln) = (((decide (w0 = "weir") && decide ((w0 :: wr).length = 3)) || (decide (w0 = "right") && decide ((w0 :: wr).length = 4))) && wr.all fun y => nameB (.str y)) := by
        rw [ewl]
        rfl
      cases hh : ((decide (w0 = "weir") && decide ((w0 :: wr).length = 3)) || (decide (w0 = "right") && decide ((w0 :: wr).length = 4))) with
      | false =>
        have hwF : isW (wOf ln) = false := by rw [eis, hh]; rfl
        refine iteT ?_
        refine ⟨_, rfl, by show 2 ≤ sizeLine; omega, fun p np => kk (.ref p) _ ((s6).trans (same_upd np)) ?_⟩
        rw [edue hwF]
        exact .tup upd_same (.cons (.str _) (.cons (.int _) .nil))
      | true =>
        refine iteF ?_
        refine ⟨_, rfl, 1, rfl, ?_⟩
        unfold tNoPart
        refine ⟨q, _, rfl, .inl (.inl hq6), fun l2 nl2 => ?_⟩
        have hcut : cutV ((w0 :: wr).map V.str) (some (1 : Int)) none = wr.map V.str := cut_drop _ 1
        rw [hcut]
        have sl := same_upd nl2 (o := .lst (wr.map V.str))
        have hl2 : (upd H6 l2 (.lst (wr.map V.str))) l2 = some (.lst (wr.map V.str)) := upd_same
        have s7 := s6.trans sl
        have tw7 := tw6.same sl
        have tr7 := tr6.same sl
        have hq7 := sl _ _ hq6
        generalize upd H6 l2 (.lst (wr.map V.str)) = H7 at hl2 s7 tw7 tr7 hq7
        have hwl : wr.length ≤ 900 := by
          rw [ewl, List.length_cons] at w9
          omega
        refine ⟨l2, rfl, ⟨_, .inl (.inl hl2)⟩, fun D nD => ?_⟩
        refine lc_listO (K := K) (a := l2) (xs := wr.map V.str) nD (fun j => (wr.take j).map fun y => V.bl (nameB (.str y))) (by rw [List.take_zero]; rfl) (fun j _ => by rw [List.length_map, List.length_take]; exact small1000 (by omega)) (.inl (.inl hl2)) ?_ ?_
        · intro j x H8 Nx hx s8 put skip
          rw [List.getElem?_map] at hx
          obtain ⟨y, hy, rfl⟩ := Option.map_eq_some_iff.mp hx
          obtain ⟨y1, y2⟩ := all_ok y (List.mem_cons_of_mem _ (List.mem_of_getElem? hy))
          refine ⟨rfl, ?_⟩
          refine tyes_i (iteT ?_)
          exact ⟨_, rfl, .str y, .str y, 900, 0, rfl, .str y, .str y y1 y2, by omega, fun H9 s9 => put _ _ s9 (take_map1 hy)⟩
        intro H9 s79 hD
        rw [List.length_map, List.take_length] at hD
        have hD2 : H9 D = some (.lst ((wr.map fun y => nameB (.str y)).map V.bl)) := by rw [List.map_map]; exact hD
        have s9 := s7.trans s79
        have tw9 := tw7.same s79
        have tr9 := tr7.same s79
        have hq9 := s79 _ _ hq7
        refine ⟨D, _, rfl, .inl (.inl hD2), _, rfl, ?_⟩
        rw [List.all_map]
        cases hall : (wr.all fun y => nameB (.str y)) with
        | false =>
          have hwF : isW (wOf ln) = false := by rw [eis, hall, Bool.and_false]
          refine ifTrue (congrArg not hall) ?_
          refine ⟨_, rfl, by show 2 ≤ sizeLine; omega, fun p np => kk (.ref p) _ ((s9).trans (same_upd np)) ?_⟩
          rw [edue hwF]
          exact .tup upd_same (.cons (.str _) (.cons (.int _) .nil))
        | true =>
          refine ifFalse (congrArg not hall) ?_
          have hwT : isW (wOf ln) = true := by rw [eis, hh, hall]; rfl
          have etake : ls.take (i + 1) = ls.take i ++ [ln] := by rw [List.take_add_one, hln]; rfl
          have good2 : ∀ z ∈ ls.take (i + 1), isLn z = true := fun z hz => by
            rw [etake, List.mem_append, List.mem_singleton] at hz
            rcases hz with hz | rfl
            · exact good z hz
            · exact hwT
          have wsl : ∀ x, (wsD x (ls.take i)).length ≤ 90 := fun x => by
            have h2 := hL.most
            have h3 : (wsD x (ls.take i)).length ≤ (ls.take i).length := by
              unfold wsD
              rw [List.length_map]
              exact List.length_filter_le _ _
            rw [List.length_take] at h3
            omega
          have awl : aw.length ≤ 90 := by
            have h1 := congrArg List.length ew
            rw [List.length_map] at h1
            rw [h1]
            exact wsl _
          have arl : ar.length ≤ 90 := by
            have h1 := congrArg List.length er
            rw [List.length_map] at h1
            rw [h1]
            exact wsl _
          have ehd : headW ln = w0 := by unfold headW; rw [ewl]; rfl
          refine ⟨_, rfl, q, _, 0, .str w0, rfl, rfl, .inl (.inl hq9), atI_nat (j := 0) rfl, rfl, _, rfl, ?_⟩
          rcases isLn_head (l := ln) hwT with ⟨eh, el⟩ | ⟨eh, el⟩
          · refine iteD (congrArg V.str (ehd.symm.trans eh)) ?_
            obtain ⟨a, b, ewr⟩ : ∃ a b, wr = [a, b] := by
              rw [ewl, List.length_cons] at el
              match wr, el with
              | [a, b], _ => exact ⟨a, b, rfl⟩
            refine ⟨_, rfl, ⟨.inl ⟨rfl, _, .inl (.inl tw9.lst)⟩, _, rfl, q, _, 1, .str a, rfl, rfl, .inl (.inl hq9), atI_nat (j := 1) (by rw [ewr]; rfl), _, rfl, q, _, 2, .str b, rfl, rfl, .inl (.inl hq9), atI_nat (j := 2) (by rw [ewr]; rfl), by show 2 ≤ sizeLine; omega, fun t nt => ?_⟩⟩
            have eT : ([V.str a, V.str b] : List V) = wr.map V.str := by rw [ewr]; rfl
            rw [eT]
            have st := same_upd nt (o := .tup (wr.map V.str))
            have ht : (upd H9 t (.tup (wr.map V.str))) t = some (.tup (wr.map V.str)) := upd_same
            have s10 := s9.trans st
            have tw10 := tw9.same st
            have tr10 := tr9.same st
            generalize upd H9 t (.tup (wr.map V.str)) = H10 at ht s10 tw10 tr10
            refine ⟨lw, _, _, rfl, rfl, tw10.lst, by rw [List.length_map]; exact small1000 (by omega), ?_⟩
            refine ⟨_, _, _, rfl, fun b o hb => ?_, good2, aw ++ [(t, wr)], ar, tw10.snoc ht, tr10.other tw10.lst (Ne.symm hwr), (by rw [etake, wsD_snoc, if_pos eh, List.map_append, ew, ewl]; rfl), (by rw [etake, wsD_snoc, if_neg (by rw [eh]; decide +kernel), List.append_nil, er])⟩
            rw [upd_ne (ne_of_none hb hHw)]
            exact s10 b o hb
          · refine iteDn (fun z => by
              have := V.str.inj z
              rw [← ehd, eh] at this
              exact absurd this (by decide +kernel)) ?_
            obtain ⟨a, b, c, ewr⟩ : ∃ a b c, wr = [a, b, c] := by
              rw [ewl, List.length_cons] at el
              match wr, el with
              | [a, b, c], _ => exact ⟨a, b, c, rfl⟩
            refine ⟨_, rfl, ⟨.inl ⟨rfl, _, .inl (.inl tr9.lst)⟩, _, rfl, q, _, 1, .str a, rfl, rfl, .inl (.inl hq9), atI_nat (j := 1) (by rw [ewr]; rfl), _, rfl, q, _, 2, .str b, rfl, rfl, .inl (.inl hq9), atI_nat (j := 2) (by rw [ewr]; rfl), _, rfl, q, _, 3, .str c, rfl, rfl, .inl (.inl hq9), atI_nat (j := 3) (by rw [ewr]; rfl), by show 3 ≤ sizeLine; omega, fun t nt => ?_⟩⟩
            have eT : ([V.str a, V.str b, V.str c] : List V) = wr.map V.str := by rw [ewr]; rfl
            rw [eT]
            have st := same_upd nt (o := .tup (wr.map V.str))
            have ht : (upd H9 t (.tup (wr.map V.str))) t = some (.tup (wr.map V.str)) := upd_same
            have s10 := s9.trans st
            have tw10 := tw9.same st
            have tr10 := tr9.same st
            generalize upd H9 t (.tup (wr.map V.str)) = H10 at ht s10 tw10 tr10
            refine ⟨lr, _, _, rfl, rfl, tr10.lst, by rw [List.length_map]; exact small1000 (by omega), ?_⟩
            refine ⟨_, _, _, rfl, fun b o hb => ?_, good2, aw, ar ++ [(t, wr)], tw10.other tr10.lst hwr, tr10.snoc ht, (by rw [etake, wsD_snoc, if_neg (by rw [eh]; decide +kernel), List.append_nil, ew]), (by rw [etake, wsD_snoc, if_pos eh, List.map_append, er, ewl]; rfl)⟩
            rw [upd_ne (ne_of_none hb hHr)]
            exact s10 b o hb
    rintro σ H3 ⟨v3, v4, v5, rfl, s3, good, aw, ar, tw3, tr3, ew, er⟩
    rw [List.length_map, List.take_length] at good ew er
    have hsw := sort_fit (x := "weir") good
    have hsr := sort_fit (x := "right") good
    have hlw := Nat.le_trans (sort_len "weir" ls) hL.most
    have hlr2 := Nat.le_trans (sort_len "right" ls) hL.most
    have qw : Dq H3 (.ref lw) (.list (sortD "weir" ls)) := by
      have := tw3.dq
      rw [ew, ← sortD_ws] at this
      exact this
    have qr : Dq H3 (.ref lr) (.list (sortD "right" ls)) := by
      have := tr3.dq
      rw [er, ← sortD_ws] at this
      exact this
    have fn : firstP (badLn ls) ls.length = none := firstP_none fun i hi => by
      rintro ⟨z, hz, hzw⟩
      have := good z (List.mem_of_getElem? hz)
      rw [this] at hzw
      cases hzw
    obtain ⟨_, ws, ds, e1, e2, hl0, hws⟩ := dqL qw rfl
    cases e1
    injection e2 with e2
    subst e2
    obtain ⟨_, wsr, dsr, e3, e4, hl2, hwsr⟩ := dqL qr rfl
    cases e3
    injection e4 with e4
    subst e4
    refine ⟨_, rfl, lw, ws, sortD "weir" ls, 90, 1, rfl, hl0, hws, hsw, by omega, by omega, by omega, fun H4 s4 => ?_⟩
    cases eW : wrF (sortD "weir" ls) with
    | some i =>
      refine ⟨_, rfl, rfl, _, rfl, ?_⟩
      refine iteYes (fun z => by cases z) ?_
      refine ⟨_, rfl, by show 2 ≤ sizeLine; omega, fun p np => kk (.ref p) _ ((s3.trans s4).trans (same_upd np)) ?_⟩
      have : dueD ls = .tuple [.str "river", .int i] := by
        unfold dueD
        rw [fn]
        show (match wrF (sortD "weir" ls) with | some i => _ | none => _) = _
        rw [eW]
      rw [this]
      exact .tup upd_same (.cons (.str _) (.cons (.int _) .nil))
    | none =>
      refine ⟨_, rfl, rfl, _, rfl, ?_⟩
      refine iteNo (fun z => z rfl) ?_
      obtain ⟨R, eR, g⟩ := wrD_good (d := .list (sortD "weir" ls)) eW
      injection eR with eR
      rw [eR] at hws
      obtain ⟨AR, rfl, rfl, hA⟩ := dq_rows hws
      refine ⟨_, rfl, _, rfl, lw, lr, AR, wsr, sortD "right" ls, 90, 1, rfl, RowsAt.same ⟨hl0, hA⟩ s4, g, s4 _ _ hl2, hwsr.same s4, hsr, by omega, by omega, by omega, fun H5 s5 => ?_⟩
      have s05 := (s3.trans s4).trans s5
      have hdue : dueD ls = (match wrG (rowsOf AR) (sortD "right" ls) with
          | some i => .tuple [.str "rights", .int i]
          | none => .tuple [.str "rows", .list (sortD "weir" ls), .list (sortD "right" ls)]) := by
        unfold dueD
        rw [fn]
        show (match wrF (sortD "weir" ls) with | some i => _ | none => _) = _
        rw [eW]
        show (match wrG ((sortD "weir" ls).map unrow) (sortD "right" ls) with | some i => _ | none => _) = _
        rw [eR, unrow_map]
      cases eG : wrG (rowsOf AR) (sortD "right" ls) with
      | some i =>
        rw [eG] at hdue
        refine ⟨_, rfl, rfl, _, rfl, ?_⟩
        refine iteDn (fun z => by cases z) ?_
        refine ⟨_, rfl, by show 2 ≤ sizeLine; omega, fun p np => kk (.ref p) _ (s05.trans (same_upd np)) ?_⟩
        rw [hdue]
        exact .tup upd_same (.cons (.str _) (.cons (.int _) .nil))
      | none =>
        rw [eG] at hdue
        refine ⟨_, rfl, rfl, _, rfl, ?_⟩
        refine iteD rfl ?_
        refine ⟨_, rfl, _, rfl, by show 3 ≤ sizeLine; omega, fun p np => kk (.ref p) _ (s05.trans (same_upd np)) ?_⟩
        rw [hdue]
        exact .tup upd_same (.cons (.str _) (.cons (qw.same ((s4.trans s5).trans (same_upd np))) (.cons (qr.same ((s4.trans s5).trans (same_upd np))) .nil)))
end
end K0
end
section
set_option Elab.async false
set_option linter.all false
set_option maxRecDepth 100000
set_option maxHeartbeats 4000000
namespace L2
open PySem PySem.Spec PyProof.Rows
/-- isinstance of a caught error that has a dict -/
theorem k0_kitx {K : PySem.W.Frag} {x D : Addr} {ox : Obj} (C : ExcC K D) : PySem.W.KitX K (.ref x) (.ref D) (fun h => ∃ od, PySem.W.InstAt h x ox D od) where
  ty := fun _ _ _ I => by
    obtain ⟨od, I⟩ := I
    exact I.type
  it := fun _ _ X _ => by
    obtain ⟨cdD, hcD, _⟩ := PySem.W.any_some C.hd
    unfold PySem.W.clsIn at hcD
    split at hcD
    · rename_i c' d' cd' sl' ho
      intro A' Q' E' s' k q
      unfold isType loadHead
      exact wpAny_bind (wpAny_loadPart (k _ _ (X _ _ ho)) (wpAny_pure q))
    · cases hcD
  ne := fun h tp dd its n sl X htp => (PySem.W.handS_kitx_exc (x := x) (ox := ox) C.hg C.hk C.hs C.hd C.ha C.hn C.ht C.hm).ne h tp dd its n sl X htp
  ca := fun X ⟨od, I⟩ k => PySem.W.kx_classE X I C.hg C.hk C.hs (PySem.W.findObj_dataE (by obtain ⟨cd, hc, _⟩ := PySem.W.any_some C.hd; rw [hc]; rfl) C.ha C.hn C.ht) C.hm k
def rIsTD (K : PySem.W.Frag) (a : Addr) (cls : Value) (d : Option Addr) : List V → Hp → VK → Prop := fun xs H Q => ∃ (tp : Addr) (cs : List V) (us : List Value) (b : Bool) (D dd : Addr) (fs : List (Str × V)), xs = [.ref a, .ref tp] ∧ cls = .ref D ∧ d = some dd ∧ ExcC K D ∧ H dd = some (.xd fs) ∧ H tp = some (.tup cs) ∧ Paired ClsV cs us ∧ PySem.W.kitAny K (.ref D) us = some b ∧ Q (.bl b) H
theorem k0_isET {X : Cx} {a : Addr} {oe : Obj} {cls : Value} {d : Option Addr} {pn : List (Addr × Obj)} (hz : Zc cls d oe) (hf : ∃ vs, oe.data = .fields vs) : CallR (X.suite a ((a, oe) :: pn)) (.builtin "isinstance") (rIsTD X.K a cls d) := by
  intro pins s σ H xs us Q I r h
  obtain ⟨tp, cs, ws, b, D, dd, fs, rfl, rfl, rfl, C, ea, hT, k, e, q⟩ := h
  obtain ⟨u1, u2, rfl, r1, r2⟩ := vals2 r
  cases (show u1 = Value.ref a from r1)
  cases (show u2 = Value.ref tp from r2)
  obtain ⟨hget, _⟩ := I.pin (a, oe) (List.mem_append.mpr (.inl List.mem_cons_self))
  obtain ⟨vs, hv⟩ := hf
  have hx : ObjOk X.prog X.w H s.heap dd (.xd fs) := I.hok dd _ ea
  obtain ⟨mA, hns, hr⟩ := hx
  obtain ⟨od, ho, hl⟩ := lookIn_ns hns
  have J : PySem.W.InstAt s.heap a oe D (some od) := ⟨hget, hz.1, by unfold PySem.W.notCls; rw [hv], by rw [hz.2]; exact ho⟩
  obtain ⟨_, its, rv, o, h1, h2, n, h3⟩ := (show ObjOk X.prog X.w H s.heap tp (.tup cs) from I.hok tp _ hT)
  have e3 := ClsV.all k rv
  subst e3
  obtain ⟨oc, od', dt, sl⟩ := o
  simp only at h2 h3
  subst h2 h3
  exact PySem.W.kia_tup (k0_kitx C) I.kIn ⟨_, J⟩ h1 e (fun z => nomatch z) fun tk => ⟨.bl b, H, I.kept (t' := tk) fun _ _ z => z, rfl, q⟩
end L2
namespace K0
open PySem PySem.Spec PyProof.Rows L2 TL
/-! ### what is told of lines -/
theorem due_text {ls : List Str} {i : Nat} {l : Str} (hl : ls[i]? = some l) (hw : isLn l = false) (good : ∀ z ∈ ls.take i, isLn z = true) : dueD ls = .tuple [.str "text", .int (i : Int)] := by
  have : firstP (badLn ls) ls.length = some i := firstP_some (List.getElem?_eq_some_iff.mp hl).1 ⟨l, hl, hw⟩ fun j hj => by
    rintro ⟨z, hz, hzw⟩
    have := good z (List.mem_of_getElem? (by rw [List.getElem?_take_of_lt hj]; exact hz))
    rw [this] at hzw
    cases hzw
  unfold dueD
  rw [this]
theorem no_bad {ls : List Str} (good : ∀ z ∈ ls, isLn z = true) : firstP (badLn ls) ls.length = none := firstP_none fun i hi => by
  rintro ⟨z, hz, hzw⟩
  have := good z (List.mem_of_getElem? hz)
  rw [this] at hzw
  cases hzw
theorem due_river {ls : List Str} (good : ∀ z ∈ ls, isLn z = true) {i : Int} (h : wrD (.list (sortD "weir" ls)) = some i) : dueD ls = .tuple [.str "river", .int i] := by
  unfold dueD
  rw [no_bad good]
  show (match wrD (.list (sortD "weir" ls)) with | some i => _ | none => _) = _
  rw [h]
theorem due_rights {ls : List Str} (good : ∀ z ∈ ls, isLn z = true) {R : List Row} (hn : wrD (.list (sortD "weir" ls)) = none) (g : GoodRows R) (eR : sortD "weir" ls = R.map rowD) {i : Int} (h : wrGD R (.list (sortD "right" ls)) = some i) : dueD ls = .tuple [.str "rights", .int i] := by
  unfold dueD
  rw [no_bad good]
  show (match wrD (.list (sortD "weir" ls)) with | some i => _ | none => _) = _
  rw [hn]
  show (match wrGD ((sortD "weir" ls).map unrow) (.list (sortD "right" ls)) with | some i => _ | none => _) = _
  rw [eR, unrow_map, h]
theorem due_rows {ls : List Str} (good : ∀ z ∈ ls, isLn z = true) {R : List Row} (hn : wrD (.list (sortD "weir" ls)) = none) (g : GoodRows R) (eR : sortD "weir" ls = R.map rowD) {B : List RRow} (b : RtOk R B) (eB : sortD "right" ls = B.map tripD) : dueD ls = .tuple [.str "rows", .list (R.map rowD), .list (B.map tripD)] := by
  unfold dueD
  rw [no_bad good]
  show (match wrD (.list (sortD "weir" ls)) with | some i => _ | none => _) = _
  rw [hn]
  show (match wrGD ((sortD "weir" ls).map unrow) (.list (sortD "right" ls)) with | some i => _ | none => _) = _
  rw [eR, unrow_map, eB]
  show (match wrG R (B.map tripD) with | some i => _ | none => _) = _
  rw [wrG_of g b]
end K0
end
section
set_option Elab.async false
set_option linter.all false
set_option maxRecDepth 100000
set_option maxHeartbeats 4000000
namespace K0
open PySem PySem.Spec PyProof.Rows L2 TL
abbrev scLTold_N : List Str := ["_law_text", "_law_rights_here", "e"]
theorem scLTold : FnScope scLTold_N ["_law_text"] (defScope sLTold) := ⟨rfl, rfl, rfl, by decide +kernel, rfl, by decide +kernel, by decide +kernel⟩
/-- what the classes of errors say -/
structure Te (K : PySem.W.Frag) (mg : Str → Option Value) (Ct Cn Cm Ce : Addr) : Prop where
  ect : ExcC K Ct
  xt : XfC K Ct
  xn : XfC K Cn
  xm : XfC K Cm
  ht : PySem.W.findIn K (.ref Ct) "line" = some none
  hn : PySem.W.findIn K (.ref Cn) "place" = some none
  hm : PySem.W.findIn K (.ref Cm) "place" = some none
  mT : mg "NotText" = some (.ref Ct)
  mN : mg "NotRiver" = some (.ref Cn)
  mM : mg "NotRights" = some (.ref Cm)
  mE : mg "WeirError" = some (.ref Ce)
  tt : PySem.W.exmOne K (.ref Ct) (.ref Ct) = some true
  nt : PySem.W.exmOne K (.ref Cn) (.ref Ct) = some false
  nn : PySem.W.exmOne K (.ref Cn) (.ref Cn) = some true
  mt : PySem.W.exmOne K (.ref Cm) (.ref Ct) = some false
  mn : PySem.W.exmOne K (.ref Cm) (.ref Cn) = some false
  mm : PySem.W.exmOne K (.ref Cm) (.ref Cm) = some true
  kt : PySem.W.kitAny K (.ref Ct) [.ref Cn, .ref Cm] = some false
theorem takes0X {X : Cx} : Takes X (fun _ _ _ _ => False) := fun _ _ x => by
  obtain ⟨_, _, _, _, _, _, _, _, _, _, _, _, _, _, _, _, z⟩ := x
  exact z.elim
theorem rows_dq {AR : List (Addr × Row)} {H : Hp} (h : ∀ q ∈ AR, H q.1 = some (.tup [.str q.2.1, .str q.2.2])) : DqAll H (AR.map fun q => V.ref q.1) ((rowsOf AR).map rowD) := by
  induction AR with
  | nil => exact .nil
  | cons q r ih => exact .cons (.tup (h q List.mem_cons_self) (.cons (.str _) (.cons (.str _) .nil))) (ih fun z hz => h z (List.mem_cons_of_mem _ hz))
def spLTold : Sp := fun vs H Q _ => ∃ (ls : List Str), vs = [.str (Txt.join "\n" ls)] ∧ Lns ls ∧ ∀ v H', Same H H' → Dq H' v (dueD ls) → Q v H'
section
variable {P : Program} {w : World} {K : PySem.W.Frag} {mg : Str → Option Value} {base : Heap} {tS tM tL : Tok}
theorem ok_ltold {f fA fR fS Cr Cg Cn Cm Ct Ce : Addr} {fd fdA fdR fdS : FuncData} (F : FnP K "_law_told" sLTold f fd) (F_read : FnP K "read_chart" sReadChart fA fdA) (g_read : mg "read_chart" = some (.ref fA)) (G_read : FnOk P w K mg base (L2.CX P w) 7 fA fdA ["text"] (spRead Cg Cr Cn Cm Ct))
    (FR : FnM K "rows" "River.rows" sRows fR fdR) (Mrows : Meth K Cr "rows" fR) (FS : FnM K "rows" "Rights.rows" sGRows fS fdS) (MrowsG : Meth K Cg "rows" fS) (T : Rv K mg Cr) (TG : Rg K mg Cg) (R : Te K mg Ct Cn Cm Ce) (B : Bl mg) : FnOk P w K mg base CX0 8 f fd ["_law_text"] spLTold := by
  have b_read : Binds K fdA ["text"] [] := F_read.bindsN fun _ _ _ _ _ _ us hl => match us, hl with | [_], _ => rfl
  have Grows : FnOk P w K mg base CX0 1 fR fdR ["self"] (spRows Cr) := ok_rows FR T B
  have brows : Binds K fdR ["self"] [] := FR.bindsN fun _ _ _ _ _ _ us hl => match us, hl with | [_], _ => rfl
  have GrowsG : FnOk P w K mg base CX0 1 fS fdS ["self"] (spRowsG Cg Cr) := ok_rowsG FS TG B
  have browsG : Binds K fdS ["self"] [] := FS.bindsN fun _ _ _ _ _ _ us hl => match us, hl with | [_], _ => rfl
  refine F.ok scLTold (fun vs H Q E h => ?_) (fun cdv A outer s H vs Q E hr h => ?_)
  · obtain ⟨ls, rfl, _⟩ := h
    rfl
  · obtain ⟨ls, rfl, hL, kk⟩ := h
    have hr_read : Room 7 _ := hr
    have hrrows : Room 1 _ := hr.mono (by decide)
    have z40 : 40000 ≤ sizeLine := by rw [sizeLine_eq]; omega
    refine ⟨_, PSs.nox (pss_cons (k0_try_named
      (l := [⟨.ref Ct, some 2, fun a cls d => tRet (tIf (tNot (tB (tCB (rIsTD K a cls d) (tCons (tVar 2) (tCons (tTup (tCons (tC (.ref Cn)) (tCons (tC (.ref Cm)) tNil))) tNil))))) (tTup (tCons (tC (.str "text")) (tCons (tXf a cls d Ct "line" (tVar 2)) tNil))) (tC (.str "several")))⟩,
        ⟨.ref Cn, some 2, fun a cls d => tRet (tTup (tCons (tC (.str "river")) (tCons (tXf a cls d Cn "place" (tVar 2)) tNil)))⟩,
        ⟨.ref Cm, some 2, fun a cls d => tRet (tTup (tCons (tC (.str "rights")) (tCons (tXf a cls d Cm "place" (tVar 2)) tNil)))⟩,
        ⟨.ref Ce, none, fun _ _ _ => tRet (tC (V.str "other"))⟩])
      rfl rfl takes0X (fun W pn xe tk _ => pss_one (ps_set (i := 1) scLTold.nd rfl (Or.inl rfl) (pe_callS G_read hr_read (by rfl) g_read F_read.kp b_read (fun σ => passAt tk σ) (pa_cons (pv 0) pa_nil))))
      (.more ⟨rfl, by decide, .inl R.mT⟩ ⟨scLTold.nd, rfl, rfl⟩ (fun a oe cls d pn hz hf => by
          dsimp only
          exact pss_one (ps_ret (pe_ifExp (pt_not (pt_val (pe_callB (k0_isET hz hf) (by rfl) B.isinstance (by decide +kernel) (pa_cons (pv 2) (pa_cons (pe_tup (pa_cons (pe_glob (v := .ref Cn) (by rfl) R.mN rfl) (pa_cons (pe_glob (v := .ref Cm) (by rfl) R.mM rfl) pa_nil))) pa_nil))))) (pe_tup (pa_cons pe_str (pa_cons (pe_xf R.xt R.ht hz hf (pv 2)) pa_nil))) pe_str)))
      (.more ⟨rfl, by decide, .inl R.mN⟩ ⟨scLTold.nd, rfl, rfl⟩ (fun a oe cls d pn hz hf => by
          dsimp only
          exact pss_one (ps_ret (pe_tup (pa_cons pe_str (pa_cons (pe_xf R.xn R.hn hz hf (pv 2)) pa_nil)))))
      (.more ⟨rfl, by decide, .inl R.mM⟩ ⟨scLTold.nd, rfl, rfl⟩ (fun a oe cls d pn hz hf => by
          dsimp only
          exact pss_one (ps_ret (pe_tup (pa_cons pe_str (pa_cons (pe_xf R.xm R.hm hz hf (pv 2)) pa_nil)))))
      (.more ⟨rfl, by decide, .inl R.mE⟩ trivial (fun a oe cls d pn hz hf => pss_one (ps_ret pe_str)) .done)))))
      (pss_one (ps_ret (pe_tup (pa_cons pe_str (pa_cons (pe_meth0 (fldK (K := K) (pv 1) rfl) T.cl Mrows Grows hrrows brows .nil pass0) (pa_cons (pe_meth0 (pv 1) TG.cl MrowsG GrowsG hrrows browsG .nil pass0) pa_nil))))))), ?_⟩
    refine ⟨_, rfl, ls, rfl, hL, fun i l hl hbad good => ?_, fun good => ⟨fun i hi => ?_, fun RR hn g eR => ⟨fun i hi => ?_, fun BB rt eB p q H' AR BR s1 G e1 e2 => ?_⟩⟩⟩
    · intro H' dd s1 ndd
      have s2 := s1.trans (same_upd ndd (o := .xd [(("line" : Str), .int (i : Int))]))
      have hdd : (upd H' dd (.xd [(("line" : Str), .int (i : Int))])) dd = some (.xd [(("line" : Str), .int (i : Int))]) := upd_same
      generalize upd H' dd (.xd [(("line" : Str), .int (i : Int))]) = H2 at s2 hdd
      refine ⟨true, R.tt, fun _ a na => ?_, fun z => by cases z⟩
      refine ⟨_, rfl, by show 2 ≤ sizeLine; omega, fun tp ntp => ?_⟩
      have s3 := same_upd ntp (o := .tup [V.ref Cn, V.ref Cm])
      have htp : (upd H2 tp (.tup [V.ref Cn, V.ref Cm])) tp = some (.tup [V.ref Cn, V.ref Cm]) := upd_same
      have hdd3 := s3 _ _ hdd
      have s4 := s2.trans s3
      generalize upd H2 tp (.tup [V.ref Cn, V.ref Cm]) = H3 at htp hdd3 s4
      refine ⟨tp, _, _, false, Ct, dd, _, rfl, rfl, rfl, R.ect, hdd3, htp, .cons (.own Cn) (.cons (.own Cm) .nil), R.kt, _, rfl, ?_⟩
      refine iteT ?_
      refine ⟨_, rfl, rfl, rfl, dd, _, .int (i : Int), rfl, hdd3, rfl, by show 2 ≤ sizeLine; omega, fun t nt => kk (.ref t) _ (s4.trans (same_upd nt)) ?_⟩
      rw [due_text hl hbad good]
      exact .tup upd_same (.cons (.str _) (.cons (.int _) .nil))
    · intro H' dd s1 ndd
      have s2 := s1.trans (same_upd ndd (o := .xd [(("place" : Str), .int i)]))
      have hdd : (upd H' dd (.xd [(("place" : Str), .int i)])) dd = some (.xd [(("place" : Str), .int i)]) := upd_same
      generalize upd H' dd (.xd [(("place" : Str), .int i)]) = H2 at s2 hdd
      refine ⟨false, R.nt, fun z => (by cases z), fun _ => ⟨true, R.nn, fun _ a na => ?_, fun z => by cases z⟩⟩
      refine ⟨_, rfl, rfl, rfl, dd, _, .int i, rfl, hdd, rfl, by show 2 ≤ sizeLine; omega, fun t nt => kk (.ref t) _ (s2.trans (same_upd nt)) ?_⟩
      rw [due_river good hi]
      exact .tup upd_same (.cons (.str _) (.cons (.int _) .nil))
    · intro H' dd s1 ndd
      have s2 := s1.trans (same_upd ndd (o := .xd [(("place" : Str), .int i)]))
      have hdd : (upd H' dd (.xd [(("place" : Str), .int i)])) dd = some (.xd [(("place" : Str), .int i)]) := upd_same
      generalize upd H' dd (.xd [(("place" : Str), .int i)]) = H2 at s2 hdd
      refine ⟨false, R.mt, fun z => (by cases z), fun _ => ⟨false, R.mn, fun z => (by cases z), fun _ => ⟨true, R.mm, fun _ a na => ?_, fun z => by cases z⟩⟩⟩
      refine ⟨_, rfl, rfl, rfl, dd, _, .int i, rfl, hdd, rfl, by show 2 ≤ sizeLine; omega, fun t nt => kk (.ref t) _ (s2.trans (same_upd nt)) ?_⟩
      rw [due_rights good hn g eR hi]
      exact .tup upd_same (.cons (.str _) (.cons (.int _) .nil))
    · obtain ⟨dx, tn, tr, dw, dl, dp, h1, h2, h3, h4, h5, h6, h7, h8⟩ := id G.at_.ex
      obtain ⟨dxq, tw, tqr, db, dc, da, du, o, q1, q2, q3, q4, q5, q6, q7, q8, q9⟩ := id h2.ex
      refine ⟨_, rfl, p, Cg, dx, _, _, rfl, h1, TG.cl, TG.river, rr6r _ _ _ _ _ _, q, dxq, _, rfl, q1, rfl, q, AR, rfl, h2, fun l1 nl1 => ?_⟩
      have sa := same_upd nl1 (o := .lst (AR.map fun q => .ref q.1))
      have hl1 : (upd H' l1 (.lst (AR.map fun q => V.ref q.1))) l1 = some (.lst (AR.map fun q => V.ref q.1)) := upd_same
      generalize upd H' l1 (.lst (AR.map fun q => V.ref q.1)) = H2 at sa hl1
      refine ⟨_, rfl, p, dx, _, rfl, sa _ _ h1, rr6no _ _ _ _ _ _ (by decide +kernel), p, q, AR, BR, rfl, G.same sa, fun l2 nl2 => ?_⟩
      have sb := same_upd nl2 (o := .lst (BR.map fun q => .ref q.1))
      have hl2 : (upd H2 l2 (.lst (BR.map fun q => V.ref q.1))) l2 = some (.lst (BR.map fun q => V.ref q.1)) := upd_same
      have hl1b := sb _ _ hl1
      have sab := sa.trans sb
      generalize upd H2 l2 (.lst (BR.map fun q => V.ref q.1)) = H3 at sb hl2 hl1b sab
      refine ⟨by show 3 ≤ sizeLine; omega, fun t nt => kk (.ref t) _ ((s1.trans sab).trans (same_upd nt)) ?_⟩
      have st := same_upd nt (o := .tup [V.str "rows", V.ref l1, V.ref l2])
      rw [due_rows good hn g eR rt eB, ← e1, ← e2]
      refine .tup upd_same (.cons (.str _) (.cons (.lst (st _ _ hl1b) ?_) (.cons (.lst (st _ _ hl2) ?_) .nil)))
      · exact rows_dq fun z hz => st _ _ (sab _ _ (q4 z hz))
      · exact trips_dq fun z hz => st _ _ (sab _ _ (h5 z hz))
end
end K0
end
section
set_option Elab.async false
set_option linter.all false
set_option maxRecDepth 100000
set_option maxHeartbeats 2000000
namespace K0
open PySem PySem.Spec PyProof.Rows L2 TL
/-! ### lines of at most m signs, and their words -/
structure LnM (m : Nat) (l : Str) : Prop where
  pl : Plain l
  nl : (10 : Nat) ∉ tl l
  most : (tl l).length ≤ m
theorem LnM.ln1 {m : Nat} {l : Str} (h : LnM m l) (hm : m ≤ 300) : Ln1 l := ⟨h.pl, h.nl, Nat.le_trans h.most hm⟩
theorem LnM.mono {m n : Nat} {l : Str} (h : LnM m l) (hm : m ≤ n) : LnM n l := ⟨h.pl, h.nl, Nat.le_trans h.most hm⟩
theorem LnM.cat {m n : Nat} {a b : Str} (ha : LnM m a) (hb : LnM n b) : LnM (m + n) (a ++ b) := ⟨plain_cat ha.pl hb.pl, nl_cat ha.nl hb.nl, by rw [tl_append, List.length_append]; have := ha.most; have := hb.most; omega⟩
/-- what words cost in a line -/
def cost (ws : List Str) : Nat := (ws.map fun w => (tl w).length + 1).sum
theorem cost_app (a b : List Str) : cost (a ++ b) = cost a + cost b := by
  unfold cost
  rw [List.map_append, List.sum_append]
theorem cost_one (w : Str) : cost [w] = (tl w).length + 1 := by
  unfold cost
  simp
theorem joinL_cost (s : Nat) : ∀ {ps : List (List Nat)}, ps ≠ [] → (joinL [s] ps).length + 1 = (ps.map fun p => p.length + 1).sum
  | [], h => absurd rfl h
  | [p], _ => by simp [joinL]
  | p :: q :: r, _ => by
    have ih := joinL_cost s (ps := q :: r) (by simp)
    show (p ++ ([s] ++ joinL [s] (q :: r))).length + 1 = _
    rw [List.length_append, List.length_append, List.length_singleton, List.map_cons, List.sum_cons, ← ih]
    omega
theorem join_cost {ws : List Str} (h : ws ≠ []) : (tl (Txt.join " " ws)).length + 1 = cost ws := by
  rw [join_eq, tl_join, tl_sp, joinL_cost 32 (fun e => h (List.map_eq_nil_iff.mp e)), List.map_map]
  rfl
theorem joinL_spl (s : Nat) : ∀ (L acc : List Nat), joinL [s] (spl [s] 0 acc L) = acc ++ L
  | [], acc => by rw [spl_nil, List.append_nil]; rfl
  | c :: r, acc => by
    cases h : pre [s] (c :: r) with
    | true =>
      have hc : c = s := by
        have : ([c] : List Nat) = [s] := eq_of_beq h
        exact (List.cons.inj this).1
      rw [spl_hit h]
      have ih := joinL_spl s r []
      rw [List.nil_append] at ih
      have hne := spl_ne [s] r []
      show joinL [s] (acc :: spl [s] 0 [] r) = _
      cases e : spl [s] 0 [] r with
      | nil => exact absurd e hne
      | cons p q =>
        rw [e] at ih
        show acc ++ ([s] ++ joinL [s] (p :: q)) = _
        rw [ih, hc]
        rfl
    | false =>
      rw [spl_miss h, joinL_spl s r (acc ++ [c]), List.append_assoc]
      rfl
theorem words_back (l : Str) : Txt.join " " (wOf l) = l := by
  refine ext_tl ?_
  rw [join_eq, tl_join, tl_sp, wOf_tl, joinL_spl, List.nil_append]
theorem cost_words (l : Str) : cost (wOf l) = (tl l).length + 1 := by
  rw [← join_cost (List.length_pos_iff.mp (wOf_pos l)), words_back]
theorem joinL_mem (s : Nat) : ∀ {ps : List (List Nat)} {c : Nat}, c ∈ joinL [s] ps → c = s ∨ ∃ p ∈ ps, c ∈ p
  | [], _, h => by cases h
  | [p], _, h => .inr ⟨p, List.mem_cons_self, h⟩
  | p :: q :: r, c, h => by
    have h : c ∈ p ++ ([s] ++ joinL [s] (q :: r)) := h
    rcases List.mem_append.mp h with h | h
    · exact .inr ⟨p, List.mem_cons_self, h⟩
    rcases List.mem_append.mp h with h | h
    · exact .inl (List.mem_singleton.mp h)
    · rcases joinL_mem s h with h | ⟨z, hz, h⟩
      · exact .inl h
      · exact .inr ⟨z, List.mem_cons_of_mem _ hz, h⟩
/-- words joined are a line -/
theorem join_ln {ws : List Str} {m : Nat} (h : ∀ w ∈ ws, Plain w ∧ (10 : Nat) ∉ tl w) (hc : cost ws ≤ m + 1) : LnM m (Txt.join " " ws) := by
  have key : ∀ c ∈ tl (Txt.join " " ws), c = 32 ∨ ∃ w ∈ ws, c ∈ tl w := fun c hc => by
    rw [join_eq, tl_join, tl_sp] at hc
    rcases joinL_mem 32 hc with h | ⟨p, hp, h⟩
    · exact .inl h
    · obtain ⟨w, hw, rfl⟩ := List.mem_map.mp hp
      exact .inr ⟨w, hw, h⟩
  refine ⟨fun c hc => ?_, fun hc => ?_, ?_⟩
  · rcases key c hc with e | ⟨w, hw, e⟩
    · omega
    · exact (h w hw).1 c e
  · rcases key 10 hc with e | ⟨w, hw, e⟩
    · omega
    · exact (h w hw).2 e
  · cases ws with
    | nil =>
      have : tl (Txt.join " " ([] : List Str)) = [] := by rw [join_eq, tl_join]; rfl
      rw [this]
      exact Nat.zero_le _
    | cons w r =>
      have := join_cost (ws := w :: r) (by simp)
      omega
theorem word_ok {m : Nat} {l w : Str} (h : LnM m l) (hw : w ∈ wOf l) : Plain w ∧ (10 : Nat) ∉ tl w := by
  obtain ⟨a, _⟩ := wOf_in hw
  exact ⟨fun c hc => h.pl c (a c hc), fun z => h.nl (a _ z)⟩
theorem cost_split (ws : List Str) (n : Nat) : cost (ws.take n) + cost (ws.drop n) = cost ws := by
  rw [← cost_app, List.take_append_drop]
end K0
end
section
set_option Elab.async false
set_option linter.all false
set_option maxRecDepth 100000
set_option maxHeartbeats 4000000
namespace K0
open PySem PySem.Spec PyProof.Rows L2 TL
/-! ### a line bent -/
abbrev scLBent_N : List Str := ["_law_bag_here", "_law_line", "_law_weirs", "_law_words", "_law_way_here", "_law_at", "_law_odd", "_law_word"]
abbrev scLBent_S : Stmt := sLBent
theorem scLBent : FnScope scLBent_N ["_law_bag_here", "_law_line", "_law_weirs"] (defScope sLBent) := ⟨rfl, rfl, rfl, by decide +kernel, rfl, by decide +kernel, by decide +kernel⟩
theorem cost_sum (ws : List Str) : (ws.map (·.length)).sum + ws.length * (" " : Str).length = cost ws := by
  have e1 : (" " : Str).length = 1 := by decide +kernel
  rw [e1]
  unfold cost
  induction ws with
  | nil => rfl
  | cons w r ih =>
    rw [List.map_cons, List.sum_cons, List.length_cons, List.map_cons, List.sum_cons, ← ih, len_tl w]
    omega
theorem join_size {ws : List Str} {m : Nat} (h : cost ws ≤ m) (hm : m ≤ 1000) : (ws.map (·.length)).sum + ws.length * (" " : Str).length ≤ 16777216 := by
  rw [cost_sum]
  omega
def spLBent : Sp := fun vs H Q _ => ∃ (b wl : Addr) (l : Str) (ns : List Str) (m : Nat), vs = [.ref b, .str l, .ref wl] ∧ BagAt H b ∧ wl ≠ b ∧ H wl = some (.lst (ns.map V.str)) ∧ ns ≠ [] ∧ ns.length ≤ 40 ∧ (∀ n ∈ ns, NameOk n) ∧ LnM m l ∧ m ≤ 280 ∧
  ∀ H' l', Upto b H H' → BagAt H' b → LnM (m + 9) l' → Q (.str l') H'
section
variable {P : Program} {w : World} {K : PySem.W.Frag} {mg : Str → Option Value} {base : Heap} {tS tM tL : Tok}
theorem ok_lbent {f fT fO : Addr} {fd fdT fdO : FuncData} (F : FnP K "_law_bent" sLBent f fd) (F_law_take : FnP K "_law_take" sTake fT fdT) (g_law_take : mg "_law_take" = some (.ref fT)) (F_law_of : FnP K "_law_of" sOf fO fdO) (g_law_of : mg "_law_of" = some (.ref fO)) (B : Bl mg) : FnOk P w K mg base CX0 3 f fd ["_law_bag_here", "_law_line", "_law_weirs"] spLBent := by
  have G_law_take : FnOk P w K mg base CX0 1 fT fdT ["_law_bag_here", "_law_many"] spTake := ok_take F_law_take B
  have b_law_take : Binds K fdT ["_law_bag_here", "_law_many"] [] := F_law_take.bindsN fun _ _ _ _ _ _ us hl => match us, hl with | [_, _], _ => rfl
  have G_law_of : FnOk P w K mg base CX0 2 fO fdO ["_law_bag_here", "_law_some"] (spOf K) := ok_of F_law_of F_law_take B g_law_take
  have b_law_of : Binds K fdO ["_law_bag_here", "_law_some"] [] := F_law_of.bindsN fun _ _ _ _ _ _ us hl => match us, hl with | [_, _], _ => rfl
  refine F.ok scLBent (fun vs H Q E h => ?_) (fun cdv A outer s H vs Q E hr h => ?_)
  · obtain ⟨b, wl, l, ns, m, rfl, _⟩ := h
    rfl
  · obtain ⟨b, wl, l, ns, m, rfl, hB, nwb, hwl, hns, hn40, hnok, hl, hm, kk⟩ := h
    have hr_law_take : Room 1 _ := hr.mono (by decide)
    have hr_law_of : Room 2 _ := hr
    refine ⟨_, PSs.nox (pss_cons
      (ps_par (i := 3) (j := 4) (by rfl) scLBent.nd rfl rfl (by decide) rfl rfl (pa_cons (pe_split (pv 1) pe_str) (pa_cons (pe_call G_law_take hr_law_take (by rfl) g_law_take F_law_take.kp b_law_take .nil pass0 (pa_cons (pv 0) (pa_cons pe_int pa_nil))) pa_nil)) (by rfl))
      (pss_cons
      (ps_if (pt_cmpR op_lt (pv 4) pe_int (nomark _)) (pss_one
      (ps_ret (pe_ix (ixLK (K := K)) (pe_lst (pa_cons (pe_op op_add_str pe_str (pv 1)) (pa_cons (pe_op op_add_str (pv 1) pe_str) (pa_cons pe_str (pa_cons (pe_op op_add_str (pv 1) pe_str) pa_nil))))) (pv 4) (fun _ _ => rfl)))) pss_nil)
      (pss_cons
      (ps_if (pt_cmpR op_lt (pv 4) pe_int (nomark _)) (pss_cons
      (ps_set (i := 5) scLBent.nd rfl (Or.inl rfl) (pe_call G_law_take hr_law_take (by rfl) g_law_take F_law_take.kp b_law_take .nil pass0 (pa_cons (pv 0) (pa_cons (pe_op op_add (pe_callB (lenK (K := K)) (by rfl) B.len PySem.boot_len (pa_cons (pv 3) pa_nil)) pe_int) pa_nil))))
      (pss_one
      (ps_ret (pe_joinK (K := K) rfl pe_str (pe_op op_cat (pe_op op_cat (pe_slice sl_list (pv 3) po_none (po_some (pv 5))) (pe_lst (pa_cons (pe_ix (ixLK (K := K)) (pe_lst (pa_cons pe_str (pa_cons pe_str (pa_cons pe_str pa_nil)))) (pe_op op_sub (pv 4) pe_int) (fun _ _ => rfl)) pa_nil))) (pe_slice sl_list (pv 3) (po_some (pv 5)) po_none)))))) pss_nil)
      (pss_cons
      (ps_set (i := 5) scLBent.nd rfl (Or.inl rfl) (pe_call G_law_take hr_law_take (by rfl) g_law_take F_law_take.kp b_law_take .nil pass0 (pa_cons (pv 0) (pa_cons (pe_callB (lenK (K := K)) (by rfl) B.len PySem.boot_len (pa_cons (pv 3) pa_nil)) pa_nil))))
      (pss_cons
      (ps_if (pt_cmpR op_eq (pv 4) pe_int (nomark _)) (pss_one
      (ps_ret (pe_joinK (K := K) rfl pe_str (pe_op op_cat (pe_slice sl_list (pv 3) po_none (po_some (pv 5))) (pe_slice sl_list (pv 3) (po_some (pe_op op_add (pv 5) pe_int)) po_none))))) pss_nil)
      (pss_cons
      (ps_set (i := 6) scLBent.nd rfl (Or.inl rfl) (pe_lst (pa_cons pe_str (pa_cons pe_str (pa_cons pe_str (pa_cons (pe_op op_add_str (pe_ix (ixLK (K := K)) (pv 3) (pv 5) (fun _ _ => rfl)) pe_str) (pa_cons (pe_op op_add_str (pe_slice sl_str (pe_ix (ixLK (K := K)) (pv 3) (pv 5) (fun _ _ => rfl)) po_none (po_some pe_int)) pe_str) (pa_cons (pe_op op_add_str (pe_ix (ixLK (K := K)) (pv 3) (pv 5) (fun _ _ => rfl)) pe_str) (pa_cons (pe_op op_add_str (pe_slice sl_str (pe_ix (ixLK (K := K)) (pv 3) (pv 5) (fun _ _ => rfl)) po_none (po_some pe_int)) pe_str) pa_nil)))))))))
      (pss_cons
      (ps_set (i := 7) scLBent.nd rfl (Or.inl rfl) (pe_ifExp (pt_cmpR op_lt (pv 4) pe_int (nomark _)) (pe_call G_law_of hr_law_of (by rfl) g_law_of F_law_of.kp b_law_of .nil pass0 (pa_cons (pv 0) (pa_cons (pv 6) pa_nil))) (pe_call G_law_of hr_law_of (by rfl) g_law_of F_law_of.kp b_law_of .nil pass0 (pa_cons (pv 0) (pa_cons (pv 2) pa_nil)))))
      (pss_one
      (ps_ret (pe_joinK (K := K) rfl pe_str (pe_op op_cat (pe_op op_cat (pe_slice sl_list (pv 3) po_none (po_some (pv 5))) (pe_lst (pa_cons (pv 7) pa_nil))) (pe_slice sl_list (pv 3) (po_some (pe_op op_add (pv 5) pe_int)) po_none)))))))))))), ?_⟩
    have z40 : 40000 ≤ sizeLine := by rw [sizeLine_eq]; omega
    have hl1 := hl.ln1 (by omega)
    have hlm := hl.most
    obtain ⟨wp, w9, wall⟩ := hl1.words
    have wcnt := wOf_cnt l
    refine ⟨_, rfl, ⟨_, rfl⟩, _, _, rfl, rfl, by decide +kernel, by rw [len_tl]; omega, fun q nq => ?_⟩
    have sq := same_upd nq (o := .lst ((wOf l).map V.str))
    have hq : (upd H q (.lst ((wOf l).map V.str))) q = some (.lst ((wOf l).map V.str)) := upd_same
    have nqb : q ≠ b := fun e => by
      obtain ⟨x, hx, _⟩ := hB
      rw [e, hx] at nq
      cases nq
    have B1 := bagS' hB sq
    have hwl1 := sq _ _ hwl
    have s1 := sq
    have hq1 := hq
    rw [show Txt.split l " " = wOf l from rfl]
    generalize upd H q (.lst ((wOf l).map V.str)) = H1 at s1 hq1 B1 hwl1
    have lsp : LnM 1 (" " : Str) := ⟨plain_lit (by decide +kernel), by decide +kernel, by decide +kernel⟩
    have ltl : LnM 1 ("~" : Str) := ⟨plain_lit (by decide +kernel), by decide +kernel, by decide +kernel⟩
    have lnil : LnM 0 ("" : Str) := ⟨plain_lit (by decide +kernel), by decide +kernel, by decide +kernel⟩
    have e1 : (" " : Str).length = 1 := by decide +kernel
    have et : ("~" : Str).length = 1 := by decide +kernel
    have ll : l.length ≤ 280 := by rw [len_tl]; omega
    refine ⟨_, rfl, b, 12, rfl, B1, by omega, by omega, fun r bx r0 r12 bv => ?_⟩
    refine ⟨_, _, rfl, ?_⟩
    have u2 : Upto b H (upd H1 b (.lst bx)) := fun c o hc hn => by
      rw [upd_ne hn]
      exact s1 c o hc
    have B2 : BagAt (upd H1 b (.lst bx)) b := ⟨bx, upd_same, bv⟩
    have hq2 : (upd H1 b (.lst bx)) q = _ := (upd_ne nqb).trans hq1
    have hwl2 : (upd H1 b (.lst bx)) wl = _ := (upd_ne nwb).trans hwl1
    generalize upd H1 b (.lst bx) = H2 at u2 B2 hq2 hwl2
    refine ⟨_, rfl, _, _, rfl, rfl, _, rfl, ?_⟩
    by_cases h4 : r < 4
    · refine iteD h4 ?_
      rcases (by omega : r = 0 ∨ r = 1 ∨ r = 2 ∨ r = 3) with rfl | rfl | rfl | rfl
      · exact ⟨_, rfl, _, _, rfl, rfl, by omega, _, rfl, _, _, rfl, rfl, by omega, _, rfl, _, _, rfl, rfl, by omega, by show 4 ≤ sizeLine; omega, fun p np => ⟨_, rfl, p, _, 0, _, rfl, rfl, .inl (.inl upd_same), atI_nat (j := 0) rfl, kk _ _ (u2.trans (.of (same_upd np))) (bagS' B2 (same_upd np)) ((lsp.cat hl).mono (by omega))⟩⟩
      · exact ⟨_, rfl, _, _, rfl, rfl, by omega, _, rfl, _, _, rfl, rfl, by omega, _, rfl, _, _, rfl, rfl, by omega, by show 4 ≤ sizeLine; omega, fun p np => ⟨_, rfl, p, _, 1, _, rfl, rfl, .inl (.inl upd_same), atI_nat (j := 1) rfl, kk _ _ (u2.trans (.of (same_upd np))) (bagS' B2 (same_upd np)) ((hl.cat lsp).mono (by omega))⟩⟩
      · exact ⟨_, rfl, _, _, rfl, rfl, by omega, _, rfl, _, _, rfl, rfl, by omega, _, rfl, _, _, rfl, rfl, by omega, by show 4 ≤ sizeLine; omega, fun p np => ⟨_, rfl, p, _, 2, _, rfl, rfl, .inl (.inl upd_same), atI_nat (j := 2) rfl, kk _ _ (u2.trans (.of (same_upd np))) (bagS' B2 (same_upd np)) (lnil.mono (by omega))⟩⟩
      · exact ⟨_, rfl, _, _, rfl, rfl, by omega, _, rfl, _, _, rfl, rfl, by omega, _, rfl, _, _, rfl, rfl, by omega, by show 4 ≤ sizeLine; omega, fun p np => ⟨_, rfl, p, _, 3, _, rfl, rfl, .inl (.inl upd_same), atI_nat (j := 3) rfl, kk _ _ (u2.trans (.of (same_upd np))) (bagS' B2 (same_upd np)) ((hl.cat ltl).mono (by omega))⟩⟩
    refine iteDn h4 ?_
    refine ⟨_, rfl, _, _, rfl, rfl, _, rfl, ?_⟩
    have wl2 : ((wOf l).map V.str).length = (wOf l).length := List.length_map _
    by_cases h7 : r < 7
    · refine iteD h7 ?_
      refine ⟨_, rfl, _, rfl, q, _, rfl, .inl (.inl (.inl hq2)), _, _, rfl, rfl, b, ((wOf l).map V.str).length + 1, rfl, B2, by omega, by omega, fun a bx2 a0 a1 bv2 => ?_⟩
      obtain ⟨n, rfl⟩ : ∃ n : Nat, a = (n : Int) := ⟨a.toNat, by omega⟩
      have nb2 : b ≠ q := Ne.symm nqb
      have u3 : Upto b H (upd H2 b (.lst bx2)) := fun c o hc hn => by
        rw [upd_ne hn]
        exact u2 c o hc hn
      have B3 : BagAt (upd H2 b (.lst bx2)) b := ⟨bx2, upd_same, bv2⟩
      have hq3 : (upd H2 b (.lst bx2)) q = _ := (upd_ne nqb).trans hq2
      generalize upd H2 b (.lst bx2) = H3 at u3 B3 hq3
      refine ⟨⟨_, rfl⟩, _, rfl, ?_⟩
      unfold tNoPart
      refine ⟨_, rfl, (n : Int), rfl, q, _, rfl, .inl (.inl hq3), fun p1 np1 => ?_⟩
      rw [cutV_take]
      have s4 := same_upd np1 (o := .lst (((wOf l).map V.str).take n))
      have hp1 : (upd H3 p1 (.lst (((wOf l).map V.str).take n))) p1 = some (.lst (((wOf l).map V.str).take n)) := upd_same
      have hq4 := s4 _ _ hq3
      have u4 := u3.trans (.of s4)
      have B4 := bagS' B3 s4
      generalize upd H3 p1 (.lst (((wOf l).map V.str).take n)) = H4 at hp1 hq4 u4 B4
      refine ⟨by show 3 ≤ sizeLine; omega, fun p3 np3 => ?_⟩
      have s5 := same_upd np3 (o := .lst [V.str "", V.str "sea", V.str "weir"])
      have hp3 : (upd H4 p3 (.lst [V.str "", V.str "sea", V.str "weir"])) p3 = some (.lst [V.str "", V.str "sea", V.str "weir"]) := upd_same
      have hp15 := s5 _ _ hp1
      have hq5 := s5 _ _ hq4
      have u5 := u4.trans (.of s5)
      have B5 := bagS' B4 s5
      generalize upd H4 p3 (.lst [V.str "", V.str "sea", V.str "weir"]) = H5 at hp3 hp15 hq5 u5 B5
      refine ⟨_, rfl, _, _, rfl, rfl, ?_⟩
      obtain ⟨x, hx1, hx2, hx3, hxi⟩ : ∃ x : Str, Plain x ∧ (10 : Nat) ∉ tl x ∧ (tl x).length ≤ 4 ∧ atI [V.str "", V.str "sea", V.str "weir"] (r - 4) = some (.str x) := by
        rcases (by omega : r = 4 ∨ r = 5 ∨ r = 6) with rfl | rfl | rfl
        · exact ⟨"", plain_lit (by decide +kernel), by decide +kernel, by decide +kernel, atI_nat (j := 0) rfl⟩
        · exact ⟨"sea", plain_lit (by decide +kernel), by decide +kernel, by decide +kernel, atI_nat (j := 1) rfl⟩
        · exact ⟨"weir", plain_lit (by decide +kernel), by decide +kernel, by decide +kernel, atI_nat (j := 2) rfl⟩
      refine ⟨p3, _, _, _, rfl, rfl, .inl (.inl hp3), hxi, by show 1 ≤ sizeLine; omega, fun p4 np4 => ?_⟩
      have s6 := same_upd np4 (o := .lst [V.str x])
      have hp4 : (upd H5 p4 (.lst [V.str x])) p4 = some (.lst [V.str x]) := upd_same
      have hp16 := s6 _ _ hp15
      have hq6 := s6 _ _ hq5
      have u6 := u5.trans (.of s6)
      have B6 := bagS' B5 s6
      generalize upd H5 p4 (.lst [V.str x]) = H6 at hp4 hp16 hq6 u6 B6
      have lt1 : (((wOf l).map V.str).take n).length ≤ 900 := by rw [List.length_take]; omega
      have lt2 : (((wOf l).map V.str).drop n).length ≤ 900 := by rw [List.length_drop]; omega
      refine ⟨p1, p4, _, _, rfl, rfl, hp16, hp4, by rw [List.length_singleton]; omega, fun p5 np5 => ?_⟩
      have s7 := same_upd np5 (o := .lst (((wOf l).map V.str).take n ++ [V.str x]))
      have hp5 : (upd H6 p5 (.lst (((wOf l).map V.str).take n ++ [V.str x]))) p5 = some (.lst (((wOf l).map V.str).take n ++ [V.str x])) := upd_same
      have hq7 := s7 _ _ hq6
      have u7 := u6.trans (.of s7)
      have B7 := bagS' B6 s7
      generalize upd H6 p5 (.lst (((wOf l).map V.str).take n ++ [V.str x])) = H7 at hp5 hq7 u7 B7
      refine ⟨_, rfl, _, rfl, (n : Int), rfl, q, _, rfl, .inl (.inl hq7), fun p6 np6 => ?_⟩
      rw [cut_drop]
      have s8 := same_upd np6 (o := .lst (((wOf l).map V.str).drop n))
      have hp6 : (upd H7 p6 (.lst (((wOf l).map V.str).drop n))) p6 = some (.lst (((wOf l).map V.str).drop n)) := upd_same
      have hp58 := s8 _ _ hp5
      have u8 := u7.trans (.of s8)
      have B8 := bagS' B7 s8
      generalize upd H7 p6 (.lst (((wOf l).map V.str).drop n)) = H8 at hp6 hp58 u8 B8
      refine ⟨p5, p6, _, _, rfl, rfl, hp58, hp6, by rw [List.length_append, List.length_singleton]; omega, fun p7 np7 => ?_⟩
      have ews : ((wOf l).map V.str).take n ++ [V.str x] ++ ((wOf l).map V.str).drop n = ((wOf l).take n ++ [x] ++ (wOf l).drop n).map V.str := by
        rw [List.map_append, List.map_append, List.map_take, List.map_drop]
        rfl
      rw [ews]
      have hc : cost ((wOf l).take n ++ [x] ++ (wOf l).drop n) ≤ m + 9 + 1 := by
        have a := cost_split (wOf l) n
        have bb := cost_words l
        rw [cost_app, cost_app, cost_one]
        omega
      have hw : ∀ z ∈ (wOf l).take n ++ [x] ++ (wOf l).drop n, Plain z ∧ (10 : Nat) ∉ tl z := fun z hz => by
        rcases List.mem_append.mp hz with hz | hz
        · rcases List.mem_append.mp hz with hz | hz
          · exact word_ok hl (List.mem_of_mem_take hz)
          · rw [List.mem_singleton.mp hz]
            exact ⟨hx1, hx2⟩
        · exact word_ok hl (List.mem_of_mem_drop hz)
      exact ⟨_, p7, _, rfl, rfl, .inl (.inl (.inl upd_same)), join_size hc (by omega), kk _ _ (u8.trans (.of (same_upd np7))) (bagS' B8 (same_upd np7)) (join_ln hw hc)⟩
    refine iteDn h7 ?_
    refine ⟨_, rfl, _, rfl, q, _, rfl, .inl (.inl (.inl hq2)), b, ((wOf l).map V.str).length, rfl, B2, by omega, by omega, fun a bx2 a0 a1 bv2 => ?_⟩
    obtain ⟨n, rfl⟩ : ∃ n : Nat, a = (n : Int) := ⟨a.toNat, by omega⟩
    have hn : n < (wOf l).length := by omega
    have u3 : Upto b H (upd H2 b (.lst bx2)) := fun c o hc hn => by
      rw [upd_ne hn]
      exact u2 c o hc hn
    have B3 : BagAt (upd H2 b (.lst bx2)) b := ⟨bx2, upd_same, bv2⟩
    have hq3 : (upd H2 b (.lst bx2)) q = _ := (upd_ne nqb).trans hq2
    have hwl3 : (upd H2 b (.lst bx2)) wl = _ := (upd_ne nwb).trans hwl2
    have en : ((n : Int) + 1) = ((n + 1 : Nat) : Int) := by omega
    have cdrop : cost ((wOf l).drop (n + 1)) + (tl (wOf l)[n]).length + 1 = cost ((wOf l).drop n) := by
      rw [List.drop_eq_getElem_cons hn]
      unfold cost
      rw [List.map_cons, List.sum_cons]
      omega
    have csp := cost_split (wOf l) n
    have cw := cost_words l
    have lt1 : (((wOf l).map V.str).take n).length ≤ 900 := by rw [List.length_take]; omega
    have lt2 : (((wOf l).map V.str).drop (n + 1)).length ≤ 900 := by rw [List.length_drop]; omega
    refine ⟨_, rfl, rfl, _, rfl, ?_⟩
    by_cases h77 : r = 7
    · refine iteD (congrArg V.int h77) ?_
      generalize upd H2 b (.lst bx2) = H3 at u3 B3 hq3 hwl3
      refine ⟨⟨_, rfl⟩, _, rfl, ?_⟩
      unfold tNoPart
      refine ⟨_, rfl, (n : Int), rfl, q, _, rfl, .inl (.inl hq3), fun p1 np1 => ?_⟩
      rw [cutV_take]
      have s4 := same_upd np1 (o := .lst (((wOf l).map V.str).take n))
      have hp1 : (upd H3 p1 (.lst (((wOf l).map V.str).take n))) p1 = some (.lst (((wOf l).map V.str).take n)) := upd_same
      have hq4 := s4 _ _ hq3
      have u4 := u3.trans (.of s4)
      have B4 := bagS' B3 s4
      generalize upd H3 p1 (.lst (((wOf l).map V.str).take n)) = H4 at hp1 hq4 u4 B4
      refine ⟨_, rfl, _, rfl, _, _, rfl, rfl, (n : Int) + 1, rfl, q, _, rfl, .inl (.inl hq4), fun p6 np6 => ?_⟩
      rw [en, cut_drop]
      have s8 := same_upd np6 (o := .lst (((wOf l).map V.str).drop (n + 1)))
      have hp6 : (upd H4 p6 (.lst (((wOf l).map V.str).drop (n + 1)))) p6 = some (.lst (((wOf l).map V.str).drop (n + 1))) := upd_same
      have hp58 := s8 _ _ hp1
      have u8 := u4.trans (.of s8)
      have B8 := bagS' B4 s8
      generalize upd H4 p6 (.lst (((wOf l).map V.str).drop (n + 1))) = H8 at hp6 hp58 u8 B8
      refine ⟨p1, p6, _, _, rfl, rfl, hp58, hp6, by omega, fun p7 np7 => ?_⟩
      have ews : ((wOf l).map V.str).take n ++ ((wOf l).map V.str).drop (n + 1) = ((wOf l).take n ++ (wOf l).drop (n + 1)).map V.str := by
        rw [List.map_append, List.map_take, List.map_drop]
      rw [ews]
      have hc : cost ((wOf l).take n ++ (wOf l).drop (n + 1)) ≤ m + 9 + 1 := by
        rw [cost_app]
        omega
      have hw : ∀ z ∈ (wOf l).take n ++ (wOf l).drop (n + 1), Plain z ∧ (10 : Nat) ∉ tl z := fun z hz => by
        rcases List.mem_append.mp hz with hz | hz
        · exact word_ok hl (List.mem_of_mem_take hz)
        · exact word_ok hl (List.mem_of_mem_drop hz)
      exact ⟨_, p7, _, rfl, rfl, .inl (.inl (.inl upd_same)), join_size hc (by omega), kk _ _ (u8.trans (.of (same_upd np7))) (bagS' B8 (same_upd np7)) (join_ln hw hc)⟩
    refine iteDn (fun z => h77 (V.int.inj z)) ?_
    obtain ⟨wd, hwd⟩ : ∃ wd, wd = (wOf l)[n] := ⟨_, rfl⟩
    have hwm : wd ∈ wOf l := by rw [hwd]; exact List.getElem_mem hn
    have hwi : ((wOf l).map V.str)[n]? = some (.str wd) := by rw [List.getElem?_map, List.getElem?_eq_getElem hn, hwd]; rfl
    rw [← hwd] at cdrop
    obtain ⟨wk1, wk2⟩ := word_ok hl hwm
    have wk3 := (wOf_in hwm).2
    have wk4 : wd.length ≤ 280 := by rw [len_tl]; omega
    have c2 := cutS_take wd 2
    have c6 := cutS_take wd 6
    have eA : ("A" : Str).length = 1 := by decide +kernel
    have e1q : ("1" : Str).length = 1 := by decide +kernel
    have eab : ("abcdefgh" : Str).length = 8 := by decide +kernel
    have eqx : ("qx" : Str).length = 2 := by decide +kernel
    have k2 := cutS_length wd none (some (2 : Int))
    have k6 := cutS_length wd none (some (6 : Int))
    generalize upd H2 b (.lst bx2) = H3 at u3 B3 hq3 hwl3
    unfold tNoPart
    refine ⟨_, rfl, _, rfl, q, _, (n : Int), _, rfl, rfl, .inl (.inl hq3), atI_nat (j := n) hwi, _, _, rfl, rfl, by omega, _, rfl, _, rfl, q, _, (n : Int), _, rfl, rfl, .inl (.inl hq3), atI_nat (j := n) hwi, 2, rfl, wd, rfl, by omega, _, _, rfl, rfl, by omega, _, rfl, _, rfl, q, _, (n : Int), _, rfl, rfl, .inl (.inl hq3), atI_nat (j := n) hwi, _, _, rfl, rfl, by omega, _, rfl, _, rfl, q, _, (n : Int), _, rfl, rfl, .inl (.inl hq3), atI_nat (j := n) hwi, 6, rfl, wd, rfl, by omega, _, _, rfl, rfl, by omega, by show 7 ≤ sizeLine; omega, fun po npo => ?_⟩
    obtain ⟨od, eod⟩ : ∃ od : List Str, od = ([("sea" : Str), ("right" : Str), ("weir" : Str), wd ++ ("A" : Str), cutS wd none (some (2 : Int)) ++ ("1" : Str), wd ++ ("abcdefgh" : Str), cutS wd none (some (6 : Int)) ++ ("qx" : Str)] : List Str) := ⟨_, rfl⟩
    have hod : ∀ x ∈ od, Plain x ∧ (10 : Nat) ∉ tl x ∧ (tl x).length ≤ (tl wd).length + 9 := by
      have cs : ∀ {z : Str} {k : Nat}, tl z = (tl wd).take k → Plain z ∧ (10 : Nat) ∉ tl z ∧ (tl z).length ≤ (tl wd).length := fun {z k} e => by
        refine ⟨fun c hc => wk1 c (List.mem_of_mem_take (by rw [← e]; exact hc)), fun h => wk2 (List.mem_of_mem_take (by rw [← e]; exact h)), ?_⟩
        rw [e, List.length_take]
        omega
      obtain ⟨a1, a2, a3⟩ := cs c2
      obtain ⟨b1, b2, b3⟩ := cs c6
      have a3 : (tl (cutS wd none (some (2 : Int)))).length ≤ (tl wd).length := a3
      have b3 : (tl (cutS wd none (some (6 : Int)))).length ≤ (tl wd).length := b3
      rw [len_tl] at eA e1q eab eqx
      rw [eod]
      intro x hx
      simp only [List.mem_cons, List.not_mem_nil, or_false] at hx
      rcases hx with rfl | rfl | rfl | rfl | rfl | rfl | rfl
      · exact ⟨plain_lit (by decide +kernel), by decide +kernel, Nat.le_trans (m := 9) (by decide +kernel) (by omega)⟩
      · exact ⟨plain_lit (by decide +kernel), by decide +kernel, Nat.le_trans (m := 9) (by decide +kernel) (by omega)⟩
      · exact ⟨plain_lit (by decide +kernel), by decide +kernel, Nat.le_trans (m := 9) (by decide +kernel) (by omega)⟩
      · exact ⟨plain_cat wk1 (plain_lit (by decide +kernel)), nl_cat wk2 (by decide +kernel), by rw [tl_append, List.length_append]; omega⟩
      · exact ⟨plain_cat a1 (plain_lit (by decide +kernel)), nl_cat a2 (by decide +kernel), by rw [tl_append, List.length_append]; omega⟩
      · exact ⟨plain_cat wk1 (plain_lit (by decide +kernel)), nl_cat wk2 (by decide +kernel), by rw [tl_append, List.length_append]; omega⟩
      · exact ⟨plain_cat b1 (plain_lit (by decide +kernel)), nl_cat b2 (by decide +kernel), by rw [tl_append, List.length_append]; omega⟩
    have hpo : (upd H3 po (.lst (od.map V.str))) po = some (.lst (od.map V.str)) := upd_same
    have s4 := same_upd npo (o := .lst (od.map V.str))
    have hq4 := s4 _ _ hq3
    have hwl4 := s4 _ _ hwl3
    have u4 := u3.trans (.of s4)
    have B4 := bagS' B3 s4
    have npb : po ≠ b := fun e => by
      obtain ⟨z, hz, _⟩ := B3
      rw [e, hz] at npo
      cases npo
    have lod : (od.map V.str).length = 7 := by rw [eod]; rfl
    have ego : ([V.str "sea", V.str "right", V.str "weir", V.str (wd ++ ("A" : Str)), V.str (cutS wd none (some (2 : Int)) ++ ("1" : Str)), V.str (wd ++ ("abcdefgh" : Str)), V.str (cutS wd none (some (6 : Int)) ++ ("qx" : Str))] : List V) = od.map V.str := by rw [eod]; rfl
    rw [ego]
    generalize upd H3 po (.lst (od.map V.str)) = H4 at hpo hq4 hwl4 u4 B4
    refine ⟨_, rfl, _, _, rfl, rfl, _, rfl, ?_⟩
    by_cases h10 : r < 10
    · refine iteD h10 ?_
      refine ⟨_, rfl, _, rfl, b, po, _, rfl, B4, npb, .inl (.inl hpo), by omega, by omega, fun i v bx3 hv bv3 => ?_⟩
      rw [List.getElem?_map] at hv
      obtain ⟨x, hx, rfl⟩ := Option.map_eq_some_iff.mp hv
      obtain ⟨hx1, hx2, hx3⟩ := hod x (List.mem_of_getElem? hx)
      have hq5 : (upd H4 b (.lst bx3)) q = _ := (upd_ne nqb).trans hq4
      have u5 : Upto b H (upd H4 b (.lst bx3)) := fun c o hc hn => by
        rw [upd_ne hn]
        exact u4 c o hc hn
      have B5 : BagAt (upd H4 b (.lst bx3)) b := ⟨bx3, upd_same, bv3⟩
      generalize upd H4 b (.lst bx3) = H5 at hq5 u5 B5
      refine ⟨⟨_, rfl⟩, _, rfl, _, rfl, (n : Int), rfl, ?_⟩
      refine ⟨q, _, rfl, .inl (.inl hq5), fun p1 np1 => ?_⟩
      rw [cutV_take]
      have s6 := same_upd np1 (o := .lst (((wOf l).map V.str).take n))
      have hp1 : (upd H5 p1 (.lst (((wOf l).map V.str).take n))) p1 = some (.lst (((wOf l).map V.str).take n)) := upd_same
      have hq6 := s6 _ _ hq5
      have u6 := u5.trans (.of s6)
      have B6 := bagS' B5 s6
      generalize upd H5 p1 (.lst (((wOf l).map V.str).take n)) = H6 at hp1 hq6 u6 B6
      refine ⟨_, rfl, by show 1 ≤ sizeLine; omega, fun p4 np4 => ?_⟩
      have s7 := same_upd np4 (o := .lst [V.str x])
      have hp4 : (upd H6 p4 (.lst [V.str x])) p4 = some (.lst [V.str x]) := upd_same
      have hp17 := s7 _ _ hp1
      have hq7 := s7 _ _ hq6
      have u7 := u6.trans (.of s7)
      have B7 := bagS' B6 s7
      generalize upd H6 p4 (.lst [V.str x]) = H7 at hp4 hp17 hq7 u7 B7
      refine ⟨p1, p4, _, _, rfl, rfl, hp17, hp4, by rw [List.length_singleton]; omega, fun p5 np5 => ?_⟩
      have s8 := same_upd np5 (o := .lst (((wOf l).map V.str).take n ++ [V.str x]))
      have hp5 : (upd H7 p5 (.lst (((wOf l).map V.str).take n ++ [V.str x]))) p5 = some (.lst (((wOf l).map V.str).take n ++ [V.str x])) := upd_same
      have hq8 := s8 _ _ hq7
      have u8 := u7.trans (.of s8)
      have B8 := bagS' B7 s8
      generalize upd H7 p5 (.lst (((wOf l).map V.str).take n ++ [V.str x])) = H8 at hp5 hq8 u8 B8
      refine ⟨_, rfl, _, rfl, _, _, rfl, rfl, (n : Int) + 1, rfl, q, _, rfl, .inl (.inl hq8), fun p6 np6 => ?_⟩
      rw [en, cut_drop]
      have s9 := same_upd np6 (o := .lst (((wOf l).map V.str).drop (n + 1)))
      have hp6 : (upd H8 p6 (.lst (((wOf l).map V.str).drop (n + 1)))) p6 = some (.lst (((wOf l).map V.str).drop (n + 1))) := upd_same
      have hp59 := s9 _ _ hp5
      have u9 := u8.trans (.of s9)
      have B9 := bagS' B8 s9
      generalize upd H8 p6 (.lst (((wOf l).map V.str).drop (n + 1))) = H9 at hp6 hp59 u9 B9
      refine ⟨p5, p6, _, _, rfl, rfl, hp59, hp6, by rw [List.length_append, List.length_singleton]; omega, fun p7 np7 => ?_⟩
      have ews : ((wOf l).map V.str).take n ++ [V.str x] ++ ((wOf l).map V.str).drop (n + 1) = ((wOf l).take n ++ [x] ++ (wOf l).drop (n + 1)).map V.str := by
        rw [List.map_append, List.map_append, List.map_take, List.map_drop]
        rfl
      rw [ews]
      have hc : cost ((wOf l).take n ++ [x] ++ (wOf l).drop (n + 1)) ≤ m + 9 + 1 := by
        rw [cost_app, cost_app, cost_one]
        omega
      have hw : ∀ z ∈ (wOf l).take n ++ [x] ++ (wOf l).drop (n + 1), Plain z ∧ (10 : Nat) ∉ tl z := fun z hz => by
        rcases List.mem_append.mp hz with hz | hz
        · rcases List.mem_append.mp hz with hz | hz
          · exact word_ok hl (List.mem_of_mem_take hz)
          · rw [List.mem_singleton.mp hz]
            exact ⟨hx1, hx2⟩
        · exact word_ok hl (List.mem_of_mem_drop hz)
      exact ⟨_, p7, _, rfl, rfl, .inl (.inl (.inl upd_same)), join_size hc (by omega), kk _ _ (u9.trans (.of (same_upd np7))) (bagS' B9 (same_upd np7)) (join_ln hw hc)⟩
    · refine iteDn h10 ?_
      have lns : (ns.map V.str).length = ns.length := List.length_map _
      have ns0 : 0 < ns.length := List.length_pos_iff.mpr hns
      refine ⟨_, rfl, _, rfl, b, wl, _, rfl, B4, nwb, .inl (.inl hwl4), by omega, by omega, fun i v bx3 hv bv3 => ?_⟩
      rw [List.getElem?_map] at hv
      obtain ⟨x, hx, rfl⟩ := Option.map_eq_some_iff.mp hv
      have hnx := hnok x (List.mem_of_getElem? hx)
      have hx1 := name_plain hnx
      have hx2 := name_nl hnx
      have hx3 : (tl x).length ≤ 8 := hnx.most
      have hq5 : (upd H4 b (.lst bx3)) q = _ := (upd_ne nqb).trans hq4
      have u5 : Upto b H (upd H4 b (.lst bx3)) := fun c o hc hn => by
        rw [upd_ne hn]
        exact u4 c o hc hn
      have B5 : BagAt (upd H4 b (.lst bx3)) b := ⟨bx3, upd_same, bv3⟩
      generalize upd H4 b (.lst bx3) = H5 at hq5 u5 B5
      refine ⟨⟨_, rfl⟩, _, rfl, _, rfl, (n : Int), rfl, ?_⟩
      refine ⟨q, _, rfl, .inl (.inl hq5), fun p1 np1 => ?_⟩
      rw [cutV_take]
      have s6 := same_upd np1 (o := .lst (((wOf l).map V.str).take n))
      have hp1 : (upd H5 p1 (.lst (((wOf l).map V.str).take n))) p1 = some (.lst (((wOf l).map V.str).take n)) := upd_same
      have hq6 := s6 _ _ hq5
      have u6 := u5.trans (.of s6)
      have B6 := bagS' B5 s6
      generalize upd H5 p1 (.lst (((wOf l).map V.str).take n)) = H6 at hp1 hq6 u6 B6
      refine ⟨_, rfl, by show 1 ≤ sizeLine; omega, fun p4 np4 => ?_⟩
      have s7 := same_upd np4 (o := .lst [V.str x])
      have hp4 : (upd H6 p4 (.lst [V.str x])) p4 = some (.lst [V.str x]) := upd_same
      have hp17 := s7 _ _ hp1
      have hq7 := s7 _ _ hq6
      have u7 := u6.trans (.of s7)
      have B7 := bagS' B6 s7
      generalize upd H6 p4 (.lst [V.str x]) = H7 at hp4 hp17 hq7 u7 B7
      refine ⟨p1, p4, _, _, rfl, rfl, hp17, hp4, by rw [List.length_singleton]; omega, fun p5 np5 => ?_⟩
      have s8 := same_upd np5 (o := .lst (((wOf l).map V.str).take n ++ [V.str x]))
      have hp5 : (upd H7 p5 (.lst (((wOf l).map V.str).take n ++ [V.str x]))) p5 = some (.lst (((wOf l).map V.str).take n ++ [V.str x])) := upd_same
      have hq8 := s8 _ _ hq7
      have u8 := u7.trans (.of s8)
      have B8 := bagS' B7 s8
      generalize upd H7 p5 (.lst (((wOf l).map V.str).take n ++ [V.str x])) = H8 at hp5 hq8 u8 B8
      refine ⟨_, rfl, _, rfl, _, _, rfl, rfl, (n : Int) + 1, rfl, q, _, rfl, .inl (.inl hq8), fun p6 np6 => ?_⟩
      rw [en, cut_drop]
      have s9 := same_upd np6 (o := .lst (((wOf l).map V.str).drop (n + 1)))
      have hp6 : (upd H8 p6 (.lst (((wOf l).map V.str).drop (n + 1)))) p6 = some (.lst (((wOf l).map V.str).drop (n + 1))) := upd_same
      have hp59 := s9 _ _ hp5
      have u9 := u8.trans (.of s9)
      have B9 := bagS' B8 s9
      generalize upd H8 p6 (.lst (((wOf l).map V.str).drop (n + 1))) = H9 at hp6 hp59 u9 B9
      refine ⟨p5, p6, _, _, rfl, rfl, hp59, hp6, by rw [List.length_append, List.length_singleton]; omega, fun p7 np7 => ?_⟩
      have ews : ((wOf l).map V.str).take n ++ [V.str x] ++ ((wOf l).map V.str).drop (n + 1) = ((wOf l).take n ++ [x] ++ (wOf l).drop (n + 1)).map V.str := by
        rw [List.map_append, List.map_append, List.map_take, List.map_drop]
        rfl
      rw [ews]
      have hc : cost ((wOf l).take n ++ [x] ++ (wOf l).drop (n + 1)) ≤ m + 9 + 1 := by
        rw [cost_app, cost_app, cost_one]
        omega
      have hw : ∀ z ∈ (wOf l).take n ++ [x] ++ (wOf l).drop (n + 1), Plain z ∧ (10 : Nat) ∉ tl z := fun z hz => by
        rcases List.mem_append.mp hz with hz | hz
        · rcases List.mem_append.mp hz with hz | hz
          · exact word_ok hl (List.mem_of_mem_take hz)
          · rw [List.mem_singleton.mp hz]
            exact ⟨hx1, hx2⟩
        · exact word_ok hl (List.mem_of_mem_drop hz)
      exact ⟨_, p7, _, rfl, rfl, .inl (.inl (.inl upd_same)), join_size hc (by omega), kk _ _ (u9.trans (.of (same_upd np7))) (bagS' B9 (same_upd np7)) (join_ln hw hc)⟩
end
end K0
end
section
set_option Elab.async false
set_option linter.all false
set_option maxRecDepth 100000
set_option maxHeartbeats 4000000
namespace K0
open PySem PySem.Spec PyProof.Rows L2 TL
/-! ### lines spoilt -/
abbrev scLSpoilt_N : List Str := ["_law_bag_here", "_law_lines_here", "_law_weirs", "_law_found", "_law_turn", "_law_way_here", "_law_place"]
abbrev scLSpoilt_S : Stmt := sLSpoilt
theorem scLSpoilt : FnScope scLSpoilt_N ["_law_bag_here", "_law_lines_here", "_law_weirs"] (defScope sLSpoilt) := ⟨rfl, rfl, rfl, by decide +kernel, rfl, by decide +kernel, by decide +kernel⟩
def spLSpoilt : Sp := fun vs H Q _ => ∃ (b ll wl : Addr) (ls ns : List Str), vs = [.ref b, .ref ll, .ref wl] ∧ BagAt H b ∧ ll ≠ b ∧ wl ≠ b ∧ H ll = some (.lst (ls.map V.str)) ∧ H wl = some (.lst (ns.map V.str)) ∧ ns ≠ [] ∧ ns.length ≤ 40 ∧ (∀ n ∈ ns, NameOk n) ∧ 1 ≤ ls.length ∧ ls.length ≤ 80 ∧ (∀ l ∈ ls, LnM 40 l) ∧
  ∀ H' z ls', Upto b H H' → BagAt H' b → H z = none → H' z = some (.lst (ls'.map V.str)) → Lns ls' → Q (.ref z) H'
section
variable {P : Program} {w : World} {K : PySem.W.Frag} {mg : Str → Option Value} {base : Heap} {tS tM tL : Tok}
theorem ok_lspoilt {f fT fO fB : Addr} {fd fdT fdO fdB : FuncData} (F : FnP K "_law_spoilt" sLSpoilt f fd) (F_law_take : FnP K "_law_take" sTake fT fdT) (g_law_take : mg "_law_take" = some (.ref fT)) (F_law_of : FnP K "_law_of" sOf fO fdO) (g_law_of : mg "_law_of" = some (.ref fO)) (F_law_bent : FnP K "_law_bent" sLBent fB fdB) (g_law_bent : mg "_law_bent" = some (.ref fB)) (B : Bl mg) : FnOk P w K mg base CX0 4 f fd ["_law_bag_here", "_law_lines_here", "_law_weirs"] spLSpoilt := by
  have G_law_take : FnOk P w K mg base CX0 1 fT fdT ["_law_bag_here", "_law_many"] spTake := ok_take F_law_take B
  have b_law_take : Binds K fdT ["_law_bag_here", "_law_many"] [] := F_law_take.bindsN fun _ _ _ _ _ _ us hl => match us, hl with | [_, _], _ => rfl
  have G_law_of : FnOk P w K mg base CX0 2 fO fdO ["_law_bag_here", "_law_some"] (spOf K) := ok_of F_law_of F_law_take B g_law_take
  have b_law_of : Binds K fdO ["_law_bag_here", "_law_some"] [] := F_law_of.bindsN fun _ _ _ _ _ _ us hl => match us, hl with | [_, _], _ => rfl
  have G_law_bent : FnOk P w K mg base CX0 3 fB fdB ["_law_bag_here", "_law_line", "_law_weirs"] spLBent := ok_lbent F_law_bent F_law_take g_law_take F_law_of g_law_of B
  have b_law_bent : Binds K fdB ["_law_bag_here", "_law_line", "_law_weirs"] [] := F_law_bent.bindsN fun _ _ _ _ _ _ us hl => match us, hl with | [_, _, _], _ => rfl
  refine F.ok scLSpoilt (fun vs H Q E h => ?_) (fun cdv A outer s H vs Q E hr h => ?_)
  · obtain ⟨b, ll, wl, ls, ns, rfl, _⟩ := h
    rfl
  · obtain ⟨b, ll, wl, ls, ns, rfl, hB, nlb, nwb, hll, hwl, hns, hn40, hnok, l1, l80, hlm, kk⟩ := h
    have hr_law_take : Room 1 _ := hr.mono (by decide)
    have hr_law_of : Room 2 _ := hr.mono (by decide)
    have hr_law_bent : Room 3 _ := hr
    refine ⟨_, PSs.nox (pss_cons
      (ps_set (i := 3) scLSpoilt.nd rfl (Or.inl rfl) (pe_callTy (listK (K := K)) (by rfl) B.list (by decide +kernel) (pa_cons (pv 1) pa_nil)))
      (pss_cons
      (ps_for PassesOwn.never rfl (pi_range1 (by rfl) B.range (pa_cons (pe_call G_law_take hr_law_take (by rfl) g_law_take F_law_take.kp b_law_take .nil pass0 (pa_cons (pv 0) (pa_cons pe_int pa_nil))) pa_nil)) (pg_name (i := 4) scLSpoilt.nd rfl (Or.inl rfl)) (pss_cons
      (ps_par (i := 5) (j := 6) (by rfl) scLSpoilt.nd rfl rfl (by decide) rfl rfl (pa_cons (pe_call G_law_take hr_law_take (by rfl) g_law_take F_law_take.kp b_law_take .nil pass0 (pa_cons (pv 0) (pa_cons pe_int pa_nil))) (pa_cons (pe_call G_law_take hr_law_take (by rfl) g_law_take F_law_take.kp b_law_take .nil pass0 (pa_cons (pv 0) (pa_cons (pe_op op_add (pe_callB (lenK (K := K)) (by rfl) B.len PySem.boot_len (pa_cons (pv 3) pa_nil)) pe_int) pa_nil))) pa_nil)) (by rfl))
      (pss_one
      (ps_if (pt_cmpR op_eq (pv 5) pe_int (nomark _)) (pss_one
      (ps_expr (pe_bm PySem.F.plainAttrs_list PySem.F.slot_list_insert PySem.F.type_list_insert mt_insert (pv 3) (pa_cons (pv 6) (pa_cons (pe_call G_law_of hr_law_of (by rfl) g_law_of F_law_of.kp b_law_of .nil pass0 (pa_cons (pv 0) (pa_cons (pe_lst (pa_cons pe_str (pa_cons pe_str (pa_cons pe_str (pa_cons pe_str (pa_cons pe_str (pa_cons pe_str (pa_cons (pe_call G_law_of hr_law_of (by rfl) g_law_of F_law_of.kp b_law_of .nil pass0 (pa_cons (pv 0) (pa_cons (pv 1) pa_nil))) pa_nil)))))))) pa_nil))) pa_nil))))) (pss_one
      (ps_if (PW.pt (pw_and (pt_cmpR op_lt (pv 6) (pe_callB (lenK (K := K)) (by rfl) B.len PySem.boot_len (pa_cons (pv 3) pa_nil)) (nomark _)) (pw_and (pt_cmpR op_eq (pv 5) pe_int (nomark _)) (pw_and1 (pt_cmpR op_gt (pe_callB (lenK (K := K)) (by rfl) B.len PySem.boot_len (pa_cons (pv 3) pa_nil)) pe_int (nomark _)))))) (pss_one
      (ps_expr (pe_bm PySem.F.plainAttrs_list PySem.F.slot_list_pop PySem.F.type_list_pop mt_popAt (pv 3) (pa_cons (pv 6) pa_nil)))) (pss_one
      (ps_if (pt_cmpR op_lt (pv 6) (pe_callB (lenK (K := K)) (by rfl) B.len PySem.boot_len (pa_cons (pv 3) pa_nil)) (nomark _)) (pss_one
      (ps_asg (pe_call G_law_bent hr_law_bent (by rfl) g_law_bent F_law_bent.kp b_law_bent .nil pass0 (pa_cons (pv 0) (pa_cons (pe_ix (ixLK (K := K)) (pv 3) (pv 6) (fun _ _ => rfl)) (pa_cons (pv 2) pa_nil)))) (pg_sub (pv 3) (pv 6) set_list))) pss_nil))))))))
      (pss_one
      (ps_ret (pv 3))))), ?_⟩
    have z40 : 40000 ≤ sizeLine := by rw [sizeLine_eq]; omega
    refine ⟨_, rfl, ll, _, rfl, .inl (.inl (.inl hll)), fun z nz => ?_⟩
    have s1 := same_upd nz (o := .lst (ls.map V.str))
    have hz1 : (upd H z (.lst (ls.map V.str))) z = some (.lst (ls.map V.str)) := upd_same
    have B1 := bagS' hB s1
    have nzb : z ≠ b := fun e => by
      obtain ⟨x, hx, _⟩ := hB
      rw [e, hx] at nz
      cases nz
    generalize upd H z (.lst (ls.map V.str)) = H1 at s1 hz1 B1
    refine ⟨_, rfl, b, 4, rfl, B1, by omega, by omega, fun r bx r0 r4 bv => ?_⟩
    have u2 : Upto b H (upd H1 b (.lst bx)) := fun c o hc hn => by
      rw [upd_ne hn]
      exact s1 c o hc
    have B2 : BagAt (upd H1 b (.lst bx)) b := ⟨bx, upd_same, bv⟩
    have hz2 : (upd H1 b (.lst bx)) z = _ := (upd_ne nzb).trans hz1
    generalize upd H1 b (.lst bx) = H2 at u2 B2 hz2
    refine ⟨_, rfl, by omega, by omega, ?_⟩
    refine for_range (lo := 0) (fun k σ H3 => ∃ (v4 v5 v6 : Option V) (fs : List Str), σ = [some (.ref b), some (.ref ll), some (.ref wl), some (.ref z), v4, v5, v6] ∧ Upto b H H3 ∧ BagAt H3 b ∧ H3 z = some (.lst (fs.map V.str)) ∧ 1 ≤ fs.length ∧ fs.length ≤ 80 + k ∧ ∀ l ∈ fs, LnM (40 + 9 * k) l)
      ⟨_, _, _, ls, rfl, u2, B2, hz2, l1, by omega, fun l hl => (hlm l hl).mono (by omega)⟩ ?_ ?_
    · rintro k σ H3 hk ⟨v4, v5, v6, fs, rfl, u3, B3, hz3, f1, f80, fok⟩
      have lfs : (fs.map V.str).length = fs.length := List.length_map _
      refine ⟨_, rfl, b, 6, rfl, B3, by omega, by omega, fun w6 bx4 w0 w66 bv4 => ?_⟩
      have u4 : Upto b H (upd H3 b (.lst bx4)) := fun c o hc hn => by
        rw [upd_ne hn]
        exact u3 c o hc hn
      have B4 : BagAt (upd H3 b (.lst bx4)) b := ⟨bx4, upd_same, bv4⟩
      have hz4 : (upd H3 b (.lst bx4)) z = _ := (upd_ne nzb).trans hz3
      generalize upd H3 b (.lst bx4) = H4 at u4 B4 hz4
      refine ⟨_, rfl, _, rfl, z, _, rfl, .inl (.inl (.inl hz4)), _, _, rfl, rfl, b, (fs.map V.str).length + 1, rfl, B4, by omega, by omega, fun pl bx5 p0 p1 bv5 => ?_⟩
      have u5 : Upto b H (upd H4 b (.lst bx5)) := fun c o hc hn => by
        rw [upd_ne hn]
        exact u4 c o hc hn
      have B5 : BagAt (upd H4 b (.lst bx5)) b := ⟨bx5, upd_same, bv5⟩
      have hz5 : (upd H4 b (.lst bx5)) z = _ := (upd_ne nzb).trans hz4
      generalize upd H4 b (.lst bx5) = H5 at u5 B5 hz5
      refine ⟨_, _, rfl, ?_⟩
      refine ⟨_, rfl, rfl, _, rfl, ?_⟩
      have hll5 := u5 _ _ hll nlb
      have hwl5 := u5 _ _ hwl nwb
      have lls : (ls.map V.str).length = ls.length := List.length_map _
      by_cases h0 : w6 = 0
      · refine iteD (congrArg V.int h0) ?_
        refine ⟨_, rfl, .inl ⟨rfl, _, .inl (.inl hz5)⟩, _, rfl, _, rfl, _, rfl, _, rfl, b, ll, _, rfl, B5, nlb, .inl (.inl hll5), by omega, by omega, fun i v bx6 hv bv6 => ⟨by show 7 ≤ sizeLine; omega, fun po npo => ?_⟩⟩
        rw [List.getElem?_map] at hv
        obtain ⟨ln, hln, rfl⟩ := Option.map_eq_some_iff.mp hv
        have u6 : Upto b H (upd H5 b (.lst bx6)) := fun c o hc hn => by
          rw [upd_ne hn]
          exact u5 c o hc hn
        have B6 : BagAt (upd H5 b (.lst bx6)) b := ⟨bx6, upd_same, bv6⟩
        have hz6 : (upd H5 b (.lst bx6)) z = _ := (upd_ne nzb).trans hz5
        generalize upd H5 b (.lst bx6) = H6 at u6 B6 hz6 npo
        obtain ⟨od, eod⟩ : ∃ od : List Str, od = ([("" : Str), (" " : Str), ("weirs a b" : Str), ("weir" : Str), ("right" : Str), ("sea" : Str), ln] : List Str) := ⟨_, rfl⟩
        have hod : ∀ x ∈ od, LnM 40 x := by
          rw [eod]
          intro x hx
          simp only [List.mem_cons, List.not_mem_nil, or_false] at hx
          rcases hx with rfl | rfl | rfl | rfl | rfl | rfl | rfl
          · exact ⟨plain_lit (by decide +kernel), by decide +kernel, by decide +kernel⟩
          · exact ⟨plain_lit (by decide +kernel), by decide +kernel, by decide +kernel⟩
          · exact ⟨plain_lit (by decide +kernel), by decide +kernel, by decide +kernel⟩
          · exact ⟨plain_lit (by decide +kernel), by decide +kernel, by decide +kernel⟩
          · exact ⟨plain_lit (by decide +kernel), by decide +kernel, by decide +kernel⟩
          · exact ⟨plain_lit (by decide +kernel), by decide +kernel, by decide +kernel⟩
          · exact hlm _ (List.mem_of_getElem? hln)
        have ego : ([V.str "", V.str " ", V.str "weirs a b", V.str "weir", V.str "right", V.str "sea", V.str ln] : List V) = od.map V.str := by rw [eod]; rfl
        have lod : (od.map V.str).length = 7 := by rw [eod]; rfl
        rw [ego]
        have npb : po ≠ b := fun e => by
          obtain ⟨y, hy, _⟩ := B6
          rw [e, hy] at npo
          cases npo
        have s7 := same_upd npo (o := .lst (od.map V.str))
        have hpo : (upd H6 po (.lst (od.map V.str))) po = some (.lst (od.map V.str)) := upd_same
        have hz7 := s7 _ _ hz6
        have u7 := u6.trans (.of s7)
        have B7 := bagS' B6 s7
        generalize upd H6 po (.lst (od.map V.str)) = H7 at hpo hz7 u7 B7
        refine ⟨b, po, _, rfl, B7, npb, .inl (.inl hpo), by omega, by omega, fun i2 v2 bx8 hv2 bv8 => ?_⟩
        rw [List.getElem?_map] at hv2
        obtain ⟨x, hx, rfl⟩ := Option.map_eq_some_iff.mp hv2
        have hxm := hod x (List.mem_of_getElem? hx)
        have hz8 : (upd H7 b (.lst bx8)) z = _ := (upd_ne nzb).trans hz7
        refine ⟨z, _, pl, _, rfl, rfl, hz8, small1000 (by omega), p0, by omega, ?_⟩
        have ews : (fs.map V.str).take pl.toNat ++ [V.str x] ++ (fs.map V.str).drop pl.toNat = (fs.take pl.toNat ++ [x] ++ fs.drop pl.toNat).map V.str := by
          rw [List.map_append, List.map_append, List.map_take, List.map_drop]
          rfl
        rw [ews]
        have lw : (fs.take pl.toNat ++ [x] ++ fs.drop pl.toNat).length = fs.length + 1 := by
          rw [List.length_append, List.length_append, List.length_singleton, List.length_take, List.length_drop]
          omega
        refine ⟨_, _, _, _, rfl, fun c o hc hn => ?_, ⟨bx8, ?_, bv8⟩, upd_same, by omega, by omega, fun l hl => ?_⟩
        · rw [upd_ne (ne_of_none hc nz), upd_ne hn]
          exact u7 c o hc hn
        · rw [upd_ne (Ne.symm nzb), upd_same]
        · rcases List.mem_append.mp hl with hl | hl
          · rcases List.mem_append.mp hl with hl | hl
            · exact (fok l (List.mem_of_mem_take hl)).mono (by omega)
            · rw [List.mem_singleton.mp hl]
              exact hxm.mono (by omega)
          · exact (fok l (List.mem_of_mem_drop hl)).mono (by omega)
      refine iteDn (fun e => h0 (V.int.inj e)) ?_
      refine ⟨_, rfl, _, rfl, z, _, rfl, .inl (.inl (.inl hz5)), _, _, rfl, rfl, _, rfl, ?_⟩
      by_cases hpl : pl < ((fs.map V.str).length : Int)
      · refine iteD hpl ?_
        obtain ⟨n, rfl⟩ : ∃ n : Nat, pl = (n : Int) := ⟨pl.toNat, by omega⟩
        have hnl : n < fs.length := by omega
        have hget : (fs.map V.str)[n]? = some (.str fs[n]) := by rw [List.getElem?_map, List.getElem?_eq_getElem hnl]; rfl
        refine ⟨_, rfl, rfl, _, rfl, ?_⟩
        by_cases h1 : w6 = 1
        · refine iteD (congrArg V.int h1) ?_
          refine ⟨_, rfl, z, _, rfl, .inl (.inl (.inl hz5)), _, _, rfl, rfl, _, rfl, ?_⟩
          by_cases h2 : (1 : Int) < ((fs.map V.str).length : Int)
          · refine iteD h2 ?_
            refine ⟨_, rfl, .inl ⟨rfl, _, .inl (.inl hz5)⟩, _, rfl, z, _, (n : Int), n, .str fs[n], rfl, rfl, hz5, by omega, by omega, (by rw [seqIndex_of (by omega) (by omega)]; rfl), hget, ?_⟩
            have ews : (fs.map V.str).eraseIdx n = (fs.eraseIdx n).map V.str := by
              rw [List.eraseIdx_eq_take_drop_succ, List.eraseIdx_eq_take_drop_succ, List.map_append, List.map_take, List.map_drop]
            rw [ews]
            have B5' := B5
            obtain ⟨y6, hy6, v6'⟩ := B5'
            have le := List.length_eraseIdx_of_lt hnl
            refine ⟨_, _, _, _, rfl, fun c o hc hn => ?_, ⟨y6, by rw [upd_ne (Ne.symm nzb)]; exact hy6, v6'⟩, upd_same, by omega, by omega, fun q hq => ?_⟩
            · rw [upd_ne (ne_of_none hc nz)]
              exact u5 c o hc hn
            · exact (fok q (List.mem_of_mem_eraseIdx hq)).mono (by omega)
          · refine iteDn h2 ?_
            refine ⟨_, rfl, _, rfl, z, _, rfl, .inl (.inl (.inl hz5)), _, _, rfl, rfl, _, rfl, ?_⟩
            refine iteD hpl ?_
            refine ⟨_, rfl, _, rfl, _, rfl, z, _, (n : Int), _, rfl, rfl, .inl (.inl hz5), atI_nat (j := n) hget, _, rfl, b, wl, fs[n], ns, 40 + 9 * k, rfl, B5, nwb, hwl5, hns, hn40, hnok, fok _ (List.getElem_mem hnl), by omega, fun H6 l' u6 B6 hl' => ?_⟩
            have hz6 := u6 _ _ hz5 nzb
            refine ⟨_, rfl, _, rfl, z, _, (n : Int), n, rfl, rfl, hz6, (by unfold ixN; rw [if_pos (by omega), if_pos (by omega)]; rfl), ?_⟩
            have ews : (fs.map V.str).set n (V.str l') = (fs.set n l').map V.str := by rw [List.map_set]
            rw [ews]
            have B6' := B6
            obtain ⟨y6, hy6, v6'⟩ := B6'
            refine ⟨_, _, _, _, rfl, fun c o hc hn => ?_, ⟨y6, by rw [upd_ne (Ne.symm nzb)]; exact hy6, v6'⟩, upd_same, by rw [List.length_set]; exact f1, by rw [List.length_set]; omega, fun q hq => ?_⟩
            · rw [upd_ne (ne_of_none hc nz)]
              exact u6 c o (u5 c o hc hn) hn
            · rcases List.mem_or_eq_of_mem_set hq with hq | rfl
              · exact (fok q hq).mono (by omega)
              · exact hl'.mono (by omega)
        · refine iteDn (fun e => h1 (V.int.inj e)) ?_
          refine iteF ?_
          refine ⟨_, rfl, _, rfl, z, _, rfl, .inl (.inl (.inl hz5)), _, _, rfl, rfl, _, rfl, ?_⟩
          refine iteD hpl ?_
          refine ⟨_, rfl, _, rfl, _, rfl, z, _, (n : Int), _, rfl, rfl, .inl (.inl hz5), atI_nat (j := n) hget, _, rfl, b, wl, fs[n], ns, 40 + 9 * k, rfl, B5, nwb, hwl5, hns, hn40, hnok, fok _ (List.getElem_mem hnl), by omega, fun H6 l' u6 B6 hl' => ?_⟩
          have hz6 := u6 _ _ hz5 nzb
          refine ⟨_, rfl, _, rfl, z, _, (n : Int), n, rfl, rfl, hz6, (by unfold ixN; rw [if_pos (by omega), if_pos (by omega)]; rfl), ?_⟩
          have ews : (fs.map V.str).set n (V.str l') = (fs.set n l').map V.str := by rw [List.map_set]
          rw [ews]
          have B6' := B6
          obtain ⟨y6, hy6, v6'⟩ := B6'
          refine ⟨_, _, _, _, rfl, fun c o hc hn => ?_, ⟨y6, by rw [upd_ne (Ne.symm nzb)]; exact hy6, v6'⟩, upd_same, by rw [List.length_set]; exact f1, by rw [List.length_set]; omega, fun q hq => ?_⟩
          · rw [upd_ne (ne_of_none hc nz)]
            exact u6 c o (u5 c o hc hn) hn
          · rcases List.mem_or_eq_of_mem_set hq with hq | rfl
            · exact (fok q hq).mono (by omega)
            · exact hl'.mono (by omega)
      · refine iteDn hpl ?_
        refine iteF ?_
        refine ⟨_, rfl, _, rfl, z, _, rfl, .inl (.inl (.inl hz5)), _, _, rfl, rfl, _, rfl, ?_⟩
        refine iteDn hpl ?_
        exact ⟨_, _, _, fs, rfl, u5, B5, hz5, f1, by omega, fun q hq => (fok q hq).mono (by omega)⟩
    rintro σ H3 ⟨v4, v5, v6, fs, rfl, u3, B3, hz3, f1, f80, fok⟩
    refine ⟨_, rfl, kk H3 z fs u3 B3 nz hz3 ⟨fun e => (by rw [e] at f1; cases f1), (by omega), fun l hl => (fok l hl).ln1 (by omega)⟩⟩
end
end K0
end
section
set_option Elab.async false
set_option linter.all false
set_option maxRecDepth 100000
namespace L2
open PySem PySem.Spec PyProof.Rows
open PySem.W
/-! ### == and != by an own __eq__ -/
section
variable {prog : Program} {w : World} {M : Model} {A : Around} {E : Value → Shared → Prop} {s : Shared} {K : Frag} {x C f : Addr} {ox : Obj} {od : Option Obj} {y tb : Value}
theorem k0_ne_bound {Q : Option Value → Shared → Prop} (X : K.In s.heap) (I : InstAt s.heap x ox C od) (hs : findIn K (.ref C) "__ne__" = some (some (.builtin "object.__ne__")))
    (h : wpAny M A (call (.builtin "object.__ne__") [.ref x, y]) (fun v => Q (some v)) E s) : wpAny M A (callSpecialIfBound? (.ref x) "__ne__" [y]) Q E s := by
  simp only [callSpecialIfBound?, bindSpecialIfBound?]
  refine wpAny_holding (wpAny_bind (wpAny_bind (wpAny_bind (I.type.here ((looks_findIn X hs).here ?_)))))
  simp only [F.cmp_object.ne.bind]
  refine wpAny_bind (wpAny_askSetting (wpAny_ite ?_))
  have fin : wpAny M A (call (.builtin "object.__ne__") ([.ref x] ++ [y]) >>= fun v => pure (some v)) Q E s := wpAny_bind (wpAny_mono h (fun v s' h' => wpAny_pure h') fun _ _ h' => h')
  split
  · exact wpAny_bind (wpAny_pure (wpAny_pure (by exact fin)))
  · exact wpAny_tryCatch (wpAny_bind (wpAny_pure (wpAny_pure (by exact fin))))
theorem k0_ne_entry {Q : Fin → Shared → Prop} (hu : A.units < cLine) (X : K.In s.heap) (I : InstAt s.heap x ox C od) (hs : findIn K (.ref C) "__eq__" = some (some (.ref f))) (hf : isFn K (.ref f) = true)
    (hcall : wpAny (model prog w) A (call (.ref f) [.ref x, y]) (fun v s' => ∃ b, v = .bool b ∧ Q (.done (.ret (.bool (!b)))) s') E s) : wpAny (model prog w) A (Builtin.«object.__ne__» ⟨[.ref x, y], []⟩) Q E s := by
  unfold Builtin.«object.__ne__»
  refine wpAny_bind (m := slotArgs "__ne__" 1 _) (wpAny_pure ?_)
  show wpAny _ _ (cRoomFor "comparison" [.ref x, y] >>= _) _ _ _
  refine wpAny_bind (wpAny_cRoomFor hu ?_)
  refine wpAny_bind (m := callSpecialIfBound? (.ref x) (Str.ofString "__eq__") [y]) (ifBound_K X I hs hf (wpAny_mono hcall (fun v s' hv => ?_) fun _ _ e => e))
  obtain ⟨b, rfl, q⟩ := hv
  refine wpAny_bind (m := truthy (.bool b)) (wpAny_truthy_bool ?_)
  exact wpAny_pure q
theorem k0_ne_K {Q : Value → Shared → Prop} (hu : A.units + 1 < cLine) (X : K.In s.heap) (I : InstAt s.heap x ox C od) (hb : Looks (model prog w) s.heap (typeOf y) tb) (hn : notFirst K C tb = true)
    (hn2 : findIn K (.ref C) "__ne__" = some (some (.builtin "object.__ne__"))) (hs : findIn K (.ref C) "__eq__" = some (some (.ref f))) (hf : isFn K (.ref f) = true) (ho : mroIn K C (.type "object") = some true)
    (h : wpAny (model prog w) A.in1 (call (.ref f) [.ref x, y]) (fun v s' => ∃ b, v = .bool b ∧ Q (.bool (!b)) s') E s) : wpAny (model prog w) A (richCompare .NotEq (.ref x) y) Q E s := by
  have sub : Looks (model prog w) s.heap (isInstance (.ref x) (.type "object")) true := I.type.andThen (looks_mroIn X ho)
  have one : wpAny (model prog w) A (tryCompare (.ref x) "__ne__" y) (fun r s' => ∃ v, r = some v ∧ Q v s') E s := by
    unfold tryCompare
    refine wpAny_bind (k0_ne_bound X I hn2 (wpAny_call (codeAny_call_builtin F.cmp_object.ne.plain F.cmpEntry_ne (@check_slot (model prog w) _ _ s "object.__ne__" "object" "__ne__" (.ref x) [y] [] _ F.cmpKind_ne F.cmpSplit_ne sub (F.cmpArgs_ne _ _)
      (k0_ne_entry (A := A.in1) hu X I hs hf (wpAny_mono h (fun v s' hv => ?_) fun _ _ e => e))))))
    obtain ⟨b, rfl, q⟩ := hv
    exact ⟨b, rfl, wpAny_pure ⟨_, rfl, q⟩⟩
  unfold richCompare
  simp only [oneThing_ref]
  refine wpAny_holding (wpAny_bind (wpAny_cRoomFor (Nat.lt_of_succ_lt hu) ?_))
  refine wpAny_bind (I.type.here (wpAny_bind (hb.here ?_)))
  split
  · rename_i q
    have e : subIn K tb (.ref C) = some false := by
      rcases Bool.or_eq_true_iff.mp hn with e | e
      · rw [beq_iff_eq.mp e] at q; simp at q
      · exact beq_iff_eq.mp e
    refine wpAny_bind ((looks_subIn X e).here ?_)
    simp only [Bool.false_eq_true, if_false]
    refine wpAny_bind (wpAny_mono one (fun r s' z => ?_) fun _ _ e => e)
    obtain ⟨v, rfl, hq⟩ := z
    exact wpAny_pure hq
  · refine wpAny_bind (wpAny_pure ?_)
    simp only [Bool.false_eq_true, if_false]
    refine wpAny_bind (wpAny_mono one (fun r s' z => ?_) fun _ _ e => e)
    obtain ⟨v, rfl, hq⟩ := z
    exact wpAny_pure hq
end
end L2
namespace L2
open PySem PySem.Spec PyProof.Rows
section
variable {X : Cx} {k : Nat} {C f : Addr} {fd : FuncData}
def rOwnEq (K : PySem.W.Frag) (C : Addr) (neg : Bool) (G : Hp → Addr → V → Bool → Prop) : R2 := fun x y H Q => ∃ (p dx : Addr) (fs : List (Str × V)) (b : Bool) (t : Value), x = .ref p ∧ H p = some (.ins C dx fs) ∧ G H p y b ∧ TyX K H y t ∧ PySem.W.notFirst K C t = true ∧ Q (.bl (if neg then !b else b)) H
theorem k0_eq_run {ps : List Str} {G : Hp → Addr → V → Bool → Prop} (F : FnOk X.prog X.w X.K X.mg X.base CX0 k f fd ps (spHas G)) {A : Around} (hr : Room k A) (hl : ps.length = 2) (hb : Binds X.K fd ps []) {pins : List (Addr × Obj)} {σ : St} {H : Hp} {s : Shared} (I : Inv X pins σ H s)
    (e0 : Env0 X.prog X.w X.K X.mg X.base A X.stack s H) {E : Value → Shared → Prop} {p : Addr} {x : V} {u : Value} {b : Bool} (rx : RelV x u) (hG : G H p x b)
    {R : Value → Shared → Prop} (h : ∀ s', Inv X pins σ H s' → R (.bool b) s') : wpAny (model X.prog X.w) A (call (.ref f) [.ref p, u]) R E s := by
  have hsp : spHas G [.ref p, x] H (fun v H' => v = .bl b ∧ H' = H) E0 := ⟨p, x, b, rfl, hG, rfl, rfl⟩
  have r2 : Vals [V.ref p, x] [Value.ref p, u] := .cons rfl (.cons rx .nil)
  refine wpAny_call (codeAny_mono (F.run A X.stack s H ⟨[.ref p, u], []⟩ [.ref p, u] [.ref p, x] _ E0 hr e0 (by
    have := hb s [.ref p, u] I.kIn (by rw [hl]; rfl)
    simpa using this) r2 hsp) fun r s' hq => ?_)
  cases r with
  | error e => exact hq.elim
  | ok fl =>
    cases fl with
    | ret w =>
      obtain ⟨z, H', I', rz, ez, eH⟩ := I.after hq
      subst ez
      subst eH
      cases rz
      exact h s' I'
    | next => exact hq.elim
    | brk => exact hq.elim
    | cont => exact hq.elim
theorem k0_ty_looks {pins : List (Addr × Obj)} {σ : St} {H : Hp} {s : Shared} {x : V} {u t : Value} (I : Inv X pins σ H s) (rx : RelV x u) (ty : TyX X.K H x t) : PySem.W.Looks (model X.prog X.w) s.heap (typeOf u) t := by
  obtain ⟨Pz, Z, pz, _⟩ := kit_of I rx ty
  exact Z.ty _ _ I.kIn pz
theorem k0_eq_own {ps : List Str} {G : Hp → Addr → V → Bool → Prop} (F : FnOk X.prog X.w X.K X.mg X.base CX0 k f fd ps (spHas G)) (hr : Room k X.A) (hl : ps.length = 2)
    (hs : PySem.W.findIn X.K (.ref C) "__eq__" = some (some (.ref f))) (hf : PySem.W.isFn X.K (.ref f) = true) (hb : Binds X.K fd ps []) : OpR X (compareOp .Eq) (rOwnEq X.K C false G) := by
  intro pins s σ H x y v u Q I rx ry h
  obtain ⟨p, dx, fs, b, t, rfl, hp, hG, ty, hn, q⟩ := h
  cases rx
  obtain ⟨mA, J, _⟩ := ins_get I.hok hp
  obtain ⟨od, J, _⟩ := J.look
  obtain ⟨m, hF⟩ := I.fr
  show wpAny _ _ (compareOp .Eq (.ref p) u) _ _ _
  unfold compareOp
  refine PySem.W.cmp_K (op := .Eq) hr.units0 hF I.ok.mod.kin J (k0_ty_looks I ry ty) hn hs hf (k0_eq_run F hr hl hb I I.env0 ry hG fun s' I' => ?_)
  exact ⟨.bl b, H, I', rfl, q⟩
theorem k0_ne_own {ps : List Str} {G : Hp → Addr → V → Bool → Prop} (F : FnOk X.prog X.w X.K X.mg X.base CX0 k f fd ps (spHas G)) (hr : Room (k + 1) X.A) (hl : ps.length = 2)
    (hs : PySem.W.findIn X.K (.ref C) "__eq__" = some (some (.ref f))) (hn2 : PySem.W.findIn X.K (.ref C) "__ne__" = some (some (.builtin "object.__ne__"))) (ho : PySem.W.mroIn X.K C (.type "object") = some true)
    (hf : PySem.W.isFn X.K (.ref f) = true) (hb : Binds X.K fd ps []) : OpR X (compareOp .NotEq) (rOwnEq X.K C true G) := by
  intro pins s σ H x y v u Q I rx ry h
  obtain ⟨p, dx, fs, b, t, rfl, hp, hG, ty, hn, q⟩ := h
  cases rx
  obtain ⟨mA, J, _⟩ := ins_get I.hok hp
  obtain ⟨od, J, _⟩ := J.look
  show wpAny _ _ (compareOp .NotEq (.ref p) u) _ _ _
  unfold compareOp
  have hu := hr.units
  refine k0_ne_K (by omega) I.kIn J (k0_ty_looks I ry ty) hn hn2 hs hf ho (k0_eq_run F hr.in1 hl hb I I.env0.in1 ry hG fun s' I' => ?_)
  exact ⟨b, rfl, .bl (!b), H, I', rfl, q⟩
end
end L2
namespace K0
open PySem PySem.Spec PyProof.Rows L2
theorem scEq : FnScope ["self", "other"] ["self", "other"] (defScope sEq) := ⟨rfl, rfl, rfl, by decide +kernel, rfl, by decide +kernel, by decide +kernel⟩
/-- what == answers -/
def GEq (K : PySem.W.Frag) (Cr : Addr) : Hp → Addr → V → Bool → Prop := fun H p x b => ∃ AR, RivAt Cr H p AR ∧ GoodRows (rowsOf AR) ∧ ((∃ q AR2, x = .ref q ∧ RivAt Cr H q AR2 ∧ GoodRows (rowsOf AR2) ∧ b = decide (rowsOf AR = rowsOf AR2)) ∨ ∃ t, TyX K H x t ∧ PySem.W.kitOne K t (.ref Cr) = some false ∧ b = false)
/-- what isinstance asks of River -/
structure Ri (K : PySem.W.Frag) (Cr : Addr) : Prop where
  ha : PySem.W.findIn K (.ref Cr) "__class__" = some (some (.builtin "object.__class__"))
  hn : PySem.W.specialIn K (.builtin "object.__class__") "__get__" = some (some (.builtin "getset_descriptor.__get__"))
  htk : PySem.W.takesIn K (.builtin "object.__class__") = some true
  hm : PySem.W.mroIn K Cr (.type "object") = some true
section
variable {P : Program} {w : World} {K : PySem.W.Frag} {mg : Str → Option Value} {base : Heap} {tS tM tL : Tok}
theorem eqv_rows : ∀ a b : List Row, PyData.eqvAll (a.map rowD) (b.map rowD) = decide (a = b)
  | [], [] => by simp only [List.map_nil, PyData.eqvAll]; rfl
  | [], _ :: _ => by simp only [List.map_nil, List.map_cons, PyData.eqvAll]; rfl
  | _ :: _, [] => by simp only [List.map_nil, List.map_cons, PyData.eqvAll]; rfl
  | (x1, x2) :: a, (y1, y2) :: b => by
    have ih := eqv_rows a b
    simp only [List.map_cons, PyData.eqvAll, rowD, PyData.eqv, Bool.and_true]
    rw [Bool.eq_iff_iff]
    have ih2 : PyData.eqvAll (a.map rowD) (b.map rowD) = true ↔ a = b := by rw [ih]; simp
    simp only [Bool.and_eq_true, beq_iff_eq, decide_eq_true_eq, List.cons.injEq, Prod.mk.injEq, ih2]
theorem canLay_rows : ∀ {a : List Row}, (∀ r ∈ a, Plain r.1 ∧ Plain r.2) → PyData.canLayAll0 (a.map rowD) = true
  | [], _ => by simp only [List.map_nil, PyData.canLayAll0]
  | r :: a, h => by
    have ih := canLay_rows fun z hz => h z (List.mem_cons_of_mem _ hz)
    obtain ⟨h1, h2⟩ := h r List.mem_cons_self
    simp only [List.map_cons, PyData.canLayAll0, ih, rowD, PyData.canLay0, plain_ok h1, plain_ok h2]
    rfl
theorem depth_rows : ∀ a : List Row, PyData.depthAll (a.map rowD) ≤ 1
  | [] => by simp only [List.map_nil, PyData.depthAll]; omega
  | r :: a => by
    have ih := depth_rows a
    simp only [List.map_cons, PyData.depthAll, rowD, PyData.depth]
    omega
theorem good_plain {R : List Row} (h : GoodRows R) : ∀ r ∈ R, Plain r.1 ∧ Plain r.2 := fun r hr => by
  have hk := h.row hr
  exact ⟨name_plain hk.a, name_plain hk.b⟩
theorem dp_rows {H : Hp} : ∀ {AR : List (Addr × Row)}, (∀ q ∈ AR, H q.1 = some (.tup [.str q.2.1, .str q.2.2])) → DpAll K H (AR.map fun q => V.ref q.1) ((rowsOf AR).map rowD)
  | [], _ => .nil
  | (a, r) :: AR, h => .cons (.tup (.inl (.inl (h (a, r) List.mem_cons_self))) (.cons (.str r.1) (.cons (.str r.2) .nil))) (dp_rows fun q hq => h q (List.mem_cons_of_mem _ hq))
theorem shaped_rows {R : List Row} (h : ∀ r ∈ R, Plain r.1 ∧ Plain r.2) : SeqAt.shaped (.tuple (R.map rowD)) = true ∧ SeqAt.shaped (.list (R.map rowD)) = true := by
  have h2 := depth_rows R
  have h3 : PyData.depthAll (R.map rowD) + 1 ≤ 64 := by omega
  constructor
  all_goals
    unfold SeqAt.shaped
    simp only [PyData.canLay0, PyData.depth, canLay_rows h, h3]
    rfl
theorem ok_eq {f Cr : Addr} {fd : FuncData} (F : FnM K "__eq__" "River.__eq__" sEq f fd) (T : Rv K mg Cr) (I : Ri K Cr) (hty : PySem.W.typeIn K (.ref Cr) = some (.type "type")) (B : Bl mg) : FnOk P w K mg base CX0 1 f fd ["self", "other"] (spHas (GEq K Cr)) := by
  refine F.ok scEq (fun vs H Q E h => ?_) (fun cdv A outer s H vs Q E hr h => ?_)
  · obtain ⟨p, x, b, rfl, _⟩ := h
    rfl
  · obtain ⟨p, x, b, rfl, ⟨AR, R, G, hx⟩, k⟩ := h
    have hu64 := hr.units
    refine ⟨_, PSs.nox (pss_one
      (ps_ret (pe_and (pe_callB call_isi (by rfl) B.isinstance (by decide +kernel) (pa_cons (pv 1) (pa_cons (pe_glob (v := .ref Cr) (by rfl) T.mgC rfl) pa_nil))) (pe_one (pe_cmpR (op_eqD hu64) (fldK (K := K) (pv 0) rfl) (fldK (K := K) (pv 1) rfl) (nomark _)))))), ?_⟩
    obtain ⟨dx, tw, tr, db, dc, da, du, o, h1, h2, h3, h4, h5, h6, h7, h8, h9⟩ := R.ex
    rcases hx with ⟨q, AR2, rfl, R2, G2, rfl⟩ | ⟨t, ht, kt, rfl⟩
    · obtain ⟨dx2, tw2, tr2, db2, dc2, da2, du2, o2, i1, i2, i3, i4, i5, i6, i7, i8, i9⟩ := R2.ex
      have kit : PySem.W.kitOne K (.ref Cr) (.ref Cr) = some true := by unfold PySem.W.kitOne; simp
      refine ⟨_, rfl, _, .ref Cr, .ref Cr, _, true, rfl, .own Cr, .base (.ins i1 T.cl I.ha I.hn I.htk I.hm), kit, true, rfl, iteT ?_⟩
      refine ⟨_, rfl, p, Cr, dx, _, _, rfl, h1, T.cl, T._rows, g7r _ _ _ _ _ _ _, _, rfl, q, Cr, dx2, _, _, rfl, i1, T.cl, T._rows, g7r _ _ _ _ _ _ _, ?_⟩
      refine ⟨.tuple ((rowsOf AR).map rowD), .tuple ((rowsOf AR2).map rowD), .tup (.inl (.inl h3)) (dp_rows h4), .tup (.inl (.inl i3)) (dp_rows i4), (shaped_rows (good_plain G)).1, (shaped_rows (good_plain G2)).1, ?_⟩
      have e : PyData.eqv (.tuple ((rowsOf AR).map rowD)) (.tuple ((rowsOf AR2).map rowD)) = decide (rowsOf AR = rowsOf AR2) := by
        simp only [PyData.eqv]
        exact eqv_rows _ _
      rw [e]
      exact k
    · refine ⟨_, rfl, x, .ref Cr, t, .ref Cr, false, rfl, .own Cr, ht, kt, false, rfl, iteF ?_⟩
      exact k
end
end K0
end
section
set_option Elab.async false
set_option linter.all false
set_option maxRecDepth 100000
set_option maxHeartbeats 2000000
namespace K0
open PySem PySem.Spec PyProof.Rows L2
section
variable {K : PySem.W.Frag}
def rrD (r : RRow) : PyData := .tuple [.str r.1, .str r.2.1, .str r.2.2]
theorem eqv_rr : ∀ a : List RRow, PyData.eqvAll (a.map rrD) (a.map rrD) = true
  | [] => by simp only [List.map_nil, PyData.eqvAll]
  | r :: a => by simp only [List.map_cons, PyData.eqvAll, rrD, PyData.eqv, beq_self_eq_true, eqv_rr a, Bool.and_self]
theorem canLay_rr : ∀ {a : List RRow}, (∀ r ∈ a, Plain r.1 ∧ Plain r.2.1 ∧ Plain r.2.2) → PyData.canLayAll0 (a.map rrD) = true
  | [], _ => by simp only [List.map_nil, PyData.canLayAll0]
  | r :: a, h => by
    have ih := canLay_rr fun z hz => h z (List.mem_cons_of_mem _ hz)
    obtain ⟨h1, h2, h3⟩ := h r List.mem_cons_self
    simp only [List.map_cons, PyData.canLayAll0, ih, rrD, PyData.canLay0, plain_ok h1, plain_ok h2, plain_ok h3]
    rfl
theorem depth_rr : ∀ a : List RRow, PyData.depthAll (a.map rrD) ≤ 1
  | [] => by simp only [List.map_nil, PyData.depthAll]; omega
  | r :: a => by
    have ih := depth_rr a
    simp only [List.map_cons, PyData.depthAll, rrD, PyData.depth]
    omega
theorem dp_rr {H : Hp} : ∀ {BR : List (Addr × RRow)}, (∀ q ∈ BR, H q.1 = some (.tup [.str q.2.1, .str q.2.2.1, .str q.2.2.2])) → DpAll K H (BR.map fun q => V.ref q.1) ((bOf BR).map rrD)
  | [], _ => .nil
  | (a, r) :: BR, h => .cons (.tup (.inl (.inl (h (a, r) List.mem_cons_self))) (.cons (.str r.1) (.cons (.str r.2.1) (.cons (.str r.2.2) .nil)))) (dp_rr fun q hq => h q (List.mem_cons_of_mem _ hq))
theorem shaped_rr {B : List RRow} (h : ∀ r ∈ B, Plain r.1 ∧ Plain r.2.1 ∧ Plain r.2.2) : SeqAt.shaped (.list (B.map rrD)) = true := by
  have h2 := depth_rr B
  have h3 : PyData.depthAll (B.map rrD) + 1 ≤ 64 := by omega
  unfold SeqAt.shaped
  simp only [PyData.canLay0, PyData.depth, canLay_rr h, h3]
  rfl
theorem rr_plain {R : List Row} {B : List RRow} (g : GoodRows R) (b : RtOk R B) : ∀ r ∈ B, Plain r.1 ∧ Plain r.2.1 ∧ Plain r.2.2 := fun r hr => by
  refine ⟨name_plain (b.ok r hr), plain_name g (b.inn r hr), ?_⟩
  rcases b.last r hr with e | e
  · rw [e]
    exact sea_plain
  · exact plain_name g (course_sub g (b.inn r hr) _ e)
end
/-! ### rights are equal, or not -/
abbrev sGEq : Stmt := inClass sRights 1
theorem scGEq : FnScope ["self", "other"] ["self", "other"] (defScope sGEq) := ⟨rfl, rfl, rfl, by decide +kernel, rfl, by decide +kernel, by decide +kernel⟩
theorem eqv_rr2 : ∀ a b : List RRow, PyData.eqvAll (a.map rrD) (b.map rrD) = decide (a = b)
  | [], [] => by simp only [List.map_nil, PyData.eqvAll]; rfl
  | [], _ :: _ => by simp only [List.map_nil, List.map_cons, PyData.eqvAll]; rfl
  | _ :: _, [] => by simp only [List.map_nil, List.map_cons, PyData.eqvAll]; rfl
  | (x1, x2, x3) :: a, (y1, y2, y3) :: b => by
    have ih := eqv_rr2 a b
    simp only [List.map_cons, PyData.eqvAll, rrD, PyData.eqv, Bool.and_true]
    rw [Bool.eq_iff_iff]
    have ih2 : PyData.eqvAll (a.map rrD) (b.map rrD) = true ↔ a = b := by rw [ih]; simp
    simp only [Bool.and_eq_true, beq_iff_eq, decide_eq_true_eq, List.cons.injEq, Prod.mk.injEq, ih2]
theorem shaped_rrT {B : List RRow} (h : ∀ r ∈ B, Plain r.1 ∧ Plain r.2.1 ∧ Plain r.2.2) : SeqAt.shaped (.tuple (B.map rrD)) = true := by
  have h2 := depth_rr B
  have h3 : PyData.depthAll (B.map rrD) + 1 ≤ 64 := by omega
  unfold SeqAt.shaped
  simp only [PyData.canLay0, PyData.depth, canLay_rr h, h3]
  rfl
def GGEq (K : PySem.W.Frag) (Cg Cr : Addr) : Hp → Addr → V → Bool → Prop := fun H p x b => ∃ q AR BR, RigOk Cg Cr H p q AR BR ∧ ((∃ p2 q2 AR2 BR2, x = .ref p2 ∧ RigOk Cg Cr H p2 q2 AR2 BR2 ∧ b = (decide (rowsOf AR = rowsOf AR2) && decide (bOf BR = bOf BR2))) ∨ ∃ t, TyX K H x t ∧ PySem.W.kitOne K t (.ref Cg) = some false ∧ b = false)
/-- River's own == -/
structure Rq (K : PySem.W.Frag) (Cr : Addr) : Prop where
  ex : ∃ f fd, FnM K "__eq__" "River.__eq__" sEq f fd ∧ PySem.W.findIn K (.ref Cr) "__eq__" = some (some (.ref f)) ∧ PySem.W.isFn K (.ref f) = true
  nf : PySem.W.notFirst K Cr (.ref Cr) = true
  I : Ri K Cr
  hty : PySem.W.typeIn K (.ref Cr) = some (.type "type")
section
variable {P : Program} {w : World} {K : PySem.W.Frag} {mg : Str → Option Value} {base : Heap} {tS tM tL : Tok}
theorem ok_geq {f Cg Cr : Addr} {fd : FuncData} (F : FnM K "__eq__" "Rights.__eq__" sGEq f fd) (TG : Rg K mg Cg) (I : Ri K Cg) (hty : PySem.W.typeIn K (.ref Cg) = some (.type "type")) (T : Rv K mg Cr) (J : Rq K Cr) (B : Bl mg) : FnOk P w K mg base CX0 2 f fd ["self", "other"] (spHas (GGEq K Cg Cr)) := by
  obtain ⟨fE, fdE, FE, hs, hf⟩ := J.ex
  have GE : FnOk P w K mg base CX0 1 fE fdE ["self", "other"] (spHas (GEq K Cr)) := ok_eq FE T J.I J.hty B
  have bE : Binds K fdE ["self", "other"] [] := FE.bindsN fun _ _ _ _ _ _ us hl => match us, hl with | [_, _], _ => rfl
  refine F.ok scGEq (fun vs H Q E h => ?_) (fun cdv A outer s H vs Q E hr h => ?_)
  · obtain ⟨p, x, b, rfl, _⟩ := h
    rfl
  · obtain ⟨p, x, b, rfl, ⟨q, AR, BR, R, hx⟩, k⟩ := h
    have hu64 := hr.units
    refine ⟨_, PSs.nox (pss_one
      (ps_ret (pe_and (pe_callB call_isi (by rfl) B.isinstance (by decide +kernel) (pa_cons (pv 1) (pa_cons (pe_glob (v := .ref Cg) (by rfl) TG.mgC rfl) pa_nil))) (pe_and (pe_cmpR (k0_eq_own GE hr rfl hs hf bE) (fldK (K := K) (pv 0) rfl) (fldK (K := K) (pv 1) rfl) (nomark _)) (pe_one (pe_cmpR (op_eqD hu64) (fldK (K := K) (pv 0) rfl) (fldK (K := K) (pv 1) rfl) (nomark _))))))), ?_⟩
    obtain ⟨dx, tn, tr, dw, dl, dp, h1, h2, h3, h4, h5, h6, h7, h8⟩ := id R.at_.ex
    rcases hx with ⟨p2, q2, AR2, BR2, rfl, R2, rfl⟩ | ⟨t, ht, kt, rfl⟩
    · obtain ⟨dx2, tn2, tr2, dw2, dl2, dp2, i1, i2, i3, i4, i5, i6, i7, i8⟩ := id R2.at_.ex
      obtain ⟨dr, tw, trr, db, dc, da, du, o, j1, _⟩ := id h2.ex
      obtain ⟨dr2, tw2, trr2, db2, dc2, da2, du2, o2, l1, _⟩ := id i2.ex
      have kit : PySem.W.kitOne K (.ref Cg) (.ref Cg) = some true := by unfold PySem.W.kitOne; simp
      refine ⟨_, rfl, _, .ref Cg, .ref Cg, _, true, rfl, .own Cg, .base (.ins i1 TG.cl I.ha I.hn I.htk I.hm), kit, true, rfl, iteT ?_⟩
      refine ⟨_, rfl, p, Cg, dx, _, _, rfl, h1, TG.cl, TG.river, rr6r _ _ _ _ _ _, _, rfl, p2, Cg, dx2, _, _, rfl, i1, TG.cl, TG.river, rr6r _ _ _ _ _ _, ?_⟩
      refine ⟨q, dr, _, decide (rowsOf AR = rowsOf AR2), .ref Cr, rfl, j1, ⟨AR, h2, R.g, .inl ⟨q2, AR2, rfl, i2, R2.g, rfl⟩⟩, .base (.ins l1 T.cl J.I.ha J.I.hn J.I.htk J.I.hm), J.nf, ?_⟩
      rw [if_neg Bool.false_ne_true]
      by_cases er : rowsOf AR = rowsOf AR2
      · rw [decide_eq_true er, Bool.true_and] at k
        rw [decide_eq_true er]
        refine ⟨_, rfl, iteT ?_⟩
        refine ⟨_, rfl, p, Cg, dx, _, _, rfl, h1, TG.cl, TG._rows, rr6o _ _ _ _ _ _, _, rfl, p2, Cg, dx2, _, _, rfl, i1, TG.cl, TG._rows, rr6o _ _ _ _ _ _, ?_⟩
        refine ⟨.tuple ((bOf BR).map rrD), .tuple ((bOf BR2).map rrD), .tup (.inl (.inl h4)) (dp_rr h5), .tup (.inl (.inl i4)) (dp_rr i5), shaped_rrT (rr_plain R.g R.b), shaped_rrT (rr_plain R2.g R2.b), ?_⟩
        have e : PyData.eqv (.tuple ((bOf BR).map rrD)) (.tuple ((bOf BR2).map rrD)) = decide (bOf BR = bOf BR2) := by
          simp only [PyData.eqv]
          exact eqv_rr2 _ _
        rw [e]
        exact k
      · rw [decide_eq_false er, Bool.false_and] at k
        rw [decide_eq_false er]
        exact ⟨_, rfl, iteF k⟩
    · refine ⟨_, rfl, x, .ref Cg, t, .ref Cg, false, rfl, .own Cg, ht, kt, false, rfl, iteF ?_⟩
      exact k
end
end K0
end
section
set_option Elab.async false
set_option linter.all false
set_option maxRecDepth 100000
set_option maxHeartbeats 4000000
namespace L2
open PySem PySem.Spec PyProof.Rows
theorem eqOwnK {X : Cx} {K : PySem.W.Frag} {k : Nat} {C f : Addr} {fd : FuncData} {ps : List Str} {G : Hp → Addr → V → Bool → Prop} (F : FnOk X.prog X.w X.K X.mg X.base CX0 k f fd ps (spHas G)) (hr : Room k X.A) (hl : ps.length = 2)
    (hs : PySem.W.findIn X.K (.ref C) "__eq__" = some (some (.ref f))) (hf : PySem.W.isFn X.K (.ref f) = true) (hb : Binds X.K fd ps []) (e : X.K = K := by rfl) : OpR X (compareOp .Eq) (rOwnEq K C false G) := e ▸ k0_eq_own F hr hl hs hf hb
theorem neOwnK {X : Cx} {K : PySem.W.Frag} {k : Nat} {C f : Addr} {fd : FuncData} {ps : List Str} {G : Hp → Addr → V → Bool → Prop} (F : FnOk X.prog X.w X.K X.mg X.base CX0 k f fd ps (spHas G)) (hr : Room (k + 1) X.A) (hl : ps.length = 2)
    (hs : PySem.W.findIn X.K (.ref C) "__eq__" = some (some (.ref f))) (hn2 : PySem.W.findIn X.K (.ref C) "__ne__" = some (some (.builtin "object.__ne__"))) (ho : PySem.W.mroIn X.K C (.type "object") = some true)
    (hf : PySem.W.isFn X.K (.ref f) = true) (hb : Binds X.K fd ps []) (e : X.K = K := by rfl) : OpR X (compareOp .NotEq) (rOwnEq K C true G) := e ▸ k0_ne_own F hr hl hs hn2 ho hf hb
end L2
end
section
set_option Elab.async false
set_option linter.all false
set_option maxRecDepth 100000
set_option maxHeartbeats 4000000
namespace K0
open PySem PySem.Spec PyProof.Rows L2 TL
/-! ### good rows have no fault -/
theorem rows_ok {R : List Row} (g : GoodRows R) : RowsOk R := ⟨fun r hr => ⟨(row_names g hr).1, (row_names g hr).2, g.nm.sea _ (List.mem_map_of_mem (f := (·.1)) hr)⟩, g.nm.nd⟩
theorem wrF_of {R : List Row} (g : GoodRows R) : wrF (R.map rowD) = none := by
  have h1 := g.one
  have h2 := g.most
  refine wrF_good (rows_ok g) (by omega) (fun j hj => ?_) fun j hj => ?_
  · rintro ⟨r, hr, a, b⟩
    obtain ⟨rk, hk⟩ := g.rank
    rcases hk r (List.mem_of_getElem? hr) with e | ⟨e, _⟩
    · exact a e
    · exact b e
  · rintro ⟨r, hr, a⟩
    obtain ⟨m, c⟩ := course_is g (List.mem_map_of_mem (f := (·.1)) (List.mem_of_getElem? hr))
    have := itr_stay (rows_ok g) c.sea (R.length - m)
    rw [show m + (R.length - m) = R.length by have := c.most; omega] at this
    exact a this
end K0
end
section
set_option Elab.async false
set_option linter.all false
set_option maxRecDepth 100000
set_option maxHeartbeats 2000000
namespace K0
open PySem PySem.Spec PyProof.Rows L2 TL
/-! ### what is due equals itself -/
theorem eqv_rest : ∀ ls : List Str, PyData.eqvAll (ls.map restD) (ls.map restD) = true
  | [] => by simp only [List.map_nil, PyData.eqvAll]
  | l :: r => by
    simp only [List.map_cons, PyData.eqvAll, restD, PyData.eqv, eqv_strs, eqv_rest r, Bool.and_self]
theorem eqv_two (s : Str) (i : Int) : PyData.eqv (.tuple [.str s, .int i]) (.tuple [.str s, .int i]) = true := by
  simp only [PyData.eqv, PyData.eqvAll, beq_self_eq_true, Bool.and_self]
theorem due_is (ls : List Str) : (∃ s i, Plain s ∧ (tl s).length ≤ 90 ∧ dueD ls = .tuple [.str s, .int i]) ∨ ((∀ z ∈ ls, isLn z = true) ∧ dueD ls = .tuple [.str "rows", .list (sortD "weir" ls), .list (sortD "right" ls)]) := by
  rcases firstP_is (P := badLn ls) (n := ls.length) with ⟨e, hn⟩ | ⟨i, _, e, _⟩
  · have good : ∀ z ∈ ls, isLn z = true := fun z hz => by
      obtain ⟨j, hj⟩ := List.getElem?_of_mem hz
      cases h : isLn z with
      | true => rfl
      | false => exact absurd ⟨z, hj, h⟩ (hn j (List.getElem?_eq_some_iff.mp hj).1)
    unfold dueD
    rw [e]
    dsimp only
    cases wrD (.list (sortD "weir" ls)) with
    | some i => exact .inl ⟨"river", i, plain_lit (by decide +kernel), by decide +kernel, rfl⟩
    | none =>
      dsimp only
      cases wrGD ((sortD "weir" ls).map unrow) (.list (sortD "right" ls)) with
      | some i => exact .inl ⟨"rights", i, plain_lit (by decide +kernel), by decide +kernel, rfl⟩
      | none => exact .inr ⟨good, rfl⟩
  · unfold dueD
    rw [e]
    exact .inl ⟨"text", i, plain_lit (by decide +kernel), by decide +kernel, rfl⟩
theorem due_self (ls : List Str) : PyData.eqv (dueD ls) (dueD ls) = true := by
  rcases due_is ls with ⟨s, i, _, _, e⟩ | ⟨_, e⟩
  · rw [e, eqv_two]
  · rw [e]
    unfold sortD
    simp only [PyData.eqv, PyData.eqvAll, eqv_rest, beq_self_eq_true, Bool.and_self]
theorem due_shaped {ls : List Str} (hl : ls.length ≤ 90) : SeqAt.shaped (dueD ls) = true := by
  rcases due_is ls with ⟨s, i, p, n, e⟩ | ⟨good, e⟩
  · rw [e]
    refine (Fit.tup (m := 90) (k := 2) _ (fun d hd => ?_) (by show 2 ≤ 90; omega)).shaped (by omega)
    rcases List.mem_cons.mp hd with rfl | hd
    · exact .str _ p n
    · rw [List.mem_singleton.mp hd]
      exact .int _
  · rw [e]
    refine (Fit.tup (m := 90) (k := 2) _ (fun d hd => ?_) (by show 3 ≤ 90; omega)).shaped (by omega)
    have h1 := Nat.le_trans (sort_len "weir" ls) hl
    have h2 := Nat.le_trans (sort_len "right" ls) hl
    rcases List.mem_cons.mp hd with rfl | hd
    · exact .str _ (plain_lit (by decide +kernel)) (by decide +kernel)
    rcases List.mem_cons.mp hd with rfl | hd
    · exact .lst _ (sort_fit good) h1
    · rw [List.mem_singleton.mp hd]
      exact .lst _ (sort_fit good) h2
end K0
end
section
set_option Elab.async false
set_option linter.all false
set_option maxRecDepth 100000
set_option maxHeartbeats 2000000
namespace K0
open PySem PySem.Spec PyProof.Rows L2 TL
/-! ### a line feed behind or before lines -/
theorem joinL_end (s : Nat) : ∀ {ps : List (List Nat)}, ps ≠ [] → joinL [s] ps ++ [s] = joinL [s] (ps ++ [[]])
  | [], h => absurd rfl h
  | [p], _ => by
    show p ++ [s] = p ++ ([s] ++ joinL [s] [[]])
    simp [joinL]
  | p :: q :: r, _ => by
    have ih := joinL_end s (ps := q :: r) (by simp)
    show (p ++ ([s] ++ joinL [s] (q :: r))) ++ [s] = p ++ ([s] ++ joinL [s] ((q :: r) ++ [[]]))
    rw [← ih]
    simp only [List.append_assoc]
theorem join_end {ls : List Str} (h : ls ≠ []) : Txt.join "\n" ls ++ "\n" = Txt.join "\n" (ls ++ [("" : Str)]) := by
  refine ext_tl ?_
  rw [tl_append, join_eq, join_eq, tl_join, tl_join, tl_nl, joinL_end 10 (fun e => h (List.map_eq_nil_iff.mp e)), List.map_append]
  rfl
theorem join_beg {ls : List Str} (h : ls ≠ []) : "\n" ++ Txt.join "\n" ls = Txt.join "\n" (("" : Str) :: ls) := by
  refine ext_tl ?_
  rw [tl_append, join_eq, join_eq, tl_join, tl_join, tl_nl]
  cases ls with
  | nil => exact absurd rfl h
  | cons a r => rfl
theorem join_none : ("" : Str) = Txt.join "\n" [("" : Str)] := by
  refine ext_tl ?_
  rw [join_eq, tl_join]
  rfl
theorem empty_noLn : isLn "" = false := by
  have : wOf "" = [("" : Str)] := by decide +kernel
  unfold isLn
  rw [this]
  exact isW_no (m := 0) (by decide) (by decide +kernel)
theorem empty_ln1 : Ln1 "" := ⟨plain_lit rfl, by decide +kernel, by decide +kernel⟩
theorem lns_end {ls : List Str} (h : Lns ls) (hl : ls.length ≤ 80) : Lns (ls ++ [("" : Str)]) := ⟨by simp, by rw [List.length_append, List.length_singleton]; omega, fun l hl => by
  rcases List.mem_append.mp hl with hl | hl
  · exact h.ok l hl
  · rw [List.mem_singleton.mp hl]; exact empty_ln1⟩
theorem lns_beg {ls : List Str} (h : Lns ls) (hl : ls.length ≤ 80) : Lns (("" : Str) :: ls) := ⟨by simp, by rw [List.length_cons]; omega, fun l hl => by
  rcases List.mem_cons.mp hl with rfl | hl
  · exact empty_ln1
  · exact h.ok l hl⟩
theorem lns_none : Lns [("" : Str)] := ⟨by simp, by decide, fun l hl => by rw [List.mem_singleton.mp hl]; exact empty_ln1⟩
theorem due_end {ls : List Str} (good : ∀ z ∈ ls, isLn z = true) : dueD (ls ++ [("" : Str)]) = .tuple [.str "text", .int (ls.length : Int)] :=
  due_text (l := "") (by simp) empty_noLn fun z hz => good z (by simpa using hz)
theorem due_beg (ls : List Str) : dueD (("" : Str) :: ls) = .tuple [.str "text", .int 0] :=
  due_text (i := 0) (l := "") rfl empty_noLn fun z hz => by cases hz
end K0
end
section
set_option Elab.async false
set_option linter.all false
set_option maxRecDepth 100000
set_option maxHeartbeats 8000000
namespace K0
open PySem PySem.Spec PyProof.Rows L2 TL
/-! ### a chart is read, written, refused as its lines say -/
abbrev scLChart_N : List Str := ["_law_bag_here", "_law_rows", "_law_rights_here", "_law_lines_here", "_law_told_here", "_law_whole", "_law_turn", "_law_spoilt_here", "_law_text", "_law_row", "_law_weir", "_law_below"]
abbrev scLChart_S : Stmt := sLChart
theorem scLChart : FnScope scLChart_N ["_law_bag_here", "_law_rows", "_law_rights_here"] (defScope sLChart) := ⟨rfl, rfl, rfl, by decide +kernel, rfl, by decide +kernel, by decide +kernel⟩
theorem trip_inj : ∀ {a b : List RRow}, a.map tripD = b.map tripD → a = b
  | [], [], _ => rfl
  | [], _ :: _, h => by cases h
  | _ :: _, [], h => by cases h
  | x :: a, y :: b, h => by
    rw [List.map_cons, List.map_cons] at h
    obtain ⟨h1, h2⟩ := List.cons.inj h
    have ih := trip_inj h2
    unfold tripD at h1
    injection h1 with h1
    obtain ⟨x1, x2, x3⟩ := x
    obtain ⟨y1, y2, y3⟩ := y
    simp only [List.cons.injEq, PyData.str.injEq, and_true] at h1
    obtain ⟨e1, e2, e3⟩ := h1
    subst e1
    subst e2
    subst e3
    rw [ih]
theorem fit_row {r : Row} (h : NameOk r.1 ∧ NameOk r.2) : Fit 41 1 (rowD r) := by
  refine .tup _ (fun d hd => ?_) (by show 2 ≤ 41; omega)
  rcases List.mem_cons.mp hd with rfl | hd
  · exact .str _ (name_plain h.1) (by have := h.1.most; omega)
  · rw [List.mem_singleton.mp hd]
    exact .str _ (name_plain h.2) (by have := h.2.most; omega)
theorem rows_shaped {R : List Row} (g : GoodRows R) : SeqAt.shaped (.list (R.map rowD)) = true := by
  refine (Fit.lst (m := 41) (k := 1) _ (fun d hd => ?_) (by rw [List.length_map]; have := g.most; omega)).shaped (by omega)
  obtain ⟨r, hr, rfl⟩ := List.mem_map.mp hd
  exact fit_row (row_names g hr)
theorem fit_trip3 {r : RRow} (h : NameOk r.1 ∧ NameOk r.2.1 ∧ NameOk r.2.2) : Fit 41 1 (tripD r) := by
  refine .tup _ (fun d hd => ?_) (by show 3 ≤ 41; omega)
  rcases List.mem_cons.mp hd with rfl | hd
  · exact .str _ (name_plain h.1) (by have := h.1.most; omega)
  rcases List.mem_cons.mp hd with rfl | hd
  · exact .str _ (name_plain h.2.1) (by have := h.2.1.most; omega)
  · rw [List.mem_singleton.mp hd]
    exact .str _ (name_plain h.2.2) (by have := h.2.2.most; omega)
theorem trips_shaped {R : List Row} (g : GoodRows R) {B : List RRow} (b : RtOk R B) : SeqAt.shaped (.list (B.map tripD)) = true := by
  refine (Fit.lst (m := 41) (k := 1) _ (fun d hd => ?_) (by rw [List.length_map]; have := b.most; omega)).shaped (by omega)
  obtain ⟨r, hr, rfl⟩ := List.mem_map.mp hd
  exact fit_trip3 (trip_names g b hr)
theorem eqv_trips (B : List RRow) : PyData.eqv (.list (B.map tripD)) (.list (B.map tripD)) = true := by
  simp only [PyData.eqv]
  exact eqv_rr B
theorem eqv_rowsL (R : List Row) : PyData.eqv (.list (R.map rowD)) (.list (R.map rowD)) = true := by
  simp only [PyData.eqv, eqv_rows, decide_true]
def spLChart : Sp := fun vs H Q _ => ∃ (b l r : Addr) (AR : List (Addr × Row)) (BR : List (Addr × RRow)), vs = [.ref b, .ref l, .ref r] ∧ BagAt H b ∧ l ≠ b ∧ r ≠ b ∧ RowsAt H l AR ∧ BRows H r BR ∧ GoodRows (rowsOf AR) ∧ RtOk (rowsOf AR) (bOf BR) ∧ ∀ H', Upto b H H' → BagAt H' b → Q (.bl true) H'
section
variable {P : Program} {w : World} {K : PySem.W.Frag} {mg : Str → Option Value} {base : Heap} {tS tM tL : Tok}
theorem ok_lchart {f f1 f2 f3 f4 f5 f6 f7 f8 fR fS fQ fE Cr Cg Cn Cm Ct : Addr} {fd d1 d2 d3 d4 d5 d6 d7 d8 fdR fdS fdQ : FuncData} (F : FnP K "_law_chart_right" sLChart f fd)
    (F_law_lines : FnP K "_law_lines" sLLines f1 d1) (g_law_lines : mg "_law_lines" = some (.ref f1)) (G_law_lines : FnOk P w K mg base CX0 2 f1 d1 ["_law_bag_here", "_law_rows", "_law_rights_here"] spLLines)
    (Fread_chart : FnP K "read_chart" sReadChart f2 d2) (gread_chart : mg "read_chart" = some (.ref f2)) (Gread_chart : FnOk P w K mg base (L2.CX P w) 7 f2 d2 ["text"] (spRead Cg Cr Cn Cm Ct))
    (Fwrite_chart : FnP K "write_chart" sWriteChart f3 d3) (gwrite_chart : mg "write_chart" = some (.ref f3)) (Gwrite_chart : FnOk P w K mg base CX0 2 f3 d3 ["rights"] (spWrite Cg Cr))
    (Fchart_table : FnP K "chart_table" sChartTable f4 d4) (gchart_table : mg "chart_table" = some (.ref f4)) (Gchart_table : FnOk P w K mg base CX0 5 f4 d4 ["rights"] (spCTable Cg Cr))
    (F_law_table : FnP K "_law_table" sLTable f5 d5) (g_law_table : mg "_law_table" = some (.ref f5)) (G_law_table : FnOk P w K mg base CX0 3 f5 d5 ["_law_rows", "_law_rights_here"] spLTable)
    (F_law_spoilt : FnP K "_law_spoilt" sLSpoilt f6 d6) (g_law_spoilt : mg "_law_spoilt" = some (.ref f6)) (G_law_spoilt : FnOk P w K mg base CX0 4 f6 d6 ["_law_bag_here", "_law_lines_here", "_law_weirs"] spLSpoilt)
    (F_law_told : FnP K "_law_told" sLTold f7 d7) (g_law_told : mg "_law_told" = some (.ref f7)) (G_law_told : FnOk P w K mg base CX0 8 f7 d7 ["_law_text"] spLTold)
    (F_law_due : FnP K "_law_due" sLDue f8 d8) (g_law_due : mg "_law_due" = some (.ref f8)) (G_law_due : FnOk P w K mg base CX0 4 f8 d8 ["_law_lines_here"] spLDue)
    (FR : FnM K "rows" "River.rows" sRows fR fdR) (Mrows : Meth K Cr "rows" fR) (FS : FnM K "rows" "Rights.rows" sGRows fS fdS) (MrowsG : Meth K Cg "rows" fS)
    (FQ : FnM K "__eq__" "Rights.__eq__" sGEq fQ fdQ) (hsQ : PySem.W.findIn K (.ref Cg) "__eq__" = some (some (.ref fQ))) (hnQ : PySem.W.findIn K (.ref Cg) "__ne__" = some (some (.builtin "object.__ne__"))) (hfQ : PySem.W.isFn K (.ref fQ) = true) (IG : Ri K Cg) (htyG : PySem.W.typeIn K (.ref Cg) = some (.type "type")) (nfG : PySem.W.notFirst K Cg (.ref Cg) = true)
    (T : Rv K mg Cr) (TG : Rg K mg Cg) (J : Rq K Cr) (B : Bl mg) : FnOk P w K mg base CX0 9 f fd ["_law_bag_here", "_law_rows", "_law_rights_here"] spLChart := by
  have b_law_lines : Binds K d1 ["_law_bag_here", "_law_rows", "_law_rights_here"] [] := F_law_lines.bindsN fun _ _ _ _ _ _ us hl => match us, hl with | [_, _, _], _ => rfl
  have bread_chart : Binds K d2 ["text"] [] := Fread_chart.bindsN fun _ _ _ _ _ _ us hl => match us, hl with | [_], _ => rfl
  have bwrite_chart : Binds K d3 ["rights"] [] := Fwrite_chart.bindsN fun _ _ _ _ _ _ us hl => match us, hl with | [_], _ => rfl
  have bchart_table : Binds K d4 ["rights"] [] := Fchart_table.bindsN fun _ _ _ _ _ _ us hl => match us, hl with | [_], _ => rfl
  have b_law_table : Binds K d5 ["_law_rows", "_law_rights_here"] [] := F_law_table.bindsN fun _ _ _ _ _ _ us hl => match us, hl with | [_, _], _ => rfl
  have b_law_spoilt : Binds K d6 ["_law_bag_here", "_law_lines_here", "_law_weirs"] [] := F_law_spoilt.bindsN fun _ _ _ _ _ _ us hl => match us, hl with | [_, _, _], _ => rfl
  have b_law_told : Binds K d7 ["_law_text"] [] := F_law_told.bindsN fun _ _ _ _ _ _ us hl => match us, hl with | [_], _ => rfl
  have b_law_due : Binds K d8 ["_law_lines_here"] [] := F_law_due.bindsN fun _ _ _ _ _ _ us hl => match us, hl with | [_], _ => rfl
  have Grows : FnOk P w K mg base CX0 1 fR fdR ["self"] (spRows Cr) := ok_rows FR T B
  have brows : Binds K fdR ["self"] [] := FR.bindsN fun _ _ _ _ _ _ us hl => match us, hl with | [_], _ => rfl
  have GrowsG : FnOk P w K mg base CX0 1 fS fdS ["self"] (spRowsG Cg Cr) := ok_rowsG FS TG B
  have browsG : Binds K fdS ["self"] [] := FS.bindsN fun _ _ _ _ _ _ us hl => match us, hl with | [_], _ => rfl
  have GQ : FnOk P w K mg base CX0 2 fQ fdQ ["self", "other"] (spHas (GGEq K Cg Cr)) := ok_geq FQ TG IG htyG T J B
  have bQ : Binds K fdQ ["self", "other"] [] := FQ.bindsN fun _ _ _ _ _ _ us hl => match us, hl with | [_, _], _ => rfl
  refine F.ok scLChart (fun vs H Q E h => ?_) (fun cdv A outer s H vs Q E hr h => ?_)
  · obtain ⟨b, l, r, AR, BR, rfl, _⟩ := h
    rfl
  · obtain ⟨b, l, r, AR, BR, rfl, hB, nlb, nrb, hR, hBR, g, rt, kk⟩ := h
    have hu64 := hr.units
    have hr3 : Room 3 _ := hr.mono (by decide)
    have hrrows : Room 1 _ := hr.mono (by decide)
    have hr_law_lines : Room 2 _ := hr.mono (by decide)
    have hrread_chart : Room 7 _ := hr.mono (by decide)
    have hrwrite_chart : Room 2 _ := hr.mono (by decide)
    have hrchart_table : Room 5 _ := hr.mono (by decide)
    have hr_law_table : Room 3 _ := hr3
    have hr_law_spoilt : Room 4 _ := hr.mono (by decide)
    have hr_law_told : Room 8 _ := hr
    have hr_law_due : Room 4 _ := hr.mono (by decide)
    refine ⟨_, PSs.nox (pss_cons
      (ps_set (i := 3) scLChart.nd rfl (Or.inl rfl) (pe_call G_law_lines hr_law_lines (by rfl) g_law_lines F_law_lines.kp b_law_lines .nil pass0 (pa_cons (pv 0) (pa_cons (pv 1) (pa_cons (pv 2) pa_nil)))))
      (pss_cons
      (ps_set (i := 4) scLChart.nd rfl (Or.inl rfl) (pe_call Gread_chart hrread_chart (by rfl) gread_chart Fread_chart.kp bread_chart .nil (passes_call takes0X (fun _ _ _ _ h => h)) (pa_cons (pe_join pe_str (pv 3)) pa_nil)))
      (pss_cons
      (ps_if (PW.pt (pw_or (pt_cmpR (op_neD hu64) (pe_meth0 (fldK (K := K) (pv 4) rfl) T.cl Mrows Grows hrrows brows .nil pass0) (pv 1) (nomark _)) (pw_or1 (pt_cmpR (op_neD hu64) (pe_meth0 (pv 4) TG.cl MrowsG GrowsG hrrows browsG .nil pass0) (pv 2) (nomark _))))) (pss_one
      (ps_ret pe_bl)) pss_nil)
      (pss_cons
      (ps_set (i := 5) scLChart.nd rfl (Or.inl rfl) (pe_joinK (K := K) rfl pe_str (pe_op op_cat (pe_lc (own := [("_law_row", 9)]) (g := gName 9) (tt := tYes) (by rfl) scLChart.nd (pi_list (pv 1)) (blkOk_by (own := [("_law_row", 9)]) (N := scLChart_N) (sc := defScope scLChart_S) (by decide +kernel)) (fun _ _ _ _ _ => (pg_name (i := 9) scLChart.nd rfl (Or.inl rfl))) (fun _ _ _ _ _ => pts_nil) (fun _ _ _ _ _ => (pe_op op_add_str pe_str (pe_joinK (K := K) rfl pe_str (pv 9))))) (pe_lc (own := [("_law_row", 9)]) (g := gName 9) (tt := tYes) (by rfl) scLChart.nd (pi_list (pv 2)) (blkOk_by (own := [("_law_row", 9)]) (N := scLChart_N) (sc := defScope scLChart_S) (by decide +kernel)) (fun _ _ _ _ _ => (pg_name (i := 9) scLChart.nd rfl (Or.inl rfl))) (fun _ _ _ _ _ => pts_nil) (fun _ _ _ _ _ => (pe_op op_add_str pe_str (pe_joinK (K := K) rfl pe_str (pv 9))))))))
      (pss_cons
      (ps_if (PW.pt (pw_or (pt_cmpR op_ne (pe_call Gwrite_chart hrwrite_chart (by rfl) gwrite_chart Fwrite_chart.kp bwrite_chart .nil pass0 (pa_cons (pv 4) pa_nil)) (pv 5) (nomark _)) (pw_or (pt_cmpR (neOwnK (K := K) GQ hr3 rfl hsQ hnQ IG.hm hfQ bQ) (pe_call Gread_chart hrread_chart (by rfl) gread_chart Fread_chart.kp bread_chart .nil (passes_call takes0X (fun _ _ _ _ h => h)) (pa_cons (pe_call Gwrite_chart hrwrite_chart (by rfl) gwrite_chart Fwrite_chart.kp bwrite_chart .nil pass0 (pa_cons (pv 4) pa_nil)) pa_nil)) (pv 4) (nomark _)) (pw_or1 (pt_cmpR op_ne (pe_call Gchart_table hrchart_table (by rfl) gchart_table Fchart_table.kp bchart_table .nil pass0 (pa_cons (pv 4) pa_nil)) (pe_call G_law_table hr_law_table (by rfl) g_law_table F_law_table.kp b_law_table .nil pass0 (pa_cons (pv 1) (pa_cons (pv 2) pa_nil))) (nomark _)))))) (pss_one
      (ps_ret pe_bl)) pss_nil)
      (pss_cons
      (ps_for PassesOwn.never rfl (pi_range1 (by rfl) B.range (pa_cons pe_int pa_nil)) (pg_name (i := 6) scLChart.nd rfl (Or.inl rfl)) (pss_cons
      (ps_set (i := 7) scLChart.nd rfl (Or.inl rfl) (pe_call G_law_spoilt hr_law_spoilt (by rfl) g_law_spoilt F_law_spoilt.kp b_law_spoilt .nil pass0 (pa_cons (pv 0) (pa_cons (pv 3) (pa_cons (pe_lc (own := [("_law_weir", 10), ("_law_below", 11)])  (tt := tYes) (by rfl) scLChart.nd (pi_list (pv 1)) (blkOk_by (own := [("_law_weir", 10), ("_law_below", 11)]) (N := scLChart_N) (sc := defScope scLChart_S) (by decide +kernel)) (fun _ _ _ _ _ => (tgK (K := K) (n := 2) (by rfl) (pgs_cons (pg_name (i := 10) scLChart.nd rfl (Or.inl rfl)) (pgs_cons (pg_name (i := 11) scLChart.nd rfl (Or.inl rfl)) pgs_nil)))) (fun _ _ _ _ _ => pts_nil) (fun _ _ _ _ _ => (pv 10))) pa_nil)))))
      (pss_cons
      (ps_set (i := 8) scLChart.nd rfl (Or.inl rfl) (pe_join pe_str (pv 7)))
      (pss_one
      (ps_if (pt_cmpR (op_neD hu64) (pe_call G_law_told hr_law_told (by rfl) g_law_told F_law_told.kp b_law_told .nil pass0 (pa_cons (pv 8) pa_nil)) (pe_call G_law_due hr_law_due (by rfl) g_law_due F_law_due.kp b_law_due .nil pass0 (pa_cons (pv 7) pa_nil)) (nomark _)) (pss_one
      (ps_ret pe_bl)) pss_nil)))))
      (pss_cons
      (ps_if (PW.pt (pw_or (pt_cmpR (op_neD hu64) (pe_call G_law_told hr_law_told (by rfl) g_law_told F_law_told.kp b_law_told .nil pass0 (pa_cons (pe_op op_add_str (pv 5) pe_str) pa_nil)) (pe_tup (pa_cons pe_str (pa_cons (pe_callB (lenK (K := K)) (by rfl) B.len PySem.boot_len (pa_cons (pv 3) pa_nil)) pa_nil))) (nomark _)) (pw_or1 (pt_cmpR (op_neD hu64) (pe_call G_law_told hr_law_told (by rfl) g_law_told F_law_told.kp b_law_told .nil pass0 (pa_cons pe_str pa_nil)) (pe_tup (pa_cons pe_str (pa_cons pe_int pa_nil))) (nomark _))))) (pss_one
      (ps_ret pe_bl)) pss_nil)
      (pss_one
      (ps_ret (pe_and (pe_cmpR (op_eqD hu64) (pe_call G_law_told hr_law_told (by rfl) g_law_told F_law_told.kp b_law_told .nil pass0 (pa_cons (pe_op op_add_str pe_str (pv 5)) pa_nil)) (pe_tup (pa_cons pe_str (pa_cons pe_int pa_nil))) (nomark _)) (pe_one (pe_cmpR (op_eqD hu64) (pe_call G_law_told hr_law_told (by rfl) g_law_told F_law_told.kp b_law_told .nil pass0 (pa_cons (pv 5) pa_nil)) (pe_tup (pa_cons pe_str (pa_cons (pv 1) (pa_cons (pv 2) pa_nil)))) (nomark _))))))))))))), ?_⟩
    have z40 : 40000 ≤ sizeLine := by rw [sizeLine_eq]; omega
    refine ⟨_, rfl, _, rfl, _, rfl, b, l, r, AR, BR, rfl, hB, nlb, nrb, hR, hBR, g, rt, fun H1 z ls u1 B1 nz nzb hz mx => ?_⟩
    have hls := mx.lns g rt
    have heach := mx.each g rt
    obtain ⟨c1, c80⟩ := mx.count g rt
    obtain ⟨eW, eG⟩ := mx.rows g rt
    have hgood : ∀ x ∈ ls, isLn x = true := fun x hx => (heach x hx).2
    have e1 : ("\n" : Str).length = 1 := by decide +kernel
    have lsum := sum_len (m := 300) (ls := ls) fun x hx => by rw [len_tl]; exact (heach x hx).1.most
    have hR1 : RowsAt H1 l AR := hR.upto hB nlb u1
    have hBR1 : BRows H1 r BR := ⟨u1 _ _ hBR.lst nrb, fun q hq => u1 _ _ (hBR.tup q hq) (bag_ne hB (hBR.tup q hq))⟩
    have readIt : ∀ (ks : List Str), Mixed (rowsOf AR) (bOf BR) ks → ∀ (HX : Hp) (Qx : VK), (∀ p q H' AR2 BR2, Same HX H' → RigOk Cg Cr H' p q AR2 BR2 → rowsOf AR2 = rowsOf AR → bOf BR2 = bOf BR → Qx (.ref p) H') → spRead Cg Cr Cn Cm Ct [.str (Txt.join "\n" ks)] HX Qx (fun _ _ _ => False) := fun ks mk HX Qx k => by
      obtain ⟨fW, fG⟩ := mk.rows g rt
      have fgood : ∀ x ∈ ks, isLn x = true := fun x hx => (mk.each g rt x hx).2
      refine ⟨ks, rfl, mk.lns g rt, fun i x hx hbad _ => ?_, fun _ => ⟨fun i hi => ?_, fun R hn g2 eR => ⟨fun i hi => ?_, fun B2 rt2 eB p q H' AR2 BR2 s2 G2 e1 e2 => ?_⟩⟩⟩
      · rw [fgood x (List.mem_of_getElem? hx)] at hbad
        cases hbad
      · have hi : wrF (sortD "weir" ks) = some i := hi
        rw [fW, wrF_of g] at hi
        cases hi
      · have eR2 : R = rowsOf AR := by
          have := congrArg (List.map unrow) (eR.symm.trans fW)
          rw [unrow_map, unrow_map] at this
          exact this
        subst eR2
        have hi : wrG (rowsOf AR) (sortD "right" ks) = some i := hi
        rw [fG, wrG_of g rt] at hi
        cases hi
      · have eR2 : R = rowsOf AR := by
          have := congrArg (List.map unrow) (eR.symm.trans fW)
          rw [unrow_map, unrow_map] at this
          exact this
        have eB2 := trip_inj (eB.symm.trans fG)
        exact k p q H' AR2 BR2 s2 G2 (e1.trans eR2) (e2.trans eB2)
    refine ⟨⟨_, rfl⟩, _, rfl, _, z, ls, rfl, rfl, .inl (.inl (.inl hz)), by rw [e1]; omega, ?_⟩
    refine readIt ls mx H1 (fun x H1 => gName 4 x (List.set (L2.start scLChart_N [V.ref b, V.ref l, V.ref r]) 3 (some (V.ref z))) H1 _) fun p q H2 AR2 BR2 s2 G2 eA2 eB2 => ?_
    obtain ⟨dx, tn, tr, dw, dl, dp, h1, h2, h3, h4, h5, h6, h7, h8⟩ := id G2.at_.ex
    obtain ⟨dxq, tw, tqr, db, dc, da, du, o, q1, q2, q3, q4, q5, q6, q7, q8, q9⟩ := id h2.ex
    refine ⟨_, rfl, p, Cg, dx, _, _, rfl, h1, TG.cl, TG.river, rr6r _ _ _ _ _ _, q, dxq, _, rfl, q1, rfl, q, AR2, rfl, h2, fun la nla => ?_⟩
    have sa := same_upd nla (o := .lst (AR2.map fun q => .ref q.1))
    have hla : (upd H2 la (.lst (AR2.map fun q => V.ref q.1))) la = some (.lst (AR2.map fun q => V.ref q.1)) := upd_same
    generalize upd H2 la (.lst (AR2.map fun q => V.ref q.1)) = H3 at sa hla
    have hR3 := (hR1.same s2).same sa
    have hBR3 := (hBR1.same s2).same sa
    have D1 : Dq H3 (.ref la) (.list ((rowsOf AR2).map rowD)) := .lst hla (rows_dq fun z hz => sa _ _ (q4 z hz))
    have D2 : Dq H3 (.ref l) (.list ((rowsOf AR).map rowD)) := .lst hR3.lst (rows_dq hR3.tup)
    rw [eA2] at D1
    refine ⟨_, rfl, _, _, D1.dp, D2.dp, rows_shaped g, rows_shaped g, _, rfl, ?_⟩
    rw [eqv_rowsL]
    refine iteF ?_
    refine ⟨_, rfl, p, dx, _, rfl, sa _ _ h1, rr6no _ _ _ _ _ _ (by decide +kernel), p, q, AR2, BR2, rfl, G2.same sa, fun lb nlb2 => ?_⟩
    have sb := same_upd nlb2 (o := .lst (BR2.map fun q => .ref q.1))
    have hlb : (upd H3 lb (.lst (BR2.map fun q => V.ref q.1))) lb = some (.lst (BR2.map fun q => V.ref q.1)) := upd_same
    have s24 := sa.trans sb
    generalize upd H3 lb (.lst (BR2.map fun q => V.ref q.1)) = H4 at sb hlb s24
    have hR4 := hR3.same sb
    have hBR4 := hBR3.same sb
    have D3 : Dq H4 (.ref lb) (.list ((bOf BR2).map tripD)) := .lst hlb (trips_dq fun z hz => s24 _ _ (h5 z hz))
    have D4 : Dq H4 (.ref r) (.list ((bOf BR).map tripD)) := .lst hBR4.lst (trips_dq hBR4.tup)
    rw [eB2] at D3
    refine ⟨_, rfl, _, _, D3.dp, D4.dp, trips_shaped g rt, trips_shaped g rt, _, rfl, ?_⟩
    rw [eqv_trips]
    refine iteF ?_
    have e1s : (" " : Str).length = 1 := by decide +kernel
    have e5 : ("weir " : Str).length = 5 := by decide +kernel
    have e6 : ("right " : Str).length = 6 := by decide +kernel
    have hAl : AR.length ≤ 40 := by have := g.most; rw [List.length_map] at this; exact this
    have hBl : BR.length ≤ 40 := by have := rt.most; rw [List.length_map] at this; exact this
    refine ⟨⟨_, rfl⟩, _, rfl, l, rfl, ⟨_, .inl (.inl hR4.lst)⟩, fun Da na => ?_⟩
    refine lc_listO (K := K) (a := l) (xs := AR.map fun q => V.ref q.1) na (fun j => (((rowsOf AR).take j).map weirL).map V.str) (by rw [List.take_zero]; rfl) (fun j _ => by rw [List.length_map, List.length_map, List.length_take, List.length_map]; exact small1000 (by omega)) (.inl (.inl hR4.lst)) ?_ ?_
    · intro j x HX Nx hx sX put skip
      have hi : j < AR.length := by
        have := (List.getElem?_eq_some_iff.mp hx).1
        rw [List.length_map] at this
        exact this
      have ex := row_at hx hi
      subst ex
      have nn := row_names g (List.mem_map_of_mem (f := (·.2)) (List.getElem_mem hi))
      refine ⟨rfl, ?_⟩
      refine tyes_i (iteT ?_)
      have wl := weir_words_len nn
      have ew := weirL_len g (List.mem_map_of_mem (f := (·.2)) (List.getElem_mem hi))
      rw [← weirL_add, len_cat] at ew
      refine ⟨⟨_, rfl⟩, _, rfl, _, AR[j].1, [AR[j].2.1, AR[j].2.2], rfl, rfl, .inr (.inl (.inl (sX _ _ (hR4.tup _ (List.getElem_mem hi))))), by rw [e1s]; simp only [List.length_cons, List.length_nil] at wl ⊢; omega, _, _, rfl, rfl, by omega, ?_⟩
      rw [weirL_add]
      refine put _ _ (.refl _) ?_
      have e : (rowsOf AR)[j]? = some AR[j].2 := by
        rw [List.getElem?_map, List.getElem?_eq_getElem hi]
        rfl
      rw [List.take_add_one, e, List.map_append, List.map_append]
      rfl
    intro H5 s5 hDa
    rw [List.length_map, ← List.length_map (f := (·.2)) (as := AR), List.take_length] at hDa
    have hBR5 := hBR4.same s5
    refine ⟨_, rfl, r, rfl, ⟨_, .inl (.inl hBR5.lst)⟩, fun Db nb => ?_⟩
    refine lc_listO (K := K) (a := r) (xs := BR.map fun q => V.ref q.1) nb (fun j => (((bOf BR).take j).map rightL).map V.str) (by rw [List.take_zero]; rfl) (fun j _ => by rw [List.length_map, List.length_map, List.length_take, List.length_map]; exact small1000 (by omega)) (.inl (.inl hBR5.lst)) ?_ ?_
    · intro j x HX Nx hx sX put skip
      rw [List.getElem?_map] at hx
      obtain ⟨bb, hb, rfl⟩ := Option.map_eq_some_iff.mp hx
      have hbm := List.mem_of_getElem? hb
      have nn := trip_names g rt (List.mem_map_of_mem (f := (·.2)) hbm)
      refine ⟨rfl, ?_⟩
      refine tyes_i (iteT ?_)
      have wl := right_words_len nn
      have ew := rightL_len g rt (List.mem_map_of_mem (f := (·.2)) hbm)
      rw [← rightL_add, len_cat] at ew
      refine ⟨⟨_, rfl⟩, _, rfl, _, bb.1, [bb.2.1, bb.2.2.1, bb.2.2.2], rfl, rfl, .inr (.inl (.inl (sX _ _ (hBR5.tup _ hbm)))), by rw [e1s]; simp only [List.length_cons, List.length_nil] at wl ⊢; omega, _, _, rfl, rfl, by omega, ?_⟩
      rw [rightL_add]
      refine put _ _ (.refl _) ?_
      have e : (bOf BR)[j]? = some bb.2 := by
        rw [List.getElem?_map, hb]
        rfl
      rw [List.take_add_one, e, List.map_append, List.map_append]
      rfl
    intro H6 s6 hDb
    rw [List.length_map, ← List.length_map (f := (·.2)) (as := BR), List.take_length] at hDb
    have hDa6 := s6 _ _ hDa
    have lR : ((rowsOf AR).map weirL).length ≤ 40 := by rw [List.length_map, List.length_map]; exact hAl
    have lB : ((bOf BR).map rightL).length ≤ 40 := by rw [List.length_map, List.length_map]; exact hBl
    refine ⟨Da, Db, _, _, rfl, rfl, hDa6, hDb, by simp only [List.length_map] at lR lB ⊢; omega, fun Dc nc => ?_⟩
    have s7 := same_upd nc (o := .lst (((rowsOf AR).map weirL).map V.str ++ ((bOf BR).map rightL).map V.str))
    have hDc : (upd H6 Dc (.lst (((rowsOf AR).map weirL).map V.str ++ ((bOf BR).map rightL).map V.str))) Dc = some (.lst ((chartL (rowsOf AR) (bOf BR)).map V.str)) := by
      rw [upd_same, chartL, List.map_append]
    have s27 := ((s24.trans s5).trans s6).trans s7
    generalize upd H6 Dc (.lst (((rowsOf AR).map weirL).map V.str ++ ((bOf BR).map rightL).map V.str)) = H7 at s7 hDc s27
    obtain ⟨k1, k2⟩ := chartL_len g rt
    have k3 := sum_len k1
    refine ⟨_, Dc, _, rfl, rfl, .inl (.inl (.inl hDc)), by rw [e1]; omega, ?_⟩
    have hG7 := G2.same s27
    refine ⟨_, rfl, p, q, AR2, BR2, rfl, hG7, fun H8 s8 => ?_⟩
    rw [eA2, eB2]
    refine ⟨_, rfl, rfl, _, rfl, ?_⟩
    refine iteNo (fun z => z rfl) ?_
    have hG8 := hG7.same s8
    refine ⟨_, rfl, p, q, AR2, BR2, rfl, hG8, fun H9 s9 => ?_⟩
    rw [eA2, eB2]
    refine readIt _ (chart_mixed _ _) H9 (fun x HX => tVar 4 _ HX fun y HY => rOwnEq K Cg true (GGEq K Cg Cr) x y HY _) fun p2 q2 H10 AR3 BR3 s10 G10 eA3 eB3 => ?_
    have hG10 := (hG8.same s9).same s10
    obtain ⟨dx3, tn3, tr3, dw3, dl3, dp3, m1, _⟩ := id G10.at_.ex
    obtain ⟨dx4, tn4, tr4, dw4, dl4, dp4, n1, _⟩ := id hG10.at_.ex
    refine ⟨_, rfl, p2, dx3, _, decide (rowsOf AR3 = rowsOf AR2) && decide (bOf BR3 = bOf BR2), .ref Cg, rfl, m1, ⟨q2, AR3, BR3, G10, .inl ⟨p, q, AR2, BR2, rfl, hG10, rfl⟩⟩, .base (.ins n1 TG.cl IG.ha IG.hn IG.htk IG.hm), nfG, _, rfl, ?_⟩
    rw [decide_eq_true (eA3.trans eA2.symm), decide_eq_true (eB3.trans eB2.symm)]
    refine iteF ?_
    refine ⟨_, rfl, p, q, AR2, BR2, rfl, hG10, fun H11 s11 => ?_⟩
    rw [eA2, eB2]
    have s711 := (s8.trans s9).trans (s10.trans s11)
    have hR11 := (((hR4.same s5).same s6).same s7).same s711
    have hBR11 := (((hBR4.same s5).same s6).same s7).same s711
    refine ⟨_, rfl, _, rfl, l, r, AR, BR, rfl, hR11, hBR11, g, rt, fun H12 s12 => ⟨rfl, _, rfl, ?_⟩⟩
    refine iteNo (fun z => z rfl) ?_
    have s112 := ((s2.trans s27).trans s711).trans s12
    have u12 : Upto b H H12 := u1.trans (.of s112)
    have B12 := bagS' B1 s112
    have hz12 := s112 _ _ hz
    have hR12 := hR11.same s12
    have hBR12 := hBR11.same s12
    have hlm : ∀ x ∈ ls, LnM 40 x := fun x hx => by
      have h1 := (heach x hx).1
      refine ⟨h1.pl, h1.nl, ?_⟩
      rw [← len_tl]
      rcases mx.mem x hx with hx | hx
      · obtain ⟨rr, hrr, rfl⟩ := List.mem_map.mp hx
        exact weirL_len g hrr
      · obtain ⟨rr, hrr, rfl⟩ := List.mem_map.mp hx
        exact rightL_len g rt hrr
    refine ⟨_, rfl, by omega, by omega, ?_⟩
    refine for_range (lo := 0) (n := 3) (fun k σ HX => ∃ (v6 v7 v8 : Option V), σ = [some (.ref b), some (.ref l), some (.ref r), some (.ref z), some (.ref p), some (.str (Txt.join "\n" (chartL (rowsOf AR) (bOf BR)))), v6, v7, v8, none, none, none] ∧ Upto b H12 HX ∧ BagAt HX b)
      ⟨_, _, _, rfl, .refl, B12⟩ ?_ ?_
    · rintro k σ HX hk ⟨v6, v7, v8, rfl, uX, BX⟩
      have hRX : RowsAt HX l AR := hR12.upto B12 nlb uX
      refine ⟨_, rfl, _, rfl, _, rfl, l, rfl, ⟨_, .inl (.inl hRX.lst)⟩, fun D nD => ?_⟩
      refine lc_listO (K := K) (a := l) (xs := AR.map fun q => V.ref q.1) nD (fun j => ((namesOf AR).take j).map V.str) (by rw [List.take_zero]; rfl) (fun j _ => by rw [List.length_map, List.length_take, nmlen]; exact small1000 (by omega)) (.inl (.inl hRX.lst)) ?_ ?_
      · intro j x HY Nx hx sY put skip
        have hi : j < AR.length := by
          have := (List.getElem?_eq_some_iff.mp hx).1
          rw [List.length_map] at this
          exact this
        have ex := row_at hx hi
        subst ex
        refine ⟨AR[j].1, _, rfl, .inl (.inl (sY _ _ (hRX.tup _ (List.getElem_mem hi)))), rfl, _, _, rfl, _, _, rfl, rfl, rfl, ?_⟩
        refine tyes_i (iteT ?_)
        refine ⟨_, rfl, ?_⟩
        refine put _ _ (.refl _) ?_
        have e : (namesOf AR)[j]? = some AR[j].2.1 := by
          show ((AR.map (·.2)).map (·.1))[j]? = _
          rw [List.getElem?_map, List.getElem?_map, List.getElem?_eq_getElem hi]
          rfl
        rw [List.take_add_one, e, List.map_append]
        rfl
      intro HY sY hDY
      have lnA : (namesOf AR).length = AR.length := by rw [List.length_map, List.length_map]
      rw [List.length_map, ← lnA, List.take_length] at hDY
      have BY := bagS' BX sY
      have nDb : D ≠ b := fun e => by
        obtain ⟨x, hx, _⟩ := BX
        rw [e, hx] at nD
        cases nD
      have hzY := sY _ _ (uX _ _ hz12 nzb)
      refine ⟨b, z, D, ls, namesOf AR, rfl, BY, nzb, nDb, hzY, hDY, (fun e => by have := g.one; rw [← List.length_map (f := (·.1))] at this; rw [show (rowsOf AR).map (·.1) = namesOf AR from rfl, e] at this; cases this), by omega, fun n hn => g.nm.ok n hn, c1, c80, hlm, fun H' zz ls' uZ BZ nzz hzz hls' => ?_⟩
      have lsum2 := sum_len (m := 300) (ls := ls') fun x hx => by rw [len_tl]; exact (hls'.ok x hx).most
      have l90 := hls'.most
      have uA : Upto b H12 H' := (uX.trans (.of sY)).trans uZ
      refine ⟨⟨_, rfl⟩, _, rfl, _, zz, ls', rfl, rfl, .inl (.inl (.inl hzz)), by rw [e1]; omega, ?_⟩
      refine ⟨_, rfl, ls', rfl, hls', fun v H'' s1 q1 => ?_⟩
      refine ⟨_, rfl, zz, ls', rfl, s1 _ _ hzz, hls', fun v2 H3' s2' q2 => ?_⟩
      refine ⟨_, _, (q1.same s2').dp, q2.dp, due_shaped l90, due_shaped l90, _, rfl, ?_⟩
      rw [due_self]
      refine iteF ?_
      exact ⟨_, _, _, rfl, uA.trans (.of (s1.trans s2')), bagS' BZ (s1.trans s2')⟩
    · rintro σ HX ⟨v6, v7, v8, rfl, uX, BX⟩
      have hzX := uX _ _ hz12 nzb
      have k2' : (chartL (rowsOf AR) (bOf BR)).length ≤ 80 := k2
      have hch := (chart_mixed (rowsOf AR) (bOf BR))
      have cgood : ∀ x ∈ chartL (rowsOf AR) (bOf BR), isLn x = true := fun x hx => (hch.each g rt x hx).2
      have clns := hch.lns g rt
      have cne := clns.one
      have clen : (chartL (rowsOf AR) (bOf BR)).length = ls.length := by rw [hch.len, mx.len]
      have cjl := joined_len clns
      have en : ("\n" : Str).length = 1 := by decide +kernel
      have sh1 : SeqAt.shaped (.tuple [.str "text", .int (ls.length : Int)]) = true := by
        rw [← clen, ← due_end cgood]
        exact due_shaped (lns_end clns k2').most
      have sh0 : SeqAt.shaped (.tuple [.str "text", .int 0]) = true := by
        rw [← due_beg []]
        exact due_shaped (by decide)
      refine ⟨_, rfl, _, _, rfl, rfl, by omega, _, congrArg (fun z => [V.str z]) (join_end cne), lns_end clns k2', fun v H13 s13 q13 => ?_⟩
      rw [due_end cgood, clen] at q13
      have hz13 := s13 _ _ hzX
      refine ⟨_, rfl, z, _, rfl, .inl (.inl (.inl hz13)), by show 2 ≤ sizeLine; omega, fun t nt => ?_⟩
      rw [List.length_map]
      have s14 := same_upd nt (o := .tup [.str "text", .int (ls.length : Int)])
      have d14 : Dq (upd H13 t (.tup [.str "text", .int (ls.length : Int)])) (.ref t) (.tuple [.str "text", .int (ls.length : Int)]) := .tup upd_same (.cons (.str _) (.cons (.int _) .nil))
      generalize upd H13 t (.tup [.str "text", .int (ls.length : Int)]) = H14 at s14 d14
      refine ⟨_, _, (q13.same s14).dp, d14.dp, sh1, sh1, _, rfl, ?_⟩
      rw [eqv_two]
      refine iteF ?_
      refine ⟨_, congrArg (fun z => [V.str z]) join_none, lns_none, fun v H15 s15 q15 => ?_⟩
      rw [due_beg []] at q15
      refine ⟨by show 2 ≤ sizeLine; omega, fun t nt => ?_⟩
      have s16 := same_upd nt (o := .tup [.str "text", .int 0])
      have d16 : Dq (upd H15 t (.tup [.str "text", .int 0])) (.ref t) (.tuple [.str "text", .int 0]) := .tup upd_same (.cons (.str _) (.cons (.int _) .nil))
      generalize upd H15 t (.tup [.str "text", .int 0]) = H16 at s16 d16
      refine ⟨_, _, (q15.same s16).dp, d16.dp, sh0, sh0, _, rfl, ?_⟩
      rw [eqv_two]
      refine iteF ?_
      refine ⟨_, rfl, _, _, rfl, rfl, by omega, _, congrArg (fun z => [V.str z]) (join_beg cne), lns_beg clns k2', fun v H17 s17 q17 => ?_⟩
      rw [due_beg] at q17
      refine ⟨by show 2 ≤ sizeLine; omega, fun t nt => ?_⟩
      have s18 := same_upd nt (o := .tup [.str "text", .int 0])
      have d18 : Dq (upd H17 t (.tup [.str "text", .int 0])) (.ref t) (.tuple [.str "text", .int 0]) := .tup upd_same (.cons (.str _) (.cons (.int _) .nil))
      generalize upd H17 t (.tup [.str "text", .int 0]) = H18 at s18 d18
      refine ⟨_, _, (q17.same s18).dp, d18.dp, sh0, sh0, ?_⟩
      rw [eqv_two]
      refine ⟨_, rfl, iteT ?_⟩
      obtain ⟨fW, fG⟩ := hch.rows g rt
      have hn : wrD (.list (sortD "weir" (chartL (rowsOf AR) (bOf BR)))) = none := by
        show wrF (sortD "weir" (chartL (rowsOf AR) (bOf BR))) = none
        rw [fW, wrF_of g]
      have shr : SeqAt.shaped (dueD (chartL (rowsOf AR) (bOf BR))) = true := due_shaped clns.most
      have eqr := due_self (chartL (rowsOf AR) (bOf BR))
      rw [due_rows cgood hn g fW rt fG] at shr eqr
      refine ⟨_, rfl, _, rfl, clns, fun v H19 s19 q19 => ?_⟩
      rw [due_rows cgood hn g fW rt fG] at q19
      have s1219 := ((s13.trans s14).trans (s15.trans s16)).trans ((s17.trans s18).trans s19)
      have hRX := (hR12.upto B12 nlb uX).same s1219
      have hBRX0 : BRows HX r BR := ⟨uX _ _ hBR12.lst nrb, fun q hq => uX _ _ (hBR12.tup q hq) (bag_ne B12 (hBR12.tup q hq))⟩
      have hBRX := hBRX0.same s1219
      refine ⟨_, rfl, _, rfl, by show 3 ≤ sizeLine; omega, fun t nt => ?_⟩
      have s20 := same_upd nt (o := .tup [.str "rows", .ref l, .ref r])
      have D2 : Dq (upd H19 t (.tup [.str "rows", .ref l, .ref r])) (.ref l) (.list ((rowsOf AR).map rowD)) := .lst (s20 _ _ hRX.lst) (rows_dq (hRX.same s20).tup)
      have D4 : Dq (upd H19 t (.tup [.str "rows", .ref l, .ref r])) (.ref r) (.list ((bOf BR).map tripD)) := .lst (s20 _ _ hBRX.lst) (trips_dq (hBRX.same s20).tup)
      have d20 : Dq (upd H19 t (.tup [.str "rows", .ref l, .ref r])) (.ref t) (.tuple [.str "rows", .list ((rowsOf AR).map rowD), .list ((bOf BR).map tripD)]) := .tup upd_same (.cons (.str _) (.cons D2 (.cons D4 .nil)))
      clear D2 D4
      generalize upd H19 t (.tup [.str "rows", .ref l, .ref r]) = H20 at s20 d20
      refine ⟨_, _, (q19.same s20).dp, d20.dp, shr, shr, ?_⟩
      rw [eqr]
      have s1220 := s1219.trans s20
      exact kk _ ((u12.trans uX).trans (.of s1220)) (bagS' BX s1220)
end
end K0
end
section
set_option Elab.async false
set_option linter.all false
set_option maxRecDepth 100000
set_option maxHeartbeats 8000000
namespace K0
open PySem PySem.Spec PyProof.Rows L2 TL
/-! ### the law -/
abbrev scLaw_N : List Str := ["_law_script", "_law_at", "_law_bag_here", "_law_rows", "_law_rights_here"]
abbrev scLaw_S : Stmt := sLaw
theorem scLaw : FnScope scLaw_N ["_law_script"] (defScope sLaw) := ⟨rfl, rfl, rfl, by decide +kernel, rfl, by decide +kernel, by decide +kernel⟩
def spLaw (K : PySem.W.Frag) : Sp := fun vs H Q _ => ∃ (a : Addr) (ns : List Int), vs = [.ref a] ∧ SqL K H a (ns.map V.int) ∧ ns.length ≤ 63 ∧ ∀ H', Q (.bl true) H'
def Gf (K : PySem.W.Frag) (mg : Str → Option Value) (x : Str) (st : Stmt) : Prop := ∃ f fd, FnP K x st f fd ∧ mg x = some (.ref f)
def Gd (K : PySem.W.Frag) (C : Addr) (x q : Str) (st : Stmt) : Prop := ∃ f fd, FnM K x q st f fd ∧ Meth K C x f
/-- all functions of the text -/
structure All (P : Program) (w : World) (K : PySem.W.Frag) (mg : Str → Option Value) (base : Heap) (tS tM tL tW : Tok) (Cg Cr Cn Cm Ct Ce : Addr) : Prop where
  B : Bl mg
  C : Gc mg tS tM tL
  T : Rv K mg Cr
  TG : Rg K mg Cg
  made : ∃ f fd, FnM K "__init__" "River.__init__" sInit f fd ∧ Mk K Cr f
  madeG : ∃ f fd, FnM K "__init__" "Rights.__init__" sGInit f fd ∧ Mk K Cg f
  rowsR : Gd K Cr "rows" "River.rows" sRows
  rowsG : Gd K Cg "rows" "Rights.rows" sGRows
  intG : Gd K Cg "intake" "Rights.intake" sGIntake
  lastG : Gd K Cg "last" "Rights.last" sGLast
  passG : Gd K Cg "passes" "Rights.passes" sGPasses
  Mf : Mf K mg
  G : Mg P w K mg base Cg Cr
  D : NdG P w K mg base Cg Cr
  NR : ∃ f fd, NpR P K mg Cn f fd
  NG : ∃ f fd, NpG P K mg Cm f fd
  NT : ∃ f fd, NpT P K mg Ct f fd
  eqG : ∃ f fd, FnM K "__eq__" "Rights.__eq__" sGEq f fd ∧ PySem.W.findIn K (.ref Cg) "__eq__" = some (some (.ref f)) ∧ PySem.W.isFn K (.ref f) = true
  neG : PySem.W.findIn K (.ref Cg) "__ne__" = some (some (.builtin "object.__ne__"))
  IG : Ri K Cg
  tyG : PySem.W.typeIn K (.ref Cg) = some (.type "type")
  nfG : PySem.W.notFirst K Cg (.ref Cg) = true
  J : Rq K Cr
  W : Wd K w mg
  gW : mg "WIDTH" = some (.int 8 tW)
  R : Te K mg Ct Cn Cm Ce
  H : Hf K mg
  isw : Gf K mg "_is_written" sIsWritten
  read : Gf K mg "read_chart" sReadChart
  write : Gf K mg "write_chart" sWriteChart
  mark : Gf K mg "_mark" sMark
  tline : Gf K mg "_table_line" sTableLine
  ctable : Gf K mg "chart_table" sChartTable
  bag : Gf K mg "_law_bag" sBag
  river : Gf K mg "_law_river" sLRiver
  course : Gf K mg "_law_course" sLCourse
  rnames : Gf K mg "_law_right_names" sRNames
  rights : Gf K mg "_law_rights" sLRights
  way : Gf K mg "_law_way" sLWay
  lname : Gf K mg "_law_is_name" sLIsName
  lpair : Gf K mg "_law_is_pair" sLIsPair
  lwriver : Gf K mg "_law_wrong_river" sLWrongRiver
  lright : Gf K mg "_law_is_right" sLIsRight
  lwrights : Gf K mg "_law_wrong_rights" sLWrongRights
  llines : Gf K mg "_law_lines" sLLines
  lbent : Gf K mg "_law_bent" sLBent
  lspoilt : Gf K mg "_law_spoilt" sLSpoilt
  ldue : Gf K mg "_law_due" sLDue
  ltold : Gf K mg "_law_told" sLTold
  ltable : Gf K mg "_law_table" sLTable
  lchart : Gf K mg "_law_chart_right" sLChart
section
variable {P : Program} {w : World} {K : PySem.W.Frag} {mg : Str → Option Value} {base : Heap} {tS tM tL tW : Tok}
theorem ok_lchart2 {Cg Cr Cn Cm Ct Ce : Addr} (L : All P w K mg base tS tM tL tW Cg Cr Cn Cm Ct Ce) : ∃ f fd, FnP K "_law_chart_right" sLChart f fd ∧ mg "_law_chart_right" = some (.ref f) ∧ FnOk P w K mg base CX0 9 f fd ["_law_bag_here", "_law_rows", "_law_rights_here"] spLChart := by
  obtain ⟨B, C, T, TG, ⟨fI, fdI, FI, MK⟩, ⟨fJ, fdJ, FJ, MKG⟩, ⟨fR, fdR, FR, Mrows⟩, ⟨fS, fdS, FS, MrowsG⟩, ⟨fi, fdi, Fi, Mi⟩, ⟨fl, fdl, Fl, Ml⟩, ⟨fp, fdp, Fp, Mp⟩, M, G, D, ⟨fn, fdn, NR⟩, ⟨fm, fdm, NG⟩, ⟨ft, fdt, NT⟩, ⟨fQ, fdQ, FQ, hsQ, hfQ⟩, hnQ, IG, htyG, nfG, J, W, gW, R, HF, ⟨f1, d1, F1, m1⟩, ⟨f2, d2, F2, m2⟩, ⟨f3, d3, F3, m3⟩, ⟨f4, d4, F4, m4⟩, ⟨f5, d5, F5, m5⟩, ⟨f6, d6, F6, m6⟩, _, _, ⟨f7, d7, F7, m7⟩, _, _, ⟨f8, d8, F8, m8⟩, ⟨f9, d9, F9, m9⟩, ⟨fa, da, Fa, ma⟩, ⟨fb, db, Fb, mb⟩, ⟨fc, dc, Fc, mc⟩, ⟨fd', dd, Fd, md⟩, ⟨fe, de, Fe, me⟩, ⟨ff, df, Ff, mf⟩, ⟨fg, dg, Fg, mg'⟩, ⟨fh, dh, Fh, mh⟩, ⟨fj, dj, Fj, mj⟩, ⟨fk, dk, Fk, mk⟩, ⟨fq, dq, Fq, mq⟩⟩ := L
  obtain ⟨fT, dT, FT, mT⟩ := id HF.take
  obtain ⟨fO, dO, FO, mO⟩ := id HF.of
  obtain ⟨fN, dN, FN, mN⟩ := id M.isName
  have Gread := ok_read (tS := tS) (tM := tM) (tL := tL) F2 F1 m1 FN mN W MK FI M T NR MKG FJ G TG NG NT B C
  refine ⟨fq, dq, Fq, mq, ok_lchart (fE := fQ) Fq Fe me (ok_llines Fe FT mT B) F2 m2 Gread F3 m3 (ok_write F3 FR Mrows FS MrowsG T TG B) F6 m6 (ok_ctable F6 Fi Mi Fl Ml Fp Mp F4 m4 F5 m5 gW D G.D TG T B) Fk mk (ok_ltable Fk F8 m8 F7 m7 B) Fg mg' (ok_lspoilt Fg FT mT FO mO Ff mf B) Fj mj (ok_ltold Fj F2 m2 Gread FR Mrows FS MrowsG T TG R B) Fh mh (ok_ldue Fh F9 m9 Fa ma Fc mc F7 m7 Fb mb Fd md B) FR Mrows FS MrowsG FQ hsQ hnQ hfQ IG htyG nfG T TG J B⟩
theorem ok_law {f Cg Cr Cn Cm Ct Ce : Addr} {fd : FuncData} (F : FnP K "law" sLaw f fd) (L : All P w K mg base tS tM tL tW Cg Cr Cn Cm Ct Ce) : FnOk P w K mg base CX0 10 f fd ["_law_script"] (spLaw K) := by
  obtain ⟨fq, dq, F_law_chart_right, g_law_chart_right, G_law_chart_right⟩ := ok_lchart2 L
  have B := L.B
  have HF := L.H
  obtain ⟨f1, d1, F_law_bag, g_law_bag⟩ := id L.bag
  obtain ⟨f2, d2, F_law_river, g_law_river⟩ := id L.river
  obtain ⟨f3, d3, F_law_right_names, g_law_right_names⟩ := id L.rnames
  obtain ⟨f4, d4, F_law_rights, g_law_rights⟩ := id L.rights
  obtain ⟨f9, d9, F_law_course, g_law_course⟩ := id L.course
  obtain ⟨f8, d8, F_law_take, g_law_take⟩ := HF.take
  clear L
  have b_law_chart_right : Binds K dq ["_law_bag_here", "_law_rows", "_law_rights_here"] [] := F_law_chart_right.bindsN fun _ _ _ _ _ _ us hl => match us, hl with | [_, _, _], _ => rfl
  have G_law_bag : FnOk P w K mg base CX0 1 f1 d1 ["_law_script", "_law_at", "_law_salt"] (spBag K) := ok_bag F_law_bag B
  have b_law_bag : Binds K d1 ["_law_script", "_law_at", "_law_salt"] [] := F_law_bag.bindsN fun _ _ _ _ _ _ us hl => match us, hl with | [_, _, _], _ => rfl
  have G_law_take : FnOk P w K mg base CX0 1 f8 d8 ["_law_bag_here", "_law_many"] spTake := ok_take F_law_take B
  have b_law_take : Binds K d8 ["_law_bag_here", "_law_many"] [] := F_law_take.bindsN fun _ _ _ _ _ _ us hl => match us, hl with | [_, _], _ => rfl
  have G_law_river : FnOk P w K mg base CX0 4 f2 d2 ["_law_bag_here", "_law_many"] spLRiver := ok_lriver F_law_river HF
  have b_law_river : Binds K d2 ["_law_bag_here", "_law_many"] [] := F_law_river.bindsN fun _ _ _ _ _ _ us hl => match us, hl with | [_, _], _ => rfl
  have G_law_rights : FnOk P w K mg base CX0 5 f4 d4 ["_law_bag_here", "_law_rows", "_law_many"] spLRights := ok_lrights F_law_rights F_law_right_names g_law_right_names F_law_course g_law_course HF
  have b_law_rights : Binds K d4 ["_law_bag_here", "_law_rows", "_law_many"] [] := F_law_rights.bindsN fun _ _ _ _ _ _ us hl => match us, hl with | [_, _, _], _ => rfl
  refine F.ok scLaw (fun vs H Q E h => ?_) (fun cdv A outer s H vs Q X0 hr h => ?_)
  · obtain ⟨a, ns, rfl, _⟩ := h
    rfl
  · obtain ⟨a, ns, rfl, hS, hns, k⟩ := h
    have hr_law_chart_right : Room 9 _ := hr
    have hr_law_bag : Room 1 _ := hr.mono (by decide)
    have hr_law_take : Room 1 _ := hr.mono (by decide)
    have hr_law_river : Room 4 _ := hr.mono (by decide)
    have hr_law_rights : Room 5 _ := hr.mono (by decide)
    refine ⟨_, PSs.nox (pss_cons
      (ps_for PassesOwn.never rfl (pi_range1 (by rfl) B.range (pa_cons (pe_callB (call_max2 rfl) (by rfl) B.max (by decide +kernel) (pa_cons pe_int (pa_cons (pe_callB (call_min2 rfl) (by rfl) B.min (by decide +kernel) (pa_cons pe_int (pa_cons (pe_callB (lenK (K := K)) (by rfl) B.len PySem.boot_len (pa_cons (pv 0) pa_nil)) pa_nil))) pa_nil))) pa_nil)) (pg_name (i := 1) scLaw.nd rfl (Or.inl rfl)) (pss_cons
      (ps_set (i := 2) scLaw.nd rfl (Or.inl rfl) (pe_call G_law_bag hr_law_bag (by rfl) g_law_bag F_law_bag.kp b_law_bag .nil pass0 (pa_cons (pv 0) (pa_cons (pv 1) (pa_cons pe_int pa_nil)))))
      (pss_cons
      (ps_set (i := 3) scLaw.nd rfl (Or.inl rfl) (pe_call G_law_river hr_law_river (by rfl) g_law_river F_law_river.kp b_law_river .nil pass0 (pa_cons (pv 2) (pa_cons (pe_op op_add pe_int (pe_call G_law_take hr_law_take (by rfl) g_law_take F_law_take.kp b_law_take .nil pass0 (pa_cons (pv 2) (pa_cons (pe_ifExp (pt_cmpR op_eq (pe_call G_law_take hr_law_take (by rfl) g_law_take F_law_take.kp b_law_take .nil pass0 (pa_cons (pv 2) (pa_cons pe_int pa_nil))) pe_int (nomark _)) pe_int pe_int) pa_nil)))) pa_nil))))
      (pss_cons
      (ps_set (i := 4) scLaw.nd rfl (Or.inl rfl) (pe_call G_law_rights hr_law_rights (by rfl) g_law_rights F_law_rights.kp b_law_rights .nil pass0 (pa_cons (pv 2) (pa_cons (pv 3) (pa_cons (pe_call G_law_take hr_law_take (by rfl) g_law_take F_law_take.kp b_law_take .nil pass0 (pa_cons (pv 2) (pa_cons (pe_ifExp (pt_cmpR op_eq (pe_call G_law_take hr_law_take (by rfl) g_law_take F_law_take.kp b_law_take .nil pass0 (pa_cons (pv 2) (pa_cons pe_int pa_nil))) pe_int (nomark _)) pe_int pe_int) pa_nil))) pa_nil)))))
      (pss_one
      (ps_if (pt_not (pt_val (pe_call G_law_chart_right hr_law_chart_right (by rfl) g_law_chart_right F_law_chart_right.kp b_law_chart_right .nil pass0 (pa_cons (pv 2) (pa_cons (pv 3) (pa_cons (pv 4) pa_nil)))))) (pss_one
      (ps_ret pe_bl)) pss_nil))))))
      (pss_one
      (ps_ret pe_bl))), ?_⟩
    refine ⟨_, rfl, a, _, rfl, .inl hS, _, _, rfl, _, _, rfl, _, rfl, ?_⟩
    have hN : ∃ N : Int, (if (if (((ns.map V.int).length : Nat) : Int) < 3 then (((ns.map V.int).length : Nat) : Int) else 3) > 1 then (if (((ns.map V.int).length : Nat) : Int) < 3 then (((ns.map V.int).length : Nat) : Int) else 3) else 1) = N ∧ 1 ≤ N ∧ N ≤ 3 := ⟨_, rfl, by split <;> split <;> omega, by split <;> split <;> omega⟩
    obtain ⟨N, eN, hN1, hN2⟩ := hN
    rw [eN]
    clear eN
    refine ⟨by omega, by omega, ?_⟩
    refine for_range (n := N.toNat) (lo := 0) (fun i σ H2 => ∃ v1 v2 v3 v4, σ = [some (.ref a), v1, v2, v3, v4] ∧ SqL K H2 a (ns.map V.int))
      ⟨_, _, _, _, rfl, hS⟩ ?_ ?_
    · rintro i σ H2 hi ⟨v1, v2, v3, v4, rfl, hS2⟩
      have hi3 : i < 3 := by omega
      refine ⟨_, rfl, _, rfl, a, ns, _, _, rfl, hS2, hns, by omega, by omega, by decide, by decide, fun H3 p s3 np B3 => ?_⟩
      have sq : ∀ H', Upto p H3 H' → SqL K H' a (ns.map V.int) := fun H' u => by
        rcases hS2 with (r | ⟨o, r⟩) | r
        · exact .inl (.inl (u _ _ (s3 _ _ r) (ne_of_none r np)))
        · exact .inl (.inr ⟨o, u _ _ (s3 _ _ r) (ne_of_none r np)⟩)
        · exact .inr r
      refine ⟨_, rfl, _, rfl, _, rfl, p, 8, rfl, B3, by decide, by decide, fun r8 x8 _ _ hx8 => ⟨rfl, _, rfl, ?_⟩⟩
      have u4 : Upto p H3 (upd H3 p (.lst x8)) := Upto.at_
      have B4 : BagAt (upd H3 p (.lst x8)) p := ⟨x8, upd_same, hx8⟩
      generalize upd H3 p (.lst x8) = H4 at u4 B4
      refine split_if' (α := Int) (R := fun c => 0 < c ∧ c ≤ 40) (C := ?C) ?use ?key
      case use =>
        intro key
        refine ite2 (fun _ => ?_) (fun _ => ?_)
        · generalize h40 : (40 : Int) = c40
          exact key c40 ⟨by omega, by omega⟩
        · exact key 6 ⟨by decide, by decide⟩
      case key =>
        rintro many ⟨hm1, hm2⟩
        refine ⟨p, many, rfl, B4, hm1, by omega, fun r x4 hr0 hr1 hx4 => ⟨1, r, rfl, rfl, ?_⟩⟩
        obtain ⟨rn, rfl⟩ : ∃ rn : Nat, r = (rn : Int) := ⟨r.toNat, by omega⟩
        have u45 : Upto p H3 (upd H4 p (.lst x4)) := u4.trans Upto.at_
        have B45 : BagAt (upd H4 p (.lst x4)) p := ⟨x4, upd_same, hx4⟩
        generalize upd H4 p (.lst x4) = H45 at u45 B45
        refine ⟨p, 1 + rn, by show [V.ref p, V.int ((1 : Int) + (rn : Int))] = [V.ref p, V.int ((1 + rn : Nat) : Int)]; rw [show ((1 : Int) + (rn : Int)) = ((1 + rn : Nat) : Int) by omega], B45, by omega, by omega, fun H5 l AR u5 B5 nl lp hR hPre hlen => ?_⟩
        have hG := hPre.good (by omega)
        have u35 := u45.trans u5
        refine ⟨_, rfl, _, rfl, _, rfl, _, rfl, p, 8, rfl, B5, by decide, by decide, fun r9 x9 _ _ hx9 => ⟨rfl, _, rfl, ?_⟩⟩
        have u6 : Upto p H5 (upd H5 p (.lst x9)) := Upto.at_
        have B6 : BagAt (upd H5 p (.lst x9)) p := ⟨x9, upd_same, hx9⟩
        generalize upd H5 p (.lst x9) = H6 at u6 B6
        refine split_if' (α := Int) (R := fun c => 0 < c ∧ c ≤ 41) (C := ?C2) ?use2 ?key2
        case use2 =>
          intro key
          refine ite2 (fun _ => ?_) (fun _ => ?_)
          · generalize h40 : (41 : Int) = c40
            exact key c40 ⟨by omega, by omega⟩
          · exact key 7 ⟨by decide, by decide⟩
        case key2 =>
          rintro many2 ⟨hn1, hn2⟩
          refine ⟨p, many2, rfl, B6, hn1, by omega, fun r x10 hr20 hr21 hx10 => ?_⟩
          obtain ⟨rm, rfl⟩ : ∃ rm : Nat, r = (rm : Int) := ⟨r.toNat, by omega⟩
          have u57 : Upto p H5 (upd H6 p (.lst x10)) := u6.trans Upto.at_
          have B7 : BagAt (upd H6 p (.lst x10)) p := ⟨x10, upd_same, hx10⟩
          generalize upd H6 p (.lst x10) = H7 at u57 B7
          refine ⟨p, l, rm, AR, rfl, B7, lp, hR.upto B5 lp u57, hG, by omega, fun H8 z BR u78 B8 nz zp hB hb hBl => ?_⟩
          have u58 := u57.trans u78
          have hb2 : RtOk (rowsOf AR) (bOf BR) := ⟨hb.nd, hb.ok, hb.inn, hb.last, by rw [List.length_map]; omega⟩
          have hR8 := hR.upto B5 lp u58
          refine ⟨_, rfl, _, rfl, _, rfl, p, l, z, AR, BR, rfl, B8, lp, zp, hR8, hB, hG, hb2, fun H9 u89 B9 => ⟨_, rfl, iteF ?_⟩⟩
          exact ⟨_, _, _, _, rfl, sq H9 ((u35.trans u58).trans u89)⟩
    · rintro σ H2 ⟨v1, v2, v3, v4, rfl, _⟩
      exact k _
end
end K0
end
section
set_option Elab.async false
set_option linter.all false
set_option maxRecDepth 100000
set_option maxHeartbeats 2000000
namespace K0
open PySem PySem.Spec PyProof.Rows L2 TL
/-! ### the top's dict of words -/
theorem str_beq (x z : Str) : (x == z) = decide (z = x) := by
  by_cases h : z = x
  · subst h
    rw [decide_eq_true rfl, beq_self_eq_true]
  · rw [decide_eq_false h]
    exact beq_eq_false_iff_ne.mpr fun e => h e.symm
theorem wd_of {K : PySem.W.Frag} {w : World} {mg : Str → Option Value} {d : Addr} (h : He.dicW K d = some (He.keysIn w.params ["weir", "right"])) (hv : He.valsB K d [("weir", .int 3), ("right", .int 4)] = true) (g : mg "WORDS" = some (.ref d)) : Wd K w mg := by
  obtain ⟨es, n, D⟩ := He.dicW_ok h
  obtain ⟨v3, e3, r3⟩ := He.valsB_ok hv (q := ("weir", .int 3)) List.mem_cons_self
  obtain ⟨v4, e4, r4⟩ := He.valsB_ok hv (q := ("right", .int 4)) (List.mem_cons_of_mem _ List.mem_cons_self)
  refine ⟨d, es, n, v3, v4, g, D, r3, r4, fun z => ?_⟩
  have hk : es.toList.map He.keyOf = He.keysIn w.params ["weir", "right"] := by
    unfold He.dicW at h
    rw [D.at_] at h
    dsimp only at h
    split at h
    · exact Option.some.inj h
    · cases h
  by_cases z1 : z = "weir"
  · subst z1
    rw [if_pos rfl, e3]
  by_cases z2 : z = "right"
  · subst z2
    rw [if_neg z1, if_pos rfl, e4]
  rw [if_neg z1, if_neg z2]
  have key : ∀ e ∈ es.toList, e.key.isStr z = false ∧ e.refKey = false := fun e he => by
    have : He.keyOf e ∈ He.keysIn w.params ["weir", "right"] := by rw [← hk]; exact List.mem_map_of_mem he
    unfold He.keyOf at this
    split at this
    · rename_i x t q
      have hx : x = "weir" ∨ x = "right" := by
        have h2 : some (x, e.hash) = some (("weir" : Str), PyData.keyHash w.params "weir") ∨ some (x, e.hash) = some (("right" : Str), PyData.keyHash w.params "right") := by
          simpa [He.keysIn] using this
        rcases h2 with h2 | h2 <;> (injection h2 with h2; injection h2 with h2 _)
        · exact .inl h2
        · exact .inr h2
      refine ⟨?_, ?_⟩
      · rw [q]
        unfold Value.isStr
        dsimp only
        rw [str_beq]
        rcases hx with rfl | rfl
        · exact decide_eq_false z1
        · exact decide_eq_false z2
      · unfold DictEntry.refKey
        rw [q]
    · simp [He.keysIn] at this
  unfold PySem.W.nsIn
  rw [D.at_]
  dsimp only
  have f1 : es.toList.find? (·.key.isStr z) = none := List.find?_eq_none.mpr fun e he => by rw [(key e he).1]; exact Bool.false_ne_true
  have f2 : es.toList.any (·.refKey) = false := by
    rw [List.any_eq_false]
    exact fun e he => by rw [(key e he).2]; exact Bool.false_ne_true
  rw [f1, f2]
  rfl
end K0
end
section
set_option Elab.async false
set_option linter.all false
set_option maxRecDepth 100000
set_option maxHeartbeats 0
namespace K0H
open PySem PySem.Spec PyProof.Rows L2 K0 LamX
open PySem.W (Frag)
/-! ### the defs, as data -/
def dD (x : Str) (st : Stmt) : He.DefD := ⟨(x, none), x, x, defArgs st, defBody st, defScope st, [], []⟩
def dA (al x : Str) (st : Stmt) : He.DefD := ⟨(al, none), x, x, defArgs st, defBody st, defScope st, [], []⟩
def dM (c m q : Str) (st : Stmt) : He.DefD := ⟨(c, some m), m, q, defArgs st, defBody st, defScope st, [], []⟩
def fn : List He.DefD := [dD "need_weir" sNeed, dD "need_right" sNeedR, dD "is_name" sIsName, dD "_course" sCourse, dD "_find_courses" sFind, dD "_directly_above" sAbove, dD "_find_upstream" sUp, dD "_order_by_depth" sOrder, dD "_is_written" sIsWritten, dD "read_chart" sReadChart, dD "write_chart" sWriteChart, dD "_mark" sMark, dD "_table_line" sTableLine, dD "chart_table" sChartTable, dA "is_row_rivers" "_is_row" sIsRow, dA "need_rows_rivers" "_need_rows" sNeedRows, dA "is_row_rights" "_is_row" sIsRowR, dA "need_rows_rights" "_need_rows" sNeedRowsR, dM "River" "__init__" "River.__init__" sInit, dM "River" "__contains__" "River.__contains__" sContains, dM "River" "__eq__" "River.__eq__" sEq, dM "River" "is_down" "River.is_down" sIsDown, dM "River" "way" "River.way" sWay, dM "River" "rows" "River.rows" sRows, dM "Rights" "__init__" "Rights.__init__" sGInit, dM "Rights" "__contains__" "Rights.__contains__" sGContains, dM "Rights" "__eq__" "Rights.__eq__" sGEq, dM "Rights" "rows" "Rights.rows" sGRows, dM "Rights" "_those_over" "Rights._those_over" sThose, dM "Rights" "intake" "Rights.intake" sGIntake, dM "Rights" "last" "Rights.last" sGLast, dM "Rights" "passes" "Rights.passes" sGPasses, dD "_law_bag" sBag, dD "_law_take" sTake, dD "_law_of" sOf, dD "_law_mixed" sMixed, dD "_law_names" sNames, dD "_law_river" sLRiver, dD "_law_course" sLCourse, dD "_law_right_names" sRNames, dD "_law_rights" sLRights, dD "_law_way" sLWay, dD "_law_is_name" sLIsName, dD "_law_is_pair" sLIsPair, dD "_law_wrong_river" sLWrongRiver, dD "_law_is_right" sLIsRight, dD "_law_wrong_rights" sLWrongRights, dD "_law_lines" sLLines, dD "_law_bent" sLBent, dD "_law_spoilt" sLSpoilt, dD "_law_due" sLDue, dD "_law_told" sLTold, dD "_law_table" sLTable, dD "_law_chart_right" sLChart, dD "law" sLaw]
def fa0 : List He.Fa := [.glo "need_weir", .glo "need_right", .glo "is_name", .glo "is_row_rivers", .glo "need_rows_rivers", .glo "_course", .glo "_find_courses", .glo "_directly_above", .glo "_find_upstream", .glo "_order_by_depth", .glo "River", .glo "is_row_rights", .glo "need_rows_rights", .glo "Rights", .glo "NotRiver", .glo "NotRights", .glo "NotText", .glo "WeirError", .glo "WORDS", .glo "_is_written", .glo "read_chart", .glo "write_chart", .glo "_mark", .glo "_table_line", .glo "chart_table", .glo "_law_bag", .glo "_law_take", .glo "_law_of", .glo "_law_mixed", .glo "_law_names"]
def fa1 : List He.Fa := [.glo "_law_river", .glo "_law_course", .glo "_law_right_names", .glo "_law_rights", .glo "_law_way", .glo "_law_is_name", .glo "_law_is_pair", .glo "_law_wrong_river", .glo "_law_is_right", .glo "_law_wrong_rights", .glo "_law_lines", .glo "_law_bent", .glo "_law_spoilt", .glo "_law_due", .glo "_law_told", .glo "_law_table", .glo "_law_chart_right", .glo "law", .free "len", .free "enumerate", .free "int", .free "abs", .free "list", .free "range", .free "dict", .free "tuple", .free "isinstance", .free "str", .free "all", .free "any"]
def fa2 : List He.Fa := [.free "bool", .free "sorted", .free "max", .free "min", .free "iter", .free "super", .free "ValueError", .str "SEA" "sea", .int "MOST_ROWS" 40, .int "LONGEST_NAME" 8, .int "WIDTH" 8, .cls "River", .mkr "River", .cls "Rights", .mkr "Rights", .exm "NotText" "NotText" true, .exm "NotRiver" "NotText" false, .exm "NotRiver" "NotRiver" true, .exm "NotRights" "NotText" false, .exm "NotRights" "NotRiver" false, .exm "NotRights" "NotRights" true, .noat "NotRiver" "place", .noat "NotRights" "place", .noat "NotText" "line", .noat "River" "weirs", .noat "River" "_rows", .noat "River" "_below", .noat "River" "_courses", .noat "River" "_above", .noat "River" "_upstream"]
def fa3 : List He.Fa := [.noat "River" "_deepest_first", .noat "Rights" "river", .noat "Rights" "names", .noat "Rights" "_rows", .noat "Rights" "_ways", .noat "Rights" "_lasts", .noat "Rights" "_passing", .meth "River" "is_down", .meth "River" "way", .meth "River" "rows", .meth "Rights" "rows", .meth "Rights" "_those_over", .meth "Rights" "intake", .meth "Rights" "last", .meth "Rights" "passes"]
def fa : List He.Fa := fa0 ++ fa1 ++ fa2 ++ fa3
/-! ### more facts, as a Bool -/
def spB (K : Frag) (c m : Str) : Bool := He.eqO (PySem.W.findIn K (.ref (He.ga K c)) m) (some (some (.ref (He.ma K (He.ga K c) m)))) && PySem.W.isFn K (.ref (He.ma K (He.ga K c) m))
/-- an error's class is one over ValueError, its __init__ its own -/
def clsB (K : Frag) (c : Str) : Bool := match K.lookup (He.ga K c) with
  | some ⟨.type t, _, .cls cd, sl⟩ => decide (t = "type") && (match cd.mro, sl.toList with
    | .ref C' :: bm, [_, _, _, _, some (.builtin n), _] => decide (C' = He.ga K c) && (decide (n = "ValueError.__new__") && (cd.hasDict && (!cd.hasDel && PySem.HandSPX.refsVE bm)))
    | _, _ => false)
  | _ => false
def errB (K : Frag) (c : Str) : Bool := He.eqO (PySem.W.findIn K (.ref (He.ga K c)) "__setattr__") (some (some (.builtin "object.__setattr__"))) && (decide (PySem.W.subIn K (.ref (He.ga K c)) (.type "BaseException") = some true) && (decide (PySem.W.typeIn K (.ref (He.ga K c)) = some (.type "type")) && (PySem.W.keepIn K (.ref (He.ga K c)) &&
  (decide (PySem.W.mroIn K (He.ga K c) (.ref (He.ga K c)) = some true) && (decide (PySem.W.subIn K (.ref (He.ga K c)) (.type "ValueError") = some true) && (He.eqO (PySem.W.ks_superIn K (He.ga K c) (He.ga K c) "__init__") (some (some (.builtin "ValueError.__init__"))) &&
  (He.eqO (PySem.W.nsIn K cStatics "thirdparty.any") (some none) && (He.eqO (PySem.W.findIn K (.ref (He.ga K c)) "__init__") (some (some (.ref (He.ma K (He.ga K c) "__init__")))) && decide (PySem.W.typeIn K (.ref (He.ma K (He.ga K c) "__init__")) = some (.type "function"))))))))))
def xfB (K : Frag) (c : Str) : Bool := He.eqO (PySem.W.findIn K (.ref (He.ga K c)) "__getattribute__") (some (some (.builtin "BaseException.__getattribute__"))) && (He.eqO (PySem.W.findIn K (.ref (He.ga K c)) "__getattr__") (some none) && PySem.W.hasDictIn K (He.ga K c))
def iniB (K : Frag) (c qual : Str) : Bool := match K.lookup (He.fAd K (c, some "__init__")) with
  | some ⟨_, _, .func fd, _⟩ => (match fd.code, fd.closure with
    | .ref cda, [(x, cc)] => decide (x = "__class__") && (PySem.W.codeIn K (.ref cda) qual && ((match K.lookup cda with
      | some ⟨_, _, .fields vs, _⟩ => (match (vs[2]? : Option Value) with
        | some (.str file _) => (PySem.Challenge.pw_weirkeepers_k04_whole_charts_read.main.file == file)
        | _ => false)
      | _ => false) && (match K.lookup cc with
      | some ⟨_, _, .cell (some (.ref C)), _⟩ => decide (C = He.ga K c)
      | _ => false)))
    | _, _ => false)
  | _ => false
def riB (K : Frag) (c : Str) : Bool := He.eqO (PySem.W.findIn K (.ref (He.ga K c)) "__class__") (some (some (.builtin "object.__class__"))) && (He.eqO (PySem.W.specialIn K (.builtin "object.__class__") "__get__") (some (some (.builtin "getset_descriptor.__get__"))) && (decide (PySem.W.takesIn K (.builtin "object.__class__") = some true) && decide (PySem.W.mroIn K (He.ga K c) (.type "object") = some true)))
def neB (K : Frag) (c : Str) : Bool := He.eqO (PySem.W.findIn K (.ref (He.ga K c)) "__ne__") (some (some (.builtin "object.__ne__")))
def tyB (K : Frag) (c : Str) : Bool := decide (PySem.W.typeIn K (.ref (He.ga K c)) = some (.type "type"))
def ex (K : Frag) : Bool := spB K "River" "__contains__" && (spB K "River" "__eq__" && (spB K "Rights" "__contains__" && (spB K "Rights" "__eq__" && (riB K "River" && (riB K "Rights" && (neB K "Rights" && (tyB K "River" && (tyB K "Rights" && (PySem.W.notFirst K (He.ga K "River") (.ref (He.ga K "River")) && (PySem.W.notFirst K (He.ga K "Rights") (.ref (He.ga K "Rights")) && (decide (PySem.W.kitAny K (.ref (He.ga K "NotText")) [.ref (He.ga K "NotRiver"), .ref (He.ga K "NotRights")] = some false) && (He.valsB K (He.ga K "WORDS") [("weir", .int 3), ("right", .int 4)] && (riB K "NotRiver" && (clsB K "NotRiver" && (errB K "NotRiver" && (iniB K "NotRiver" "NotRiver.__init__" && (xfB K "NotRiver" && (riB K "NotRights" && (clsB K "NotRights" && (errB K "NotRights" && (iniB K "NotRights" "NotRights.__init__" && (xfB K "NotRights" && (riB K "NotText" && (clsB K "NotText" && (errB K "NotText" && (iniB K "NotText" "NotText.__init__" && (xfB K "NotText" && (true))))))))))))))))))))))))))))
abbrev FnY : Type := Option (Str × Str × Arguments × FuncBody × Scope × Addr × Value × Value × Option Addr × Addr)
def fnY (K : Frag) (c : Str) : FnY := match K.lookup (He.fAd K (c, some "__init__")) with
  | some ⟨_, _, .func fd, _⟩ => some (fd.name, fd.qualname, fd.params, fd.body, fd.scope, fd.globals, fd.defaults, fd.kwdefaults, fd.annotations, fd.builtins)
  | _ => none
def valY (qual : Str) (st : Stmt) : FnY := some ("__init__", qual, defArgs st, .stmts (defBody st), defScope st, mainGlobals, .none, .none, none, builtinsNs)
def ers : List (Str × Str × Stmt) := [("NotRiver", "NotRiver.__init__", sNRv), ("NotRights", "NotRights.__init__", sNRg), ("NotText", "NotText.__init__", sNTx)]
def dts : List (Str × List Str) := [("WORDS", ["weir", "right"])]
def tf : List He.Defn := []
abbrev AlY : Type := He.AlD × Bool × List FnY × List (Option (List (Option (Str × Int))))
def frY (n : Nat) (g : Addr → Option Obj) : Frag := He.frT g (cStatics :: He.asD g n)
def obsY (n : Nat) (g : Addr → Option Obj) : AlY := (He.obsD fa fn (frY n g), ex (frY n g) && He.tabsB g tf (frY n g), ers.map fun q => fnY (frY n g) q.1, dts.map fun q => He.dicW (frY n g) (He.ga (frY n g) q.1))
abbrev R : PySem.W.OpenRow := PySem.W.OpenLaw.row PySem.Challenge.rw_weirkeepers_k04_whole_charts_read
structure SaysY (w : World) (h : Heap) (K : Frag) : Prop where
  d : He.SaysD fa fn K
  more : ex K = true
  y : (ers.map fun q => fnY K q.1) = ers.map fun q => valY q.2.1 q.2.2
  dt : (dts.map fun q => He.dicW K (He.ga K q.1)) = dts.map fun q => some (He.keysIn w.params q.2)
  hd : ∀ p ∈ tf, PySem.W.codeHdIn K (He.cT K p).1 (He.cT K p).2 = true
  out : ∀ p ∈ tf, K.lookup (He.cT K p).2 = none
  empty : ∀ p ∈ tf, h.get? (He.cT K p).2 = some { cls := .none, data := .fields #[] }
def valW (w : World) : AlY := (He.valD fn, true, ers.map fun q => valY q.2.1 q.2.2, dts.map fun q => some (He.keysIn w.params q.2))
theorem saysY_of {n : Nat} {h : Heap} {w : World} (e : obsY n h.get? = valW w) : SaysY w h (frY n h.get?) := by
  have e1 : He.obsD fa fn (frY n h.get?) = He.valD fn := congrArg (fun z : AlY => z.1) e
  have e2 : (ex (frY n h.get?) && He.tabsB h.get? tf (frY n h.get?)) = true := congrArg (fun z : AlY => z.2.1) e
  have e3 : (ers.map fun q => fnY (frY n h.get?) q.1) = ers.map fun q => valY q.2.1 q.2.2 := congrArg (fun z : AlY => z.2.2.1) e
  have e4 : (dts.map fun q => He.dicW (frY n h.get?) (He.ga (frY n h.get?) q.1)) = dts.map fun q => some (He.keysIn w.params q.2) := congrArg (fun z : AlY => z.2.2.2) e
  obtain ⟨h1, h2⟩ := He.ba e2
  have key : ∀ p ∈ tf, PySem.W.codeHdIn (frY n h.get?) (He.cT (frY n h.get?) p).1 (He.cT (frY n h.get?) p).2 = true ∧ ∃ o, h.get? (He.cT (frY n h.get?) p).2 = some o ∧ He.emptyTab o = true := fun p hp => by
    obtain ⟨h3, h4⟩ := He.ba (List.all_eq_true.mp h2 p hp)
    refine ⟨h3, ?_⟩
    cases q : h.get? (He.cT (frY n h.get?) p).2 with
    | none =>
      rw [q] at h4
      cases h4
    | some o =>
      rw [q] at h4
      exact ⟨o, rfl, h4⟩
  exact ⟨e1, h1, e3, e4, fun p hp => (key p hp).1, fun p hp => by
    obtain ⟨_, o, q, z⟩ := key p hp
    exact He.frT_none q z, fun p hp => by
    obtain ⟨_, o, q, z⟩ := key p hp
    rw [q, He.emptyTab_eq z]⟩
def hk (n : Nat) : PySem.W.Hook where
  α := AlY
  obs := fun s => obsY n s.heap.get?
  val := valW
  says := fun w h => ∃ K : Frag, K.In h ∧ SaysY w h K
  of := fun _ _ e => ⟨_, He.frT_in, saysY_of e⟩
  keeps := fun _ _ _ ⟨K, hK, c⟩ k => ⟨K, PySem.W.Frag.In.keeps hK k, ⟨c.d, c.more, c.y, c.dt, c.hd, c.out, fun p hp => k _ _ (c.empty p hp)⟩⟩
def ob (s : PySem.W.SharedT) : AlY := obsY 4 (HandSHeadRun.getT s)
theorem ob_eq (s : PySem.W.SharedT) : ob s = (hk 4).obs s.abs := by
  have e : HandSHeadRun.getT s = s.abs.heap.get? := funext (HandSHeadRun.getT_eq s)
  unfold ob
  rw [e] <;> rfl
theorem y_at {w : World} {h : Heap} {K : Frag} (c : SaysY w h K) (i : Nat) {q : Str × Str × Stmt} (hq : ers[i]? = some q) : fnY K q.1 = valY q.2.1 q.2.2 := by
  have e := congrArg (fun l : List FnY => l[i]?) c.y
  simp only [List.getElem?_map, hq] at e
  exact Option.some.inj e
theorem dt_at {w : World} {h : Heap} {K : Frag} (c : SaysY w h K) (i : Nat) {q : Str × List Str} (hq : dts[i]? = some q) : He.dicW K (He.ga K q.1) = some (He.keysIn w.params q.2) := by
  have e := congrArg (fun l : List (Option (List (Option (Str × Int)))) => l[i]?) c.dt
  simp only [List.getElem?_map, hq] at e
  exact Option.some.inj e
end K0H
end
section
set_option Elab.async false
set_option linter.all false
set_option maxRecDepth 100000
set_option maxHeartbeats 0
namespace K0H
open PySem PySem.Spec PyProof.Rows L2 K0
def loose0 : List Str := ["_wall", "__name__", "WeirError", "NotRiver", "NotRights", "NotText", "NoWeir", "NoRight", "NotDown", "need_weir", "need_right", "SEA", "MOST_ROWS", "LONGEST_NAME", "is_name", "_is_row", "is_row_rivers", "_need_rows", "need_rows_rivers", "_course", "_find_courses", "_directly_above", "_find_upstream", "_order_by_depth", "River", "is_row_rights", "need_rows_rights", "Rights", "WORDS", "WIDTH"]
def loose1 : List Str := ["_is_written", "read_chart", "write_chart", "_mark", "_table_line", "chart_table", "_law_bag", "_law_take", "_law_of", "_law_mixed", "_law_names", "_law_river", "_law_course", "_law_right_names", "_law_rights", "_law_way", "_law_is_name", "_law_is_pair", "_law_wrong_river", "_law_is_right", "_law_wrong_rights", "_law_lines", "_law_bent", "_law_spoilt", "_law_due", "_law_told", "_law_table", "_law_chart_right"]
def loose : List Str := loose0 ++ loose1
noncomputable def endR (w : World) (os : OsState) : Option PySem.W.SharedT := HandSHeadRun.endF (HandSHeadRun.stepQ (HandSHeadRun.denQ HandSHeadRun.tabQ) R.prog w) 6000 R.prog w os
theorem three {S A B C : Type} {o : Option S} {f : S → A} {g : S → B} {h : S → C} {a : A} {b : B} {c : C} (x : o.map f = some a) (y : o.map g = some b) (z : o.map h = some c) : o.map (fun s => (f s, g s, h s)) = some (a, b, c) := by
  cases o with
  | none => cases x
  | some s =>
    cases x
    cases y
    cases z
    rfl
theorem runA0 (w : World) (os : OsState) : (endR (w.withFollow "special-get-raises" false) os).map (fun s => HandSHeadRun.looksF R.prog (PySem.W.boot_heap (w.withFollow "special-get-raises" false).params) s.abs) = some true := by
  kernel_rfl
theorem runB0 (w : World) (os : OsState) : (endR (w.withFollow "special-get-raises" false) os).map (fun s => HandSHeadRun.seenQ (PySem.W.view R.prog [65]) loose (importedModules R.prog.main.body) (fun s => PySem.W.xlAt (PySem.W.view R.prog [65]) [] s && PySem.W.recOk R.records s) s.abs) = some (PySem.W.openGood (PySem.W.view R.prog [65]) loose) := by
  kernel_rfl
theorem runC0 (w : World) (os : OsState) : (endR (w.withFollow "special-get-raises" false) os).map ob = some ((hk 4).val (w.withFollow "special-get-raises" false)) := by
  kernel_rfl
theorem runA1 (w : World) (os : OsState) : (endR (w.withFollow "special-get-raises" true) os).map (fun s => HandSHeadRun.looksF R.prog (PySem.W.boot_heap (w.withFollow "special-get-raises" true).params) s.abs) = some true := by
  kernel_rfl
theorem runB1 (w : World) (os : OsState) : (endR (w.withFollow "special-get-raises" true) os).map (fun s => HandSHeadRun.seenQ (PySem.W.view R.prog [65]) loose (importedModules R.prog.main.body) (fun s => PySem.W.xlAt (PySem.W.view R.prog [65]) [] s && PySem.W.recOk R.records s) s.abs) = some (PySem.W.openGood (PySem.W.view R.prog [65]) loose) := by
  kernel_rfl
theorem runC1 (w : World) (os : OsState) : (endR (w.withFollow "special-get-raises" true) os).map ob = some ((hk 4).val (w.withFollow "special-get-raises" true)) := by
  kernel_rfl
theorem run (w : World) : HandSHeadRun.RunEq R (PySem.W.view R.prog [65]) (hk 4) ob 6000 loose w := PySem.W.byRow2 "special-get-raises" (P := fun w => HandSHeadRun.RunEq R (PySem.W.view R.prog [65]) (hk 4) ob 6000 loose w) (fun w os => three (runA0 w os) (runB0 w os) (runC0 w os)) (fun w os => three (runA1 w os) (runB1 w os) (runC1 w os)) w
end K0H
end
section
set_option Elab.async false
set_option linter.all false
set_option maxRecDepth 100000
set_option maxHeartbeats 0
namespace K0H
open PySem PySem.Spec PyProof.Rows L2 K0 LamX
open PySem.W (Frag)
abbrev PP : Program := PySem.Challenge.pw_weirkeepers_k04_whole_charts_read
theorem sup_ok {K : Frag} {c qual : Str} {st : Stmt} (y : fnY K c = valY qual st) (hi : iniB K c qual = true) : ∃ (fd : FuncData) (oc : Value) (od : Option Addr) (doc pm : Value) (cda : Addr) (ct : Value) (cc : Addr) (osl : Array (Option Value)),
    fd = PySem.W.ksFn "__init__" qual (defArgs st) (defBody st) (defScope st) .none .none doc pm none (.ref cda) ct cc ∧ K.lookup (He.fAd K (c, some "__init__")) = some ⟨oc, od, .func fd, osl⟩ ∧ PySem.W.codeIn K (.ref cda) qual = true ∧
    (∃ (ccl : Value) (cdd : Option Addr) (vs : Array Value) (ccs : Array (Option Value)) (file : Str) (tf : Tok), K.lookup cda = some ⟨ccl, cdd, .fields vs, ccs⟩ ∧ vs[2]? = some (.str file tf) ∧ ((PP.main.file : Str) == file) = true) ∧
    ∃ (cl : Value) (cld : Option Addr) (csl : Array (Option Value)), K.lookup cc = some ⟨cl, cld, .cell (some (.ref (He.ga K c))), csl⟩ := by
  unfold fnY at y
  unfold iniB at hi
  split at y
  · rename_i oc od fd osl q
    rw [q] at hi
    obtain ⟨n1, n2, n3, n4, n5, n6, n7, n8, n9, n10, n11, n12, n13, n14, n15⟩ := fd
    have y2 : (some (n1, n2, n3, n4, n5, n6, n8, n9, n12, n15) : FnY) = valY qual st := y
    unfold valY at y2
    simp only [Option.some.injEq, Prod.mk.injEq] at y2
    obtain ⟨h1, h2, h3, h4, h5, h6, h7, h8, h9, h10⟩ := y2
    subst h1 h2 h3 h4 h5 h6 h7 h8 h9 h10
    dsimp only at hi
    split at hi
    · rename_i cda x cc
      obtain ⟨g1, hi⟩ := He.ba hi
      obtain ⟨g2, hi⟩ := He.ba hi
      obtain ⟨g3, g4⟩ := He.ba hi
      have g1 := of_decide_eq_true g1
      subst g1
      refine ⟨_, oc, od, n10, n11, cda, n14, cc, osl, rfl, q, g2, ?_, ?_⟩
      · split at g3
        · rename_i ccl cdd vs ccs qc
          split at g3
          · rename_i file tf qv
            exact ⟨_, _, _, _, file, tf, qc, qv, g3⟩
          · cases g3
        · cases g3
      · split at g4
        · rename_i cl cld C csl qc
          have e := of_decide_eq_true g4
          subst e
          exact ⟨_, _, _, qc⟩
        · cases g4
    · cases hi
  · cases y
theorem cls_ok2 {K : Frag} {c : Str} (h : clsB K c = true) : ∃ nm q N bs bm sn sub ab col dd k0 k1 k2 k3 k5, K.lookup (He.ga K c) = some (excClassObj nm q (He.ga K c) N bs bm true sn sub ab col dd k0 k1 k2 k3 k5 "ValueError.__new__") ∧ PySem.HandSPX.refsVE bm = true := by
  unfold clsB at h
  split at h
  · rename_i t dd cd sl q
    obtain ⟨g0, h⟩ := He.ba h
    have e0 := of_decide_eq_true g0
    clear g0
    split at h
    · rename_i C' bm k0 k1 k2 k3 n k5 e1 e2
      obtain ⟨g1, h⟩ := He.ba h
      obtain ⟨g2, h⟩ := He.ba h
      obtain ⟨g3, h⟩ := He.ba h
      obtain ⟨g4, g5⟩ := He.ba h
      have g1 := of_decide_eq_true g1
      have g2 := of_decide_eq_true g2
      subst g1 g2
      obtain ⟨c1, c2, c3, c4, c5, c6, c7, c8, c9, c10, c11⟩ := cd
      dsimp only at e1 g3 g4
      subst e1
      have g4 : c11 = false := by simpa using g4
      subst g3 g4
      have es : sl = #[k0, k1, k2, k3, some (.builtin "ValueError.__new__"), k5] := by
        apply Array.ext'
        rw [e2]
      subst es
      subst e0
      exact ⟨c1, c5, c4, c2, bm, c7, c8, c9, c10, dd, k0, k1, k2, k3, k5, q, g5⟩
    · cases h
  · cases h
theorem spB_ok {K : Frag} {c m : Str} (h : spB K c m = true) : PySem.W.findIn K (.ref (He.ga K c)) m = some (some (.ref (He.ma K (He.ga K c) m))) ∧ PySem.W.isFn K (.ref (He.ma K (He.ga K c) m)) = true := by
  obtain ⟨h1, h2⟩ := He.ba h
  exact ⟨He.eqO_ok h1, h2⟩
theorem all_ok {w : World} {K : Frag} {h : Heap} {mg : Str → Option Value} (X : K.In h) (G : h.Ns mainGlobals mg) (c : SaysY w h K) :
    ∃ tS tM tL tW, ∀ base : Heap, All PP w K mg base tS tM tL tW (He.ga K "Rights") (He.ga K "River") (He.ga K "NotRiver") (He.ga K "NotRights") (He.ga K "NotText") (He.ga K "WeirError") := by
  obtain ⟨d0, f0⟩ := c.d.def_ 0 (d := dD "need_weir" sNeed) rfl
  have F0 : FnP K "need_weir" sNeed (He.ga K "need_weir") d0 := f0
  obtain ⟨d1, f1⟩ := c.d.def_ 1 (d := dD "need_right" sNeedR) rfl
  have F1 : FnP K "need_right" sNeedR (He.ga K "need_right") d1 := f1
  obtain ⟨d2, f2⟩ := c.d.def_ 2 (d := dD "is_name" sIsName) rfl
  have F2 : FnP K "is_name" sIsName (He.ga K "is_name") d2 := f2
  obtain ⟨d3, f3⟩ := c.d.def_ 3 (d := dD "_course" sCourse) rfl
  have F3 : FnP K "_course" sCourse (He.ga K "_course") d3 := f3
  obtain ⟨d4, f4⟩ := c.d.def_ 4 (d := dD "_find_courses" sFind) rfl
  have F4 : FnP K "_find_courses" sFind (He.ga K "_find_courses") d4 := f4
  obtain ⟨d5, f5⟩ := c.d.def_ 5 (d := dD "_directly_above" sAbove) rfl
  have F5 : FnP K "_directly_above" sAbove (He.ga K "_directly_above") d5 := f5
  obtain ⟨d6, f6⟩ := c.d.def_ 6 (d := dD "_find_upstream" sUp) rfl
  have F6 : FnP K "_find_upstream" sUp (He.ga K "_find_upstream") d6 := f6
  obtain ⟨d7, f7⟩ := c.d.def_ 7 (d := dD "_order_by_depth" sOrder) rfl
  have F7 : FnP K "_order_by_depth" sOrder (He.ga K "_order_by_depth") d7 := f7
  obtain ⟨d8, f8⟩ := c.d.def_ 8 (d := dD "_is_written" sIsWritten) rfl
  have F8 : FnP K "_is_written" sIsWritten (He.ga K "_is_written") d8 := f8
  obtain ⟨d9, f9⟩ := c.d.def_ 9 (d := dD "read_chart" sReadChart) rfl
  have F9 : FnP K "read_chart" sReadChart (He.ga K "read_chart") d9 := f9
  obtain ⟨d10, f10⟩ := c.d.def_ 10 (d := dD "write_chart" sWriteChart) rfl
  have F10 : FnP K "write_chart" sWriteChart (He.ga K "write_chart") d10 := f10
  obtain ⟨d11, f11⟩ := c.d.def_ 11 (d := dD "_mark" sMark) rfl
  have F11 : FnP K "_mark" sMark (He.ga K "_mark") d11 := f11
  obtain ⟨d12, f12⟩ := c.d.def_ 12 (d := dD "_table_line" sTableLine) rfl
  have F12 : FnP K "_table_line" sTableLine (He.ga K "_table_line") d12 := f12
  obtain ⟨d13, f13⟩ := c.d.def_ 13 (d := dD "chart_table" sChartTable) rfl
  have F13 : FnP K "chart_table" sChartTable (He.ga K "chart_table") d13 := f13
  obtain ⟨d14, f14⟩ := c.d.def_ 14 (d := dA "is_row_rivers" "_is_row" sIsRow) rfl
  have F14 : FnP K "_is_row" sIsRow (He.ga K "is_row_rivers") d14 := f14
  obtain ⟨d15, f15⟩ := c.d.def_ 15 (d := dA "need_rows_rivers" "_need_rows" sNeedRows) rfl
  have F15 : FnP K "_need_rows" sNeedRows (He.ga K "need_rows_rivers") d15 := f15
  obtain ⟨d16, f16⟩ := c.d.def_ 16 (d := dA "is_row_rights" "_is_row" sIsRowR) rfl
  have F16 : FnP K "_is_row" sIsRowR (He.ga K "is_row_rights") d16 := f16
  obtain ⟨d17, f17⟩ := c.d.def_ 17 (d := dA "need_rows_rights" "_need_rows" sNeedRowsR) rfl
  have F17 : FnP K "_need_rows" sNeedRowsR (He.ga K "need_rows_rights") d17 := f17
  obtain ⟨d18, f18⟩ := c.d.def_ 18 (d := dM "River" "__init__" "River.__init__" sInit) rfl
  have F18 : FnM K "__init__" "River.__init__" sInit (He.ma K (He.ga K "River") "__init__") d18 := f18
  obtain ⟨d19, f19⟩ := c.d.def_ 19 (d := dM "River" "__contains__" "River.__contains__" sContains) rfl
  have F19 : FnM K "__contains__" "River.__contains__" sContains (He.ma K (He.ga K "River") "__contains__") d19 := f19
  obtain ⟨d20, f20⟩ := c.d.def_ 20 (d := dM "River" "__eq__" "River.__eq__" sEq) rfl
  have F20 : FnM K "__eq__" "River.__eq__" sEq (He.ma K (He.ga K "River") "__eq__") d20 := f20
  obtain ⟨d21, f21⟩ := c.d.def_ 21 (d := dM "River" "is_down" "River.is_down" sIsDown) rfl
  have F21 : FnM K "is_down" "River.is_down" sIsDown (He.ma K (He.ga K "River") "is_down") d21 := f21
  obtain ⟨d22, f22⟩ := c.d.def_ 22 (d := dM "River" "way" "River.way" sWay) rfl
  have F22 : FnM K "way" "River.way" sWay (He.ma K (He.ga K "River") "way") d22 := f22
  obtain ⟨d23, f23⟩ := c.d.def_ 23 (d := dM "River" "rows" "River.rows" sRows) rfl
  have F23 : FnM K "rows" "River.rows" sRows (He.ma K (He.ga K "River") "rows") d23 := f23
  obtain ⟨d24, f24⟩ := c.d.def_ 24 (d := dM "Rights" "__init__" "Rights.__init__" sGInit) rfl
  have F24 : FnM K "__init__" "Rights.__init__" sGInit (He.ma K (He.ga K "Rights") "__init__") d24 := f24
  obtain ⟨d25, f25⟩ := c.d.def_ 25 (d := dM "Rights" "__contains__" "Rights.__contains__" sGContains) rfl
  have F25 : FnM K "__contains__" "Rights.__contains__" sGContains (He.ma K (He.ga K "Rights") "__contains__") d25 := f25
  obtain ⟨d26, f26⟩ := c.d.def_ 26 (d := dM "Rights" "__eq__" "Rights.__eq__" sGEq) rfl
  have F26 : FnM K "__eq__" "Rights.__eq__" sGEq (He.ma K (He.ga K "Rights") "__eq__") d26 := f26
  obtain ⟨d27, f27⟩ := c.d.def_ 27 (d := dM "Rights" "rows" "Rights.rows" sGRows) rfl
  have F27 : FnM K "rows" "Rights.rows" sGRows (He.ma K (He.ga K "Rights") "rows") d27 := f27
  obtain ⟨d28, f28⟩ := c.d.def_ 28 (d := dM "Rights" "_those_over" "Rights._those_over" sThose) rfl
  have F28 : FnM K "_those_over" "Rights._those_over" sThose (He.ma K (He.ga K "Rights") "_those_over") d28 := f28
  obtain ⟨d29, f29⟩ := c.d.def_ 29 (d := dM "Rights" "intake" "Rights.intake" sGIntake) rfl
  have F29 : FnM K "intake" "Rights.intake" sGIntake (He.ma K (He.ga K "Rights") "intake") d29 := f29
  obtain ⟨d30, f30⟩ := c.d.def_ 30 (d := dM "Rights" "last" "Rights.last" sGLast) rfl
  have F30 : FnM K "last" "Rights.last" sGLast (He.ma K (He.ga K "Rights") "last") d30 := f30
  obtain ⟨d31, f31⟩ := c.d.def_ 31 (d := dM "Rights" "passes" "Rights.passes" sGPasses) rfl
  have F31 : FnM K "passes" "Rights.passes" sGPasses (He.ma K (He.ga K "Rights") "passes") d31 := f31
  obtain ⟨d32, f32⟩ := c.d.def_ 32 (d := dD "_law_bag" sBag) rfl
  have F32 : FnP K "_law_bag" sBag (He.ga K "_law_bag") d32 := f32
  obtain ⟨d33, f33⟩ := c.d.def_ 33 (d := dD "_law_take" sTake) rfl
  have F33 : FnP K "_law_take" sTake (He.ga K "_law_take") d33 := f33
  obtain ⟨d34, f34⟩ := c.d.def_ 34 (d := dD "_law_of" sOf) rfl
  have F34 : FnP K "_law_of" sOf (He.ga K "_law_of") d34 := f34
  obtain ⟨d35, f35⟩ := c.d.def_ 35 (d := dD "_law_mixed" sMixed) rfl
  have F35 : FnP K "_law_mixed" sMixed (He.ga K "_law_mixed") d35 := f35
  obtain ⟨d36, f36⟩ := c.d.def_ 36 (d := dD "_law_names" sNames) rfl
  have F36 : FnP K "_law_names" sNames (He.ga K "_law_names") d36 := f36
  obtain ⟨d37, f37⟩ := c.d.def_ 37 (d := dD "_law_river" sLRiver) rfl
  have F37 : FnP K "_law_river" sLRiver (He.ga K "_law_river") d37 := f37
  obtain ⟨d38, f38⟩ := c.d.def_ 38 (d := dD "_law_course" sLCourse) rfl
  have F38 : FnP K "_law_course" sLCourse (He.ga K "_law_course") d38 := f38
  obtain ⟨d39, f39⟩ := c.d.def_ 39 (d := dD "_law_right_names" sRNames) rfl
  have F39 : FnP K "_law_right_names" sRNames (He.ga K "_law_right_names") d39 := f39
  obtain ⟨d40, f40⟩ := c.d.def_ 40 (d := dD "_law_rights" sLRights) rfl
  have F40 : FnP K "_law_rights" sLRights (He.ga K "_law_rights") d40 := f40
  obtain ⟨d41, f41⟩ := c.d.def_ 41 (d := dD "_law_way" sLWay) rfl
  have F41 : FnP K "_law_way" sLWay (He.ga K "_law_way") d41 := f41
  obtain ⟨d42, f42⟩ := c.d.def_ 42 (d := dD "_law_is_name" sLIsName) rfl
  have F42 : FnP K "_law_is_name" sLIsName (He.ga K "_law_is_name") d42 := f42
  obtain ⟨d43, f43⟩ := c.d.def_ 43 (d := dD "_law_is_pair" sLIsPair) rfl
  have F43 : FnP K "_law_is_pair" sLIsPair (He.ga K "_law_is_pair") d43 := f43
  obtain ⟨d44, f44⟩ := c.d.def_ 44 (d := dD "_law_wrong_river" sLWrongRiver) rfl
  have F44 : FnP K "_law_wrong_river" sLWrongRiver (He.ga K "_law_wrong_river") d44 := f44
  obtain ⟨d45, f45⟩ := c.d.def_ 45 (d := dD "_law_is_right" sLIsRight) rfl
  have F45 : FnP K "_law_is_right" sLIsRight (He.ga K "_law_is_right") d45 := f45
  obtain ⟨d46, f46⟩ := c.d.def_ 46 (d := dD "_law_wrong_rights" sLWrongRights) rfl
  have F46 : FnP K "_law_wrong_rights" sLWrongRights (He.ga K "_law_wrong_rights") d46 := f46
  obtain ⟨d47, f47⟩ := c.d.def_ 47 (d := dD "_law_lines" sLLines) rfl
  have F47 : FnP K "_law_lines" sLLines (He.ga K "_law_lines") d47 := f47
  obtain ⟨d48, f48⟩ := c.d.def_ 48 (d := dD "_law_bent" sLBent) rfl
  have F48 : FnP K "_law_bent" sLBent (He.ga K "_law_bent") d48 := f48
  obtain ⟨d49, f49⟩ := c.d.def_ 49 (d := dD "_law_spoilt" sLSpoilt) rfl
  have F49 : FnP K "_law_spoilt" sLSpoilt (He.ga K "_law_spoilt") d49 := f49
  obtain ⟨d50, f50⟩ := c.d.def_ 50 (d := dD "_law_due" sLDue) rfl
  have F50 : FnP K "_law_due" sLDue (He.ga K "_law_due") d50 := f50
  obtain ⟨d51, f51⟩ := c.d.def_ 51 (d := dD "_law_told" sLTold) rfl
  have F51 : FnP K "_law_told" sLTold (He.ga K "_law_told") d51 := f51
  obtain ⟨d52, f52⟩ := c.d.def_ 52 (d := dD "_law_table" sLTable) rfl
  have F52 : FnP K "_law_table" sLTable (He.ga K "_law_table") d52 := f52
  obtain ⟨d53, f53⟩ := c.d.def_ 53 (d := dD "_law_chart_right" sLChart) rfl
  have F53 : FnP K "_law_chart_right" sLChart (He.ga K "_law_chart_right") d53 := f53
  obtain ⟨d54, f54⟩ := c.d.def_ 54 (d := dD "law" sLaw) rfl
  have F54 : FnP K "law" sLaw (He.ga K "law") d54 := f54
  have hx := c.more
  obtain ⟨sp_has_r, hx⟩ := He.ba hx
  obtain ⟨sp_eq_r, hx⟩ := He.ba hx
  obtain ⟨sp_has_g, hx⟩ := He.ba hx
  obtain ⟨sp_eq_g, hx⟩ := He.ba hx
  obtain ⟨ri_r, hx⟩ := He.ba hx
  obtain ⟨ri_g, hx⟩ := He.ba hx
  obtain ⟨ne_g, hx⟩ := He.ba hx
  obtain ⟨ty_r, hx⟩ := He.ba hx
  obtain ⟨ty_g, hx⟩ := He.ba hx
  obtain ⟨nf_r, hx⟩ := He.ba hx
  obtain ⟨nf_g, hx⟩ := He.ba hx
  obtain ⟨k_t, hx⟩ := He.ba hx
  obtain ⟨v_w, hx⟩ := He.ba hx
  obtain ⟨ri_n, hx⟩ := He.ba hx
  obtain ⟨cl_n, hx⟩ := He.ba hx
  obtain ⟨er_n, hx⟩ := He.ba hx
  obtain ⟨in_n, hx⟩ := He.ba hx
  obtain ⟨xf_n, hx⟩ := He.ba hx
  obtain ⟨ri_w, hx⟩ := He.ba hx
  obtain ⟨cl_w, hx⟩ := He.ba hx
  obtain ⟨er_w, hx⟩ := He.ba hx
  obtain ⟨in_w, hx⟩ := He.ba hx
  obtain ⟨xf_w, hx⟩ := He.ba hx
  obtain ⟨ri_t, hx⟩ := He.ba hx
  obtain ⟨cl_t, hx⟩ := He.ba hx
  obtain ⟨er_t, hx⟩ := He.ba hx
  obtain ⟨in_t, hx⟩ := He.ba hx
  obtain ⟨xf_t, hx⟩ := He.ba hx
  have y_n := y_at c 0 (q := ("NotRiver", "NotRiver.__init__", sNRv)) rfl
  obtain ⟨e1n, hx0⟩ := He.ba er_n
  obtain ⟨e2n, hx0⟩ := He.ba hx0
  obtain ⟨e3n, hx0⟩ := He.ba hx0
  obtain ⟨e4n, hx0⟩ := He.ba hx0
  obtain ⟨e5n, hx0⟩ := He.ba hx0
  obtain ⟨e6n, hx0⟩ := He.ba hx0
  obtain ⟨e7n, hx0⟩ := He.ba hx0
  obtain ⟨e8n, hx0⟩ := He.ba hx0
  obtain ⟨e9n, e10n⟩ := He.ba hx0
  obtain ⟨n1n, n'⟩ := He.ba xf_n
  obtain ⟨n2n, n3n⟩ := He.ba n'
  obtain ⟨fdnn, ocn, odn, docn, pmn, cdan, ctn, ccn, osln, enn, lknn, cdnn, fln, cln⟩ := sup_ok (c := "NotRiver") (qual := "NotRiver.__init__") (st := sNRv) y_n in_n
  have y_w := y_at c 1 (q := ("NotRights", "NotRights.__init__", sNRg)) rfl
  obtain ⟨e1w, hx0⟩ := He.ba er_w
  obtain ⟨e2w, hx0⟩ := He.ba hx0
  obtain ⟨e3w, hx0⟩ := He.ba hx0
  obtain ⟨e4w, hx0⟩ := He.ba hx0
  obtain ⟨e5w, hx0⟩ := He.ba hx0
  obtain ⟨e6w, hx0⟩ := He.ba hx0
  obtain ⟨e7w, hx0⟩ := He.ba hx0
  obtain ⟨e8w, hx0⟩ := He.ba hx0
  obtain ⟨e9w, e10w⟩ := He.ba hx0
  obtain ⟨n1w, n'⟩ := He.ba xf_w
  obtain ⟨n2w, n3w⟩ := He.ba n'
  obtain ⟨fdnw, ocw, odw, docw, pmw, cdaw, ctw, ccw, oslw, enw, lknw, cdnw, flw, clw⟩ := sup_ok (c := "NotRights") (qual := "NotRights.__init__") (st := sNRg) y_w in_w
  have y_t := y_at c 2 (q := ("NotText", "NotText.__init__", sNTx)) rfl
  obtain ⟨e1t, hx0⟩ := He.ba er_t
  obtain ⟨e2t, hx0⟩ := He.ba hx0
  obtain ⟨e3t, hx0⟩ := He.ba hx0
  obtain ⟨e4t, hx0⟩ := He.ba hx0
  obtain ⟨e5t, hx0⟩ := He.ba hx0
  obtain ⟨e6t, hx0⟩ := He.ba hx0
  obtain ⟨e7t, hx0⟩ := He.ba hx0
  obtain ⟨e8t, hx0⟩ := He.ba hx0
  obtain ⟨e9t, e10t⟩ := He.ba hx0
  obtain ⟨n1t, n'⟩ := He.ba xf_t
  obtain ⟨n2t, n3t⟩ := He.ba n'
  obtain ⟨fdnt, oct, odt, doct, pmt, cdat, ctt, cct, oslt, ent, lknt, cdnt, flt, clt⟩ := sup_ok (c := "NotText") (qual := "NotText.__init__") (st := sNTx) y_t in_t
  obtain ⟨s_has_r, t_has_r⟩ := spB_ok sp_has_r
  obtain ⟨s_eq_r, t_eq_r⟩ := spB_ok sp_eq_r
  obtain ⟨s_has_g, t_has_g⟩ := spB_ok sp_has_g
  obtain ⟨s_eq_g, t_eq_g⟩ := spB_ok sp_eq_g
  obtain ⟨r1r, hx0⟩ := He.ba ri_r
  obtain ⟨r2r, hx0⟩ := He.ba hx0
  obtain ⟨r3r, r4r⟩ := He.ba hx0
  obtain ⟨r1g, hx0⟩ := He.ba ri_g
  obtain ⟨r2g, hx0⟩ := He.ba hx0
  obtain ⟨r3g, r4g⟩ := He.ba hx0
  obtain ⟨r1n, hx0⟩ := He.ba ri_n
  obtain ⟨r2n, hx0⟩ := He.ba hx0
  obtain ⟨r3n, r4n⟩ := He.ba hx0
  obtain ⟨r1w, hx0⟩ := He.ba ri_w
  obtain ⟨r2w, hx0⟩ := He.ba hx0
  obtain ⟨r3w, r4w⟩ := He.ba hx0
  obtain ⟨r1t, hx0⟩ := He.ba ri_t
  obtain ⟨r2t, hx0⟩ := He.ba hx0
  obtain ⟨r3t, r4t⟩ := He.ba hx0
  have B : Bl mg := ⟨(He.free_ok X G (c.d.fact 48 (f := .free "len") rfl)), (He.free_ok X G (c.d.fact 49 (f := .free "enumerate") rfl)), (He.free_ok X G (c.d.fact 50 (f := .free "int") rfl)), (He.free_ok X G (c.d.fact 51 (f := .free "abs") rfl)), (He.free_ok X G (c.d.fact 52 (f := .free "list") rfl)), (He.free_ok X G (c.d.fact 53 (f := .free "range") rfl)), (He.free_ok X G (c.d.fact 54 (f := .free "dict") rfl)), (He.free_ok X G (c.d.fact 55 (f := .free "tuple") rfl)), (He.free_ok X G (c.d.fact 56 (f := .free "isinstance") rfl)), (He.free_ok X G (c.d.fact 57 (f := .free "str") rfl)), (He.free_ok X G (c.d.fact 58 (f := .free "all") rfl)), (He.free_ok X G (c.d.fact 59 (f := .free "any") rfl)), (He.free_ok X G (c.d.fact 60 (f := .free "bool") rfl)), (He.free_ok X G (c.d.fact 61 (f := .free "sorted") rfl)), (He.free_ok X G (c.d.fact 62 (f := .free "max") rfl)), (He.free_ok X G (c.d.fact 63 (f := .free "min") rfl)), (He.free_ok X G (c.d.fact 64 (f := .free "iter") rfl)), (He.free_ok X G (c.d.fact 65 (f := .free "super") rfl)), (He.free_ok X G (c.d.fact 66 (f := .free "ValueError") rfl))⟩
  have hnon := (He.noat_ok (c.d.fact 81 (f := .noat "NotRiver" "place") rfl))
  have On : OexC K (He.ga K "NotRiver") := ⟨cls_ok2 cl_n, He.eqO_ok e1n, of_decide_eq_true e2n, of_decide_eq_true e3n, e4n⟩
  have SFn : SupF PP K mg (He.ga K "NotRiver") "__init__" "NotRiver.__init__" (defArgs sNRv) (defBody sNRv) (defScope sNRv) (He.ma K (He.ga K "NotRiver") "__init__") fdnn := ⟨⟨ocn, odn, docn, pmn, cdan, ctn, ccn, osln, enn, lknn, cdnn, fln, cln⟩, by decide +kernel, On, of_decide_eq_true e5n, of_decide_eq_true e6n, He.eqO_ok e7n, He.eqO_ok e8n, B.super⟩
  have hnow := (He.noat_ok (c.d.fact 82 (f := .noat "NotRights" "place") rfl))
  have Ow : OexC K (He.ga K "NotRights") := ⟨cls_ok2 cl_w, He.eqO_ok e1w, of_decide_eq_true e2w, of_decide_eq_true e3w, e4w⟩
  have SFw : SupF PP K mg (He.ga K "NotRights") "__init__" "NotRights.__init__" (defArgs sNRg) (defBody sNRg) (defScope sNRg) (He.ma K (He.ga K "NotRights") "__init__") fdnw := ⟨⟨ocw, odw, docw, pmw, cdaw, ctw, ccw, oslw, enw, lknw, cdnw, flw, clw⟩, by decide +kernel, Ow, of_decide_eq_true e5w, of_decide_eq_true e6w, He.eqO_ok e7w, He.eqO_ok e8w, B.super⟩
  have hnot := (He.noat_ok (c.d.fact 83 (f := .noat "NotText" "line") rfl))
  have Ot : OexC K (He.ga K "NotText") := ⟨cls_ok2 cl_t, He.eqO_ok e1t, of_decide_eq_true e2t, of_decide_eq_true e3t, e4t⟩
  have SFt : SupF PP K mg (He.ga K "NotText") "__init__" "NotText.__init__" (defArgs sNTx) (defBody sNTx) (defScope sNTx) (He.ma K (He.ga K "NotText") "__init__") fdnt := ⟨⟨oct, odt, doct, pmt, cdat, ctt, cct, oslt, ent, lknt, cdnt, flt, clt⟩, by decide +kernel, Ot, of_decide_eq_true e5t, of_decide_eq_true e6t, He.eqO_ok e7t, He.eqO_ok e8t, B.super⟩
  obtain ⟨tS, eS⟩ := He.str_ok X G (c.d.fact 67 (f := .str "SEA" "sea") rfl)
  obtain ⟨tM, eM⟩ := He.int_ok X G (c.d.fact 68 (f := .int "MOST_ROWS" 40) rfl)
  obtain ⟨tL, eL⟩ := He.int_ok X G (c.d.fact 69 (f := .int "LONGEST_NAME" 8) rfl)
  obtain ⟨tW, eW⟩ := He.int_ok X G (c.d.fact 70 (f := .int "WIDTH" 8) rfl)
  have C : Gc mg tS tM tL := ⟨eS, eM, eL⟩
  have T : Rv K mg (He.ga K "River") := ⟨He.cls_ok (c.d.fact 71 (f := .cls "River") rfl), (He.noat_ok (c.d.fact 84 (f := .noat "River" "weirs") rfl)), (He.noat_ok (c.d.fact 85 (f := .noat "River" "_rows") rfl)), (He.noat_ok (c.d.fact 86 (f := .noat "River" "_below") rfl)), (He.noat_ok (c.d.fact 87 (f := .noat "River" "_courses") rfl)), (He.noat_ok (c.d.fact 88 (f := .noat "River" "_above") rfl)), (He.noat_ok (c.d.fact 89 (f := .noat "River" "_upstream") rfl)), (He.noat_ok (c.d.fact 90 (f := .noat "River" "_deepest_first") rfl)), (He.glo_ok X G (c.d.fact 10 (f := .glo "River") rfl))⟩
  have TG : Rg K mg (He.ga K "Rights") := ⟨He.cls_ok (c.d.fact 73 (f := .cls "Rights") rfl), (He.noat_ok (c.d.fact 91 (f := .noat "Rights" "river") rfl)), (He.noat_ok (c.d.fact 92 (f := .noat "Rights" "names") rfl)), (He.noat_ok (c.d.fact 93 (f := .noat "Rights" "_rows") rfl)), (He.noat_ok (c.d.fact 94 (f := .noat "Rights" "_ways") rfl)), (He.noat_ok (c.d.fact 95 (f := .noat "Rights" "_lasts") rfl)), (He.noat_ok (c.d.fact 96 (f := .noat "Rights" "_passing") rfl)), (He.glo_ok X G (c.d.fact 13 (f := .glo "Rights") rfl))⟩
  have S : Sc K (He.ga K "River") := ⟨⟨_, _, F19, s_has_r, t_has_r⟩⟩
  have SG : Gm K (He.ga K "Rights") := ⟨⟨_, _, F25, s_has_g, t_has_g⟩⟩
  have IR : Ri K (He.ga K "River") := ⟨He.eqO_ok r1r, He.eqO_ok r2r, of_decide_eq_true r3r, of_decide_eq_true r4r⟩
  have IG : Ri K (He.ga K "Rights") := ⟨He.eqO_ok r1g, He.eqO_ok r2g, of_decide_eq_true r3g, of_decide_eq_true r4g⟩
  have JQ : Rq K (He.ga K "River") := ⟨⟨_, _, F20, s_eq_r, t_eq_r⟩, nf_r, IR, of_decide_eq_true ty_r⟩
  have Mfr : Mf K mg := ⟨⟨_, _, F2, (He.glo_ok X G (c.d.fact 2 (f := .glo "is_name") rfl))⟩, ⟨_, _, F14, (He.glo_ok X G (c.d.fact 3 (f := .glo "is_row_rivers") rfl))⟩, ⟨_, _, F15, (He.glo_ok X G (c.d.fact 4 (f := .glo "need_rows_rivers") rfl))⟩, ⟨_, _, F3, (He.glo_ok X G (c.d.fact 5 (f := .glo "_course") rfl))⟩, ⟨_, _, F4, (He.glo_ok X G (c.d.fact 6 (f := .glo "_find_courses") rfl))⟩, ⟨_, _, F5, (He.glo_ok X G (c.d.fact 7 (f := .glo "_directly_above") rfl))⟩, ⟨_, _, F6, (He.glo_ok X G (c.d.fact 8 (f := .glo "_find_upstream") rfl))⟩, ⟨_, _, F7, (He.glo_ok X G (c.d.fact 9 (f := .glo "_order_by_depth") rfl))⟩⟩
  have HH : Hf K mg := ⟨B, ⟨_, _, F33, (He.glo_ok X G (c.d.fact 26 (f := .glo "_law_take") rfl))⟩, ⟨_, _, F34, (He.glo_ok X G (c.d.fact 27 (f := .glo "_law_of") rfl))⟩, ⟨_, _, F35, (He.glo_ok X G (c.d.fact 28 (f := .glo "_law_mixed") rfl))⟩, ⟨_, _, F36, (He.glo_ok X G (c.d.fact 29 (f := .glo "_law_names") rfl))⟩⟩
  have W : Wd K w mg := wd_of (dt_at c 0 (q := ("WORDS", ["weir", "right"])) rfl) v_w (He.glo_ok X G (c.d.fact 18 (f := .glo "WORDS") rfl))
  have NR : NpR PP K mg (He.ga K "NotRiver") (He.ma K (He.ga K "NotRiver") "__init__") fdnn := ⟨SFn, hnon, He.eqO_ok e9n, of_decide_eq_true e10n, (He.glo_ok X G (c.d.fact 14 (f := .glo "NotRiver") rfl))⟩
  have NG : NpG PP K mg (He.ga K "NotRights") (He.ma K (He.ga K "NotRights") "__init__") fdnw := ⟨SFw, hnow, He.eqO_ok e9w, of_decide_eq_true e10w, (He.glo_ok X G (c.d.fact 15 (f := .glo "NotRights") rfl))⟩
  have NT : NpT PP K mg (He.ga K "NotText") (He.ma K (He.ga K "NotText") "__init__") fdnt := ⟨SFt, hnot, He.eqO_ok e9t, of_decide_eq_true e10t, (He.glo_ok X G (c.d.fact 16 (f := .glo "NotText") rfl))⟩
  have RT : Te K mg (He.ga K "NotText") (He.ga K "NotRiver") (He.ga K "NotRights") (He.ga K "WeirError") := ⟨⟨He.eqO_ok n1t, He.eqO_ok n2t, of_decide_eq_true e2t, n3t, He.eqO_ok r1t, He.eqO_ok r2t, of_decide_eq_true r3t, of_decide_eq_true r4t⟩, ⟨He.eqO_ok n1t, He.eqO_ok n2t, of_decide_eq_true e2t, n3t⟩, ⟨He.eqO_ok n1n, He.eqO_ok n2n, of_decide_eq_true e2n, n3n⟩, ⟨He.eqO_ok n1w, He.eqO_ok n2w, of_decide_eq_true e2w, n3w⟩, hnot, hnon, hnow, (He.glo_ok X G (c.d.fact 16 (f := .glo "NotText") rfl)), (He.glo_ok X G (c.d.fact 14 (f := .glo "NotRiver") rfl)), (He.glo_ok X G (c.d.fact 15 (f := .glo "NotRights") rfl)), (He.glo_ok X G (c.d.fact 17 (f := .glo "WeirError") rfl)), (He.exm_ok (c.d.fact 75 (f := .exm "NotText" "NotText" true) rfl)), (He.exm_ok (c.d.fact 76 (f := .exm "NotRiver" "NotText" false) rfl)), (He.exm_ok (c.d.fact 77 (f := .exm "NotRiver" "NotRiver" true) rfl)), (He.exm_ok (c.d.fact 78 (f := .exm "NotRights" "NotText" false) rfl)), (He.exm_ok (c.d.fact 79 (f := .exm "NotRights" "NotRiver" false) rfl)), (He.exm_ok (c.d.fact 80 (f := .exm "NotRights" "NotRights" true) rfl)), of_decide_eq_true k_t⟩
  refine ⟨tS, tM, tL, tW, fun base => ?_⟩
  have DW : NdS PP w K mg base (He.ga K "River") := ⟨⟨_, _, F0, (He.glo_ok X G (c.d.fact 0 (f := .glo "need_weir") rfl)), ok_needS F0 S T B⟩⟩
  have DG : NdG PP w K mg base (He.ga K "Rights") (He.ga K "River") := ⟨⟨_, _, F1, (He.glo_ok X G (c.d.fact 1 (f := .glo "need_right") rfl)), ok_needG F1 SG TG B⟩⟩
  have Gg : Mg PP w K mg base (He.ga K "Rights") (He.ga K "River") := ⟨⟨_, _, F2, (He.glo_ok X G (c.d.fact 2 (f := .glo "is_name") rfl))⟩, ⟨_, _, F16, (He.glo_ok X G (c.d.fact 11 (f := .glo "is_row_rights") rfl))⟩, ⟨_, _, F17, (He.glo_ok X G (c.d.fact 12 (f := .glo "need_rows_rights") rfl))⟩, ⟨_, _, F21, He.meth_ok (c.d.fact 97 (f := .meth "River" "is_down") rfl)⟩, ⟨_, _, F22, He.meth_ok (c.d.fact 98 (f := .meth "River" "way") rfl)⟩, ⟨_, _, F28, He.meth_ok (c.d.fact 101 (f := .meth "Rights" "_those_over") rfl)⟩, DW, S⟩
  exact ⟨B, C, T, TG, ⟨_, _, F18, He.mkr_ok (c.d.fact 72 (f := .mkr "River") rfl)⟩, ⟨_, _, F24, He.mkr_ok (c.d.fact 74 (f := .mkr "Rights") rfl)⟩, ⟨_, _, F23, He.meth_ok (c.d.fact 99 (f := .meth "River" "rows") rfl)⟩, ⟨_, _, F27, He.meth_ok (c.d.fact 100 (f := .meth "Rights" "rows") rfl)⟩, ⟨_, _, F29, He.meth_ok (c.d.fact 102 (f := .meth "Rights" "intake") rfl)⟩, ⟨_, _, F30, He.meth_ok (c.d.fact 103 (f := .meth "Rights" "last") rfl)⟩, ⟨_, _, F31, He.meth_ok (c.d.fact 104 (f := .meth "Rights" "passes") rfl)⟩, Mfr, Gg, DG, ⟨_, _, NR⟩, ⟨_, _, NG⟩, ⟨_, _, NT⟩, ⟨_, _, F26, s_eq_g, t_eq_g⟩, He.eqO_ok ne_g, IG, of_decide_eq_true ty_g, nf_g, JQ, W, eW, RT, HH, ⟨_, _, F8, (He.glo_ok X G (c.d.fact 19 (f := .glo "_is_written") rfl))⟩, ⟨_, _, F9, (He.glo_ok X G (c.d.fact 20 (f := .glo "read_chart") rfl))⟩, ⟨_, _, F10, (He.glo_ok X G (c.d.fact 21 (f := .glo "write_chart") rfl))⟩, ⟨_, _, F11, (He.glo_ok X G (c.d.fact 22 (f := .glo "_mark") rfl))⟩, ⟨_, _, F12, (He.glo_ok X G (c.d.fact 23 (f := .glo "_table_line") rfl))⟩, ⟨_, _, F13, (He.glo_ok X G (c.d.fact 24 (f := .glo "chart_table") rfl))⟩, ⟨_, _, F32, (He.glo_ok X G (c.d.fact 25 (f := .glo "_law_bag") rfl))⟩, ⟨_, _, F37, (He.glo_ok X G (c.d.fact 30 (f := .glo "_law_river") rfl))⟩, ⟨_, _, F38, (He.glo_ok X G (c.d.fact 31 (f := .glo "_law_course") rfl))⟩, ⟨_, _, F39, (He.glo_ok X G (c.d.fact 32 (f := .glo "_law_right_names") rfl))⟩, ⟨_, _, F40, (He.glo_ok X G (c.d.fact 33 (f := .glo "_law_rights") rfl))⟩, ⟨_, _, F41, (He.glo_ok X G (c.d.fact 34 (f := .glo "_law_way") rfl))⟩, ⟨_, _, F42, (He.glo_ok X G (c.d.fact 35 (f := .glo "_law_is_name") rfl))⟩, ⟨_, _, F43, (He.glo_ok X G (c.d.fact 36 (f := .glo "_law_is_pair") rfl))⟩, ⟨_, _, F44, (He.glo_ok X G (c.d.fact 37 (f := .glo "_law_wrong_river") rfl))⟩, ⟨_, _, F45, (He.glo_ok X G (c.d.fact 38 (f := .glo "_law_is_right") rfl))⟩, ⟨_, _, F46, (He.glo_ok X G (c.d.fact 39 (f := .glo "_law_wrong_rights") rfl))⟩, ⟨_, _, F47, (He.glo_ok X G (c.d.fact 40 (f := .glo "_law_lines") rfl))⟩, ⟨_, _, F48, (He.glo_ok X G (c.d.fact 41 (f := .glo "_law_bent") rfl))⟩, ⟨_, _, F49, (He.glo_ok X G (c.d.fact 42 (f := .glo "_law_spoilt") rfl))⟩, ⟨_, _, F50, (He.glo_ok X G (c.d.fact 43 (f := .glo "_law_due") rfl))⟩, ⟨_, _, F51, (He.glo_ok X G (c.d.fact 44 (f := .glo "_law_told") rfl))⟩, ⟨_, _, F52, (He.glo_ok X G (c.d.fact 45 (f := .glo "_law_table") rfl))⟩, ⟨_, _, F53, (He.glo_ok X G (c.d.fact 46 (f := .glo "_law_chart_right") rfl))⟩⟩
theorem facts {w : World} {K : Frag} {h : Heap} {mg : Str → Option Value} {f : Addr} (X : K.In h) (G : h.Ns mainGlobals mg) (hfa : mg ("law" : Str) = some (.ref f)) (c : SaysY w h K) : LawAtS PySem.Challenge.rw_weirkeepers_k04_whole_charts_read w K CX0 10 63 "_law_script" mg f h := by
  obtain ⟨fd, fL⟩ := c.d.def_ 54 (d := dD "law" sLaw) rfl
  have e := hfa.symm.trans (He.glo_ok X G (c.d.fact 47 (f := .glo "law") rfl))
  cases e
  have F : FnP K "law" sLaw (He.ga K "law") fd := fL
  have b := FunD.bindsA (ps := ["_law_script"]) F fun _ _ _ _ _ _ us hl => match us, hl with | [_], _ => rfl
  refine ⟨fd, [], spLaw K, fun p hp => absurd hp List.not_mem_nil, fun p hp => absurd hp List.not_mem_nil, fun p hp => absurd hp List.not_mem_nil, fun s u => b s [u] rfl, fun H a ns hl _ hT hS => ⟨a, ns, rfl, hS, hl, fun _ => rfl⟩, fun base KX _ TB => ?_⟩
  obtain ⟨tS, tM, tL, tW, hA⟩ := all_ok (w := w) X G c
  exact ok_law F (hA base)
end K0H
open PySem PySem.W PySem.Calls PyProof.Rows
theorem PySem.Challenge.cw_weirkeepers_k04_whole_charts_read_holds : PySem.Challenge.rw_weirkeepers_k04_whole_charts_read.Holds := by
  w_on; o_law
  refine HandSHeadRun.head_any (r := OpenLaw.row PySem.Challenge.rw_weirkeepers_k04_whole_charts_read) (q := view (OpenLaw.row PySem.Challenge.rw_weirkeepers_k04_whole_charts_read).prog [65]) (H := K0H.hk 4) (ob := K0H.ob) (M := 6000) (loose := K0H.loose) (d := HandSHeadRun.topDef (OpenLaw.row PySem.Challenge.rw_weirkeepers_k04_whole_charts_read).prog 65) (kwd := []) K0H.ob_eq
    (by kernel_rfl) (fun s => by kernel_rfl) K0H.run (by kernel_rfl) (by kernel_rfl) (by kernel_rfl) (by rfl) (by first | assumption | decide +kernel) (by decide +kernel) ⟨rfl, rfl, rfl, rfl, rfl, by decide +kernel⟩ ?hw ?hc
  case hw => w_witness2
  case hc =>
    refine LamX.walk_ofTsE (l := PySem.Challenge.rw_weirkeepers_k04_whole_charts_read) (n := 63) (k := 10) (x := "_law_script") (CX := fun _ => L2.CX0) rfl (by decide) (by kernel_rfl) ⟨rfl, by decide, by decide⟩ ?F (fun _ _ _ _ _ z => z)
    intro w mg fa h Y G hmg0
    obtain ⟨K, KX, c⟩ := Y
    have hmg : mg ("law" : PySem.Str) = some (.ref fa) := by
      have e : (HandSHeadRun.topDef (OpenLaw.row PySem.Challenge.rw_weirkeepers_k04_whole_charts_read).prog 65).name = ("law" : PySem.Str) := by kernel_rfl
      rw [← e]
      exact hmg0
    exact ⟨K, KX, K0H.facts KX G hmg c⟩
end
