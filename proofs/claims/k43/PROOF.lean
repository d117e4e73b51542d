import PyProof.Rows.All
import Wide.All
import OpenK.AllK
import Wide.FinOn
import HandS.ForMost
import HandS.Defaults
import HandS.Walk
import HandS.Wide
import PySem.Challenge.RW_weirkeepers_k43_days_as_texts
import PySem.Str
import HandS.DictComp
import HandS.IsInst
import HandS.Flow
import KE.GoesEnum
import HandS.TupSets
import HandS.IterVal
import HandS.OwnEq
import KE.KOwnIter
import HandS.TupAny
import HandS.Strs
import KE.GoesMore
import HandS.Style
import KE.KIntText
import HandS.Text
import PyProof.InstEq
import PyProof.FString
import PyProof.FString4
import HandS.FStr
import HandS.FStrTup
import PyProof.ReprHeadsEmpty
import PyProof.ReprLen
import HandS.ExcInit
import HandS.Nested
import KE.KSuper
import KE.KExcSuper
import HandS.ExcIs
import HandS.ExcField
import HandS.TryOnly
import KE.KExcIs
import HandS.TryMany
import HandS.StrMore
import PyProof.StrBlock2
import KE.KStateDown
import Lean
import HandS.Ends
import HandS.More
import HandS.Words
import HandS.WordsExc
import HandS.Head0
import HandS.Head1
import HandS.Head2
import HandS.HeadEnd
import HandS.HeadHook1
import HandS.HeadHook2
import HandS.HeadHook3
import HandS.HeadHook4
import HandS.HeadWalk

section
set_option Elab.async false
set_option linter.all false
set_option maxRecDepth 100000
namespace K0
open PySem PySem.Spec PyProof.Rows L2
/-! ### the text by places -/
def top (i : Nat) : Stmt := PySem.Challenge.pw_weirkeepers_k43_days_as_texts.main.body.getD i (.Pass ⟨0, 0, 0, 0⟩)
abbrev sIsNat : Stmt := top 13
abbrev sIsWhole : Stmt := top 14
abbrev sIsCubes : Stmt := top 15
abbrev sNumeral : Stmt := top 16
abbrev sNeed : Stmt := top 17
abbrev sNeedR : Stmt := top 18
abbrev sNeedCubes : Stmt := top 20
abbrev sDay : Stmt := top 21
abbrev sIsLine : Stmt := top 23
abbrev sReadDay : Stmt := top 24
abbrev sWriteDay : Stmt := top 25
abbrev sIsName : Stmt := top 30
abbrev sIsRow : Stmt := top 31
abbrev sNeedRows : Stmt := top 33
abbrev sCourse : Stmt := top 35
abbrev sFind : Stmt := top 36
abbrev sAbove : Stmt := top 37
abbrev sUp : Stmt := top 38
abbrev sOrder : Stmt := top 39
abbrev sRiver : Stmt := top 40
abbrev sIsRowR : Stmt := top 42
abbrev sNeedRowsR : Stmt := top 44
abbrev sRights : Stmt := top 46
abbrev sBag : Stmt := top 48
abbrev sTake : Stmt := top 49
abbrev sOf : Stmt := top 50
abbrev sMixed : Stmt := top 51
abbrev sNames : Stmt := top 52
abbrev sLRiver : Stmt := top 53
abbrev sLCourse : Stmt := top 54
abbrev sLRights : Stmt := top 55
abbrev sLCubes : Stmt := top 56
abbrev sLAmounts : Stmt := top 57
abbrev sLSize : Stmt := top 58
abbrev sLLines : Stmt := top 59
abbrev sLRead : Stmt := top 60
abbrev sLNumber : Stmt := top 61
abbrev sLWrong : Stmt := top 62
abbrev sLaw : Stmt := top 63
abbrev FnP (K : PySem.W.Frag) (x : Str) (st : Stmt) (f : Addr) (fd : FuncData) : Prop := FunD K x x (defArgs st) (defBody st) (defScope st) [] [] f fd
abbrev FnM (K : PySem.W.Frag) (x q : Str) (st : Stmt) (f : Addr) (fd : FuncData) : Prop := FunD K x q (defArgs st) (defBody st) (defScope st) [] [] f fd
/-! ### heaps -/
/-- all that was tracked is as it was, but what stands at p -/
def Upto (p : Addr) (H H' : Hp) : Prop := ∀ b o, H b = some o → b ≠ p → H' b = some o
theorem Upto.refl {p : Addr} {H : Hp} : Upto p H H := fun _ _ h _ => h
theorem Upto.trans {p : Addr} {H H1 H2 : Hp} (a : Upto p H H1) (b : Upto p H1 H2) : Upto p H H2 := fun c o h n => b c o (a c o h n) n
theorem Upto.of {p : Addr} {H H' : Hp} (s : Same H H') : Upto p H H' := fun b o h _ => s b o h
theorem Upto.at_ {p : Addr} {H : Hp} {o : HO} : Upto p H (upd H p o) := fun b u h n => by rw [upd_ne n]; exact h
theorem same_upd {H : Hp} {p : Addr} {o : HO} (h : H p = none) : Same H (upd H p o) := fun b x e => by
  rw [upd_ne (ne_of_none e h)]
  exact e
theorem Upto.seq {K : PySem.W.Frag} {p : Addr} {H H' : Hp} {a : Addr} {xs : List V} (e : Upto p H H') (n : a ≠ p) (h : SqL K H a xs) : SqL K H' a xs := by
  rcases h with (h | ⟨o, h⟩) | h
  · exact .inl (.inl (e _ _ h n))
  · exact .inl (.inr ⟨o, e _ _ h n⟩)
  · exact .inr h
/-- the bag: two whole numbers from 0 on -/
def BagV (xs : List V) : Prop := ∃ x y : Int, xs = [.int x, .int y] ∧ 0 ≤ x ∧ 0 ≤ y ∧ y < 2147483648
def BagAt (H : Hp) (p : Addr) : Prop := ∃ xs, H p = some (.lst xs) ∧ BagV xs
/-! ### promises of the law's own helpers -/
def spBag (K : PySem.W.Frag) : Sp := fun vs H Q _ => ∃ (a : Addr) (ns : List Int) (i z : Int), vs = [.ref a, .int i, .int z] ∧ SqL K H a (ns.map V.int) ∧ ns.length ≤ 63 ∧ 0 ≤ i ∧ i ≤ 100 ∧ 0 ≤ z ∧ z ≤ 100000000 ∧
  ∀ H' p, Same H H' → H p = none → BagAt H' p → Q (.ref p) H'
def spTake : Sp := fun vs H Q _ => ∃ (p : Addr) (m : Int), vs = [.ref p, .int m] ∧ BagAt H p ∧ 0 < m ∧ m < 200000000000000000000000000000000 ∧
  ∀ (r : Int) (xs : List V), 0 ≤ r → r < m → BagV xs → Q (.int r) (upd H p (.lst xs))
def spOf (K : PySem.W.Frag) : Sp := fun vs H Q _ => ∃ (p a : Addr) (ys : List V), vs = [.ref p, .ref a] ∧ BagAt H p ∧ a ≠ p ∧ SqL K H a ys ∧ 0 < ys.length ∧ ys.length ≤ 1000 ∧
  ∀ (i : Nat) (v : V) (xs : List V), ys[i]? = some v → BagV xs → Q v (upd H p (.lst xs))
def spMixed (K : PySem.W.Frag) : Sp := fun vs H Q _ => ∃ (p a : Addr) (ys : List V), vs = [.ref p, .ref a] ∧ BagAt H p ∧ a ≠ p ∧ SqL K H a ys ∧ ys.length ≤ 1000 ∧
  ∀ (H' : Hp) (l : Addr) (zs : List V), Upto p H H' → BagAt H' p → H l = none → l ≠ p → H' l = some (.lst zs) → zs.Perm ys → Q (.ref l) H'
section
variable {P : Program} {w : World} {K : PySem.W.Frag} {mg : Str → Option Value} {base : Heap}
theorem scBag : FnScope ["_law_script", "_law_at", "_law_salt", "_law_cell", "_law_blend", "_law_k", "_law_each"] ["_law_script", "_law_at", "_law_salt"] (defScope sBag) := ⟨rfl, rfl, rfl, by decide +kernel, rfl, by decide +kernel, by decide +kernel⟩
theorem scTake : FnScope ["_law_bag_here", "_law_many", "_law_digit"] ["_law_bag_here", "_law_many"] (defScope sTake) := ⟨rfl, rfl, rfl, by decide +kernel, rfl, by decide +kernel, by decide +kernel⟩
theorem scOf : FnScope ["_law_bag_here", "_law_some"] ["_law_bag_here", "_law_some"] (defScope sOf) := ⟨rfl, rfl, rfl, by decide +kernel, rfl, by decide +kernel, by decide +kernel⟩
theorem scMixed : FnScope ["_law_bag_here", "_law_some", "_law_rest", "_law_found", "_law_k"] ["_law_bag_here", "_law_some"] (defScope sMixed) := ⟨rfl, rfl, rfl, by decide +kernel, rfl, by decide +kernel, by decide +kernel⟩
/-- built-in names that the module leaves alone -/
structure Bl (mg : Str → Option Value) : Prop where
  len : mg "len" = none
  enumerate : mg "enumerate" = none
  int : mg "int" = none
  abs : mg "abs" = none
  list : mg "list" = none
  range : mg "range" = none
  dict : mg "dict" = none
  tuple : mg "tuple" = none
  isinstance : mg "isinstance" = none
  str : mg "str" = none
  all : mg "all" = none
  any : mg "any" = none
  bool : mg "bool" = none
  sorted : mg "sorted" = none
  max : mg "max" = none
  min : mg "min" = none
  iter : mg "iter" = none
  super : mg "super" = none
  valueError : mg "ValueError" = none
  sum : mg "sum" = none
end
end K0
end
section
set_option Elab.async false
set_option linter.all false
set_option maxRecDepth 100000
namespace K0
open PySem PySem.Spec PyProof.Rows L2
section
variable {P : Program} {w : World} {K : PySem.W.Frag} {mg : Str → Option Value} {base : Heap}
theorem mod_ok (x : Int) {m : Int} (h : 0 < m) : 0 ≤ x % m ∧ x % m < m := ⟨Int.emod_nonneg _ (by omega), Int.emod_lt_of_pos _ h⟩
theorem perm_move {α : Type} {rs fs : List α} {j : Nat} (hj : j < rs.length) : (rs.eraseIdx j ++ (fs ++ [rs[j]])).Perm (rs ++ fs) := by
  have h1 : (rs[j] :: rs.eraseIdx j).Perm rs := by
    have e : rs = rs.take j ++ rs[j] :: rs.drop (j + 1) := by
      rw [List.getElem_cons_drop, List.take_append_drop]
    rw [List.eraseIdx_eq_take_drop_succ]
    refine List.Perm.trans List.perm_middle.symm ?_
    rw [← e]
  have h2 : (rs.eraseIdx j ++ (fs ++ [rs[j]])).Perm ([rs[j]] ++ (rs.eraseIdx j ++ fs)) := by
    rw [← List.append_assoc]
    exact List.perm_append_comm
  exact h2.trans ((h1.append_right fs))
theorem ok_take {f : Addr} {fd : FuncData} (F : FnP K "_law_take" sTake f fd) (B : Bl mg) : FnOk P w K mg base CX0 1 f fd ["_law_bag_here", "_law_many"] spTake := by
  refine F.ok scTake (fun vs H Q E h => ?_) (fun cdv A outer s H vs Q E hr h => ?_)
  · obtain ⟨p, m, rfl, _⟩ := h
    rfl
  · obtain ⟨p, m, rfl, ⟨xs, hp, x, y, rfl, hx, hy, hy2⟩, hm, hm2, k⟩ := h
    refine ⟨_, PSs.nox (pss_cons (ps_if (pt_cmpR op_gt (pe_ix ix_list (pv 0) pe_int (fun _ _ => rfl)) pe_int (nomark _))
        (pss_cons (ps_set (i := 2) scTake.nd rfl (Or.inl rfl) (pe_op op_mod (pe_callTy call_int1 (by rfl) B.int (by decide +kernel) (pa_cons (pe_ix ix_list (pv 0) pe_int (fun _ _ => rfl)) pa_nil)) (pv 1)))
        (pss_cons (ps_asg (pe_op op_fdivW (pe_ix ix_list (pv 0) pe_int (fun _ _ => rfl)) (pv 1)) (pg_sub (pv 0) pe_int set_list))
        (pss_one (ps_ret (pv 2))))) pss_nil)
      (pss_cons (ps_asg (pe_op op_mod (pe_callTy call_int1 (by rfl) B.int (by decide +kernel) (pa_cons (pe_op op_add (pe_op op_mul (pe_ix ix_list (pv 0) pe_int (fun _ _ => rfl)) pe_int) pe_int) pa_nil)) pe_int) (pg_sub (pv 0) pe_int set_list))
      (pss_one (ps_ret (pe_op op_mod (pe_op op_fdiv (pe_op op_mod (pe_callTy call_int1 (by rfl) B.int (by decide +kernel) (pa_cons (pe_op op_mul (pe_op op_fdiv (pe_ix ix_list (pv 0) pe_int (fun _ _ => rfl)) pe_int) pe_int) pa_nil)) pe_int) pe_int) (pv 1)))))), ?_⟩
    have g0 : SqL K H p [.int x, .int y] := .inl (.inl hp)
    refine ⟨_, rfl, p, _, _, _, rfl, rfl, g0, atI_nat (j := 0) rfl, x, 0, rfl, rfl, _, rfl, ?_⟩
    refine ite2 (fun hx0 => ?_) (fun hx0 => ?_)
    · have r1 := mod_ok x hm
      refine ⟨_, rfl, p, _, _, _, rfl, rfl, g0, atI_nat (j := 0) rfl, .inl ⟨x, rfl, _, rfl, x, m, rfl, rfl, hm, ?_⟩⟩
      refine ⟨_, rfl, p, _, _, _, rfl, rfl, g0, atI_nat (j := 0) rfl, _, rfl, x, m, rfl, rfl, wide_div hm (b := 110) (by omega) (by decide) (by decide), _, rfl, p, _, 0, 0, rfl, rfl, hp, rfl, ?_⟩
      refine ⟨_, rfl, ?_⟩
      exact k (x % m) [.int (x / m), .int y] r1.1 r1.2 ⟨x / m, y, rfl, Int.ediv_nonneg hx (by omega), hy, hy2⟩
    · have r1 := mod_ok (y * 38177 + 4001) (m := 2147483587) (by decide)
      refine ⟨_, rfl, p, _, _, _, rfl, rfl, g0, atI_nat (j := 1) rfl, y, 38177, rfl, rfl, .inl ⟨by omega, by omega⟩, _, _, rfl, rfl, .inl ⟨_, rfl, _, _, rfl, rfl, (by show (0 : Int) < 2147483587; decide), _, rfl, p, _, 1, 1, rfl, rfl, hp, rfl, ?_⟩⟩
      have gz : (upd H p (.lst (([V.int x, .int y] : List V).set 1 (.int ((y * 38177 + 4001) % 2147483587))))) p = some (.lst [.int x, .int ((y * 38177 + 4001) % 2147483587)]) := upd_same
      refine ⟨_, rfl, p, _, _, _, rfl, rfl, .inl (.inl gz), atI_nat (j := 1) rfl, _, 11, rfl, rfl, ⟨by decide, by decide⟩, _, 52817, rfl, rfl, .inl ⟨by omega, by omega⟩, .inl ⟨_, rfl, _, _, rfl, rfl, (by show (0 : Int) < 2147483629; decide), _, _, rfl, rfl, ⟨by decide, by decide⟩, _, rfl, _, m, rfl, rfl, hm, ?_⟩⟩
      have r2 := mod_ok ((y * 38177 + 4001) % 2147483587 / 11 * 52817 % 2147483629 / 32) hm
      exact k _ _ r2.1 r2.2 ⟨x, _, rfl, hx, r1.1, by omega⟩
theorem ok_of {f fT : Addr} {fd fdT : FuncData} (F : FnP K "_law_of" sOf f fd) (FT : FnP K "_law_take" sTake fT fdT) (B : Bl mg) (gT : mg "_law_take" = some (.ref fT)) : FnOk P w K mg base CX0 2 f fd ["_law_bag_here", "_law_some"] (spOf K) := by
  have GT : FnOk P w K mg base CX0 1 fT fdT ["_law_bag_here", "_law_many"] spTake := ok_take FT B
  have bT : Binds K fdT ["_law_bag_here", "_law_many"] [] := FT.bindsN fun _ _ _ _ _ _ us hl => match us, hl with | [_, _], _ => rfl
  refine F.ok scOf (fun vs H Q E h => ?_) (fun cdv A outer s H vs Q E hr h => ?_)
  · obtain ⟨p, a, ys, rfl, _⟩ := h
    rfl
  · obtain ⟨p, a, ys, rfl, hB, hne, hS, h0, h1, k⟩ := h
    refine ⟨_, PSs.nox (pss_one (ps_ret (pe_ix ix_list (pv 1) (pe_call GT hr (by rfl) gT FT.kp bT .nil pass0 (pa_cons (pv 0) (pa_cons (pe_callB call_len_seq (by rfl) B.len PySem.boot_len (pa_cons (pv 1) pa_nil)) pa_nil))) (fun _ _ => rfl)))), ?_⟩
    refine ⟨_, rfl, _, rfl, _, rfl, a, ys, rfl, .inl hS, p, (ys.length : Int), rfl, hB, by omega, by omega, fun r xs hr0 hr1 hx => ?_⟩
    obtain ⟨j, rfl⟩ : ∃ j : Nat, r = (j : Int) := ⟨r.toNat, by omega⟩
    have hj : j < ys.length := by omega
    refine ⟨a, ys, _, ys[j], rfl, rfl, ?_, atI_nat (j := j) (List.getElem?_eq_getElem hj), k j _ xs (List.getElem?_eq_getElem hj) hx⟩
    exact (Upto.at_ (p := p)).seq hne hS
theorem ok_mixed {f fT : Addr} {fd fdT : FuncData} (F : FnP K "_law_mixed" sMixed f fd) (FT : FnP K "_law_take" sTake fT fdT) (B : Bl mg) (gT : mg "_law_take" = some (.ref fT)) : FnOk P w K mg base CX0 2 f fd ["_law_bag_here", "_law_some"] (spMixed K) := by
  have GT : FnOk P w K mg base CX0 1 fT fdT ["_law_bag_here", "_law_many"] spTake := ok_take FT B
  have bT : Binds K fdT ["_law_bag_here", "_law_many"] [] := FT.bindsN fun _ _ _ _ _ _ us hl => match us, hl with | [_, _], _ => rfl
  refine F.ok scMixed (fun vs H Q E h => ?_) (fun cdv A outer s H vs Q E hr h => ?_)
  · obtain ⟨p, a, ys, rfl, _⟩ := h
    rfl
  · obtain ⟨p, a, ys, rfl, hB, hne, hS, h1, k⟩ := h
    refine ⟨_, PSs.nox (pss_cons (ps_par (i := 2) (j := 3) (by rfl) scMixed.nd rfl rfl (by decide) rfl rfl (pa_cons (pe_callTy call_list_of (by rfl) B.list (by decide +kernel) (pa_cons (pv 1) pa_nil)) (pa_cons (pe_lst pa_nil) pa_nil)) (by rfl))
      (pss_cons (ps_for PassesOwn.never rfl (pi_range1 (by rfl) B.range (pa_cons (pe_callB call_len_seq (by rfl) B.len PySem.boot_len (pa_cons (pv 1) pa_nil)) pa_nil)) (pg_name (i := 4) scMixed.nd rfl (Or.inl rfl))
        (pss_one (ps_expr (pe_bm PySem.F.plainAttrs_list PySem.F.slot_list_append PySem.F.type_list_append mt_append (pv 3)
          (pa_cons (pe_bm PySem.F.plainAttrs_list PySem.F.slot_list_pop PySem.F.type_list_pop mt_popAt (pv 2)
            (pa_cons (pe_call GT hr (by rfl) gT FT.kp bT .nil pass0 (pa_cons (pv 0) (pa_cons (pe_callB call_len_seq (by rfl) B.len PySem.boot_len (pa_cons (pv 2) pa_nil)) pa_nil))) pa_nil)) pa_nil)))))
      (pss_one (ps_ret (pv 3))))), ?_⟩
    refine ⟨_, rfl, a, ys, rfl, .inl hS, fun r nr => ⟨Nat.zero_le _, fun l nl => ?_⟩⟩
    have nrl : r ≠ l := ne_of_none upd_same nl
    have nl0 : H l = none := by
      rw [upd_ne nrl.symm] at nl
      exact nl
    obtain ⟨b0, hb0, hv0⟩ := id hB
    have npr : p ≠ r := ne_of_none hb0 nr
    have npl : p ≠ l := ne_of_none hb0 nl0
    have s1 : Same H (upd (upd H r (.lst ys)) l (.lst [])) := (same_upd nr).trans (same_upd nl)
    refine ⟨_, _, rfl, ?_⟩
    refine ⟨_, rfl, a, ys, rfl, .inl (s1.seq hS), (ys.length : Int), rfl, by omega, by omega, ?_⟩
    refine for_range (n := ys.length) (lo := 0) (fun i σ H2 => ∃ (v : Option V) (rs fs : List V), σ = [some (.ref p), some (.ref a), some (.ref r), some (.ref l), v] ∧ Upto p H H2 ∧ BagAt H2 p ∧ H2 r = some (.lst rs) ∧ H2 l = some (.lst fs) ∧ fs.length = i ∧ (rs ++ fs).Perm ys)
      ⟨none, ys, [], rfl, .of s1, ⟨b0, by rw [upd_ne npl, upd_ne npr]; exact hb0, hv0⟩, by rw [upd_ne nrl, upd_same], upd_same, rfl, by rw [List.append_nil]⟩ ?_ ?_
    · rintro i σ H2 hi ⟨v, rs, fs, rfl, u2, B2, hr2, hl2, hlen, hp⟩
      have hlr : rs.length + fs.length = ys.length := by
        have := hp.length_eq
        rw [List.length_append] at this
        exact this
      refine ⟨_, rfl, .inl ⟨rfl, _, .inl (.inl hl2)⟩, _, rfl, .inl ⟨rfl, _, .inl (.inl hr2)⟩, _, rfl, _, rfl, r, rs, rfl, .inl (.inl (.inl hr2)), p, (rs.length : Int), rfl, B2, by omega, by omega, fun d xs hd0 hd1 hx => ?_⟩
      obtain ⟨j, rfl⟩ : ∃ j : Nat, d = (j : Int) := ⟨d.toNat, by omega⟩
      have hj : j < rs.length := by omega
      refine ⟨r, rs, j, j, rs[j], rfl, rfl, by rw [upd_ne npr.symm]; exact hr2, by omega, by omega, ?_, List.getElem?_eq_getElem hj, ?_⟩
      · rw [seqIndex_of (by omega) (by omega)]
        rfl
      · refine ⟨l, fs, rs[j], rfl, rfl, by rw [upd_ne nrl.symm, upd_ne npl.symm]; exact hl2, small1000 (by omega), ?_⟩
        refine ⟨_, rs.eraseIdx j, fs ++ [rs[j]], rfl, ?_, ⟨xs, by rw [upd_ne npl, upd_ne npr, upd_same], hx⟩, by rw [upd_ne nrl, upd_same], upd_same, by simp [hlen], ?_⟩
        · intro b o hb hn
          rw [upd_ne (ne_of_none hb nl0), upd_ne (ne_of_none hb nr), upd_ne hn]
          exact u2 b o hb hn
        · refine List.Perm.trans ?_ hp
          exact perm_move hj
    · rintro σ H2 ⟨v, rs, fs, rfl, u2, B2, hr2, hl2, hlen, hp⟩
      have hlr : rs.length + fs.length = ys.length := by
        have := hp.length_eq
        rw [List.length_append] at this
        exact this
      have e : rs = [] := List.eq_nil_of_length_eq_zero (by omega)
      subst e
      exact ⟨_, rfl, k H2 l fs u2 B2 nl0 npl.symm hl2 hp⟩
end
end K0
end
section
set_option Elab.async false
set_option linter.all false
set_option maxRecDepth 100000
namespace K0
open PySem PySem.Spec PyProof.Rows L2
theorem split_if {α : Type} {C : α → Prop} {G : Prop} (use : (∀ c, C c) → G) (key : ∀ c, C c) : G := use key
section
variable {P : Program} {w : World} {K : PySem.W.Frag} {mg : Str → Option Value} {base : Heap}
theorem cutV_sub {xs : List V} {a b : Option Int} {v : V} (h : v ∈ cutV xs a b) : v ∈ xs := by
  unfold cutV at h
  exact List.mem_of_mem_drop (List.mem_of_mem_take h)
theorem cutV_len {xs : List V} {a b : Option Int} : (cutV xs a b).length ≤ xs.length := by
  unfold cutV
  rw [List.length_take, List.length_drop]
  omega
theorem ok_bag {f : Addr} {fd : FuncData} (F : FnP K "_law_bag" sBag f fd) (B : Bl mg) : FnOk P w K mg base CX0 1 f fd ["_law_script", "_law_at", "_law_salt"] (spBag K) := by
  refine F.ok scBag (fun vs H Q E h => ?_) (fun cdv A outer s H vs Q E hr h => ?_)
  · obtain ⟨a, ns, i, z, rfl, _⟩ := h
    rfl
  · obtain ⟨a, ns, i, z, rfl, hS, hl, hi, hi2, hz, hz2, k⟩ := h
    refine ⟨_, PSs.nox (pss_cons
      (ps_set (i := 3) scBag.nd rfl (Or.inl rfl) (pe_ifExp (pt_cmpR op_lt (pv 1) (pe_callB call_len_seq (by rfl) B.len PySem.boot_len (pa_cons (pv 0) pa_nil)) (nomark _)) (pe_ix ix_list (pv 0) (pv 1) (fun _ _ => rfl)) pe_int))
      (pss_cons
      (ps_set (i := 4) scBag.nd rfl (Or.inl rfl) (pe_op op_add (pv 2) (pe_op op_mul pe_int (pv 1))))
      (pss_cons
      (ps_for PassesOwn.never rfl (pi_enum (by rfl) B.enumerate (pa_cons (pe_slice sl_list (pv 0) po_none (po_some pe_int)) pa_nil)) (pg_tup (by rfl) (pgs_cons (pg_name (i := 5) scBag.nd rfl (Or.inl rfl)) (pgs_cons (pg_name (i := 6) scBag.nd rfl (Or.inl rfl)) pgs_nil))) (pss_one
      (ps_set (i := 4) scBag.nd rfl (Or.inl rfl) (pe_op op_mod (pe_callTy call_int1 (by rfl) B.int (by decide +kernel) (pa_cons (pe_op op_add (pe_op op_add (pe_op op_add (pe_op op_mul (pv 4) pe_int) (pe_op op_mod (pe_callTy call_int1 (by rfl) B.int (by decide +kernel) (pa_cons (pv 6) pa_nil)) pe_int)) (pe_op op_mul pe_int (pv 5))) pe_int) pa_nil)) pe_int))))
      (pss_one
      (ps_ret (pe_lst (pa_cons (pe_ifExp (pt_cmpR op_ge (pe_callB call_abs (by rfl) B.abs (by decide +kernel) (pa_cons (pv 3) pa_nil)) (pe_op op_pow pe_int pe_int) (nomark _)) (pe_callB call_abs (by rfl) B.abs (by decide +kernel) (pa_cons (pv 3) pa_nil)) pe_int) (pa_cons (pv 4) pa_nil)))))))), ?_⟩
    refine ⟨_, rfl, _, rfl, a, _, rfl, .inl hS, i, (((ns.map V.int).length : Nat) : Int), rfl, rfl, _, rfl, ?_⟩
    refine split_if (α := Int) (C := ?C) ?use ?key
    case use =>
      intro key
      refine ite2 (fun hc => ?_) (fun hc => ?_)
      · have hc := of_decide_eq_true hc
        obtain ⟨j, ej⟩ : ∃ j : Nat, i = (j : Int) := ⟨i.toNat, by omega⟩
        rw [List.length_map] at hc
        have hj : j < ns.length := by omega
        obtain ⟨c, hcv⟩ : ∃ c : Int, (ns.map V.int)[j]? = some (.int c) := ⟨ns[j], by rw [List.getElem?_map, List.getElem?_eq_getElem hj]; rfl⟩
        refine ⟨_, rfl, _, rfl, a, _, _, _, rfl, rfl, hS, at_of ej hcv, ?_⟩
        exact key c
      · exact key 0
    case key =>
      intro c
      refine ⟨_, rfl, _, rfl, 1009, i, rfl, rfl, .inl ⟨by decide, by decide⟩, z, _, rfl, rfl, ?_⟩
      refine ⟨_, rfl, 63, rfl, a, _, rfl, hS, fun q nq => ⟨q, _, rfl, .inl (.inl upd_same), ?_⟩⟩
      refine for_it (walk_enum (xs := cutV (ns.map V.int) none (some 63))) (fun t σ H2 => ∃ (b : Int) (v1 v2 : Option V), σ = [some (.ref a), some (.int i), some (.int z), some (.int c), some (.int b), v1, v2] ∧ 0 ≤ b ∧ b < 2147483648 ∧ Same H H2 ∧ H2 q = some (.lst (cutV (ns.map V.int) none (some 63))))
        ⟨_, none, none, rfl, by omega, by omega, same_upd nq, upd_same⟩ (fun _ _ _ _ h => by obtain ⟨_, _, _, _, _, _, _, e⟩ := h; exact .inl (.inl e)) ?_ ?_
      · rintro t x σ H2 H3 ht ⟨b, v1, v2, rfl, hb0, hb1, sm, hq⟩ ⟨T, x1, x2, rfl, hT, rfl, e1, e2⟩
        have nq2 : q ≠ T := ne_of_none hq hT
        have ex1 : x1 = .int (t : Int) := (Option.some.inj e1).symm
        have hx2 : ∃ y : Int, x2 = .int y := by
          obtain ⟨y, _, ey⟩ := List.mem_map.mp (cutV_sub (List.mem_of_getElem? e2))
          exact ⟨y, ey.symm⟩
        obtain ⟨y, rfl⟩ := hx2
        subst ex1
        have ht' : t < 63 := by
          have h1 := cutV_len (xs := ns.map V.int) (a := none) (b := some 63)
          rw [List.length_map] at h1
          omega
        have r1 := mod_ok y (m := 2147483549) (by decide)
        have r2 := mod_ok (b * 44497 + y % 2147483549 + 71 * (t : Int) + 9) (m := 2147483549) (by decide)
        refine ⟨T, _, rfl, .inl (.inl upd_same), rfl, _, _, rfl, _, _, rfl, rfl, ?_⟩
        refine ⟨_, rfl, b, 44497, rfl, rfl, .inl ⟨by omega, by omega⟩, _, rfl, .inl ⟨y, rfl, _, _, rfl, rfl, (by show (0 : Int) < 2147483549; decide), _, _, rfl, rfl, ?_⟩⟩
        refine ⟨_, rfl, 71, (t : Int), rfl, rfl, .inl ⟨by decide, by decide⟩, _, _, rfl, rfl, _, _, rfl, rfl, .inl ⟨_, rfl, _, _, rfl, rfl, (by show (0 : Int) < 2147483549; decide), ?_⟩⟩
        refine ⟨_, _, _, rfl, r2.1, by omega, sm.trans (same_upd hT), ?_⟩
        rw [upd_ne nq2]
        exact hq
      · rintro σ H2 ⟨b, v1, v2, rfl, hb0, hb1, sm, hq⟩
        refine ⟨_, rfl, c, rfl, 10, 18, rfl, rfl, ⟨by decide, by decide, by decide⟩, _, _, rfl, rfl, _, rfl, ?_⟩
        have fin : ∀ (g : Int) (p : Addr), 0 ≤ g → H2 p = none → Q (.ref p) (upd H2 p (.lst [.int g, .int b])) := fun g p hg np =>
          k _ p (sm.trans (same_upd np)) (sm.free np) ⟨_, upd_same, g, b, rfl, hg, hb0, hb1⟩
        refine ite2 (fun _ => ?_) (fun _ => ?_)
        · refine ⟨_, rfl, c, rfl, _, rfl, by show 2 ≤ sizeLine; decide, fun p np => ?_⟩
          exact fin _ p (by split <;> omega) np
        · refine ⟨_, rfl, by show 2 ≤ sizeLine; decide, fun p np => ?_⟩
          exact fin 0 p (by omega) np
end
end K0
end
section
set_option linter.all false
namespace K0
open PySem
/-! ### names -/
def Low (c : Nat) : Prop := 97 ≤ c ∧ c ≤ 122
structure NameOk (x : Str) : Prop where
  one : 1 ≤ x.cps.toList.length
  most : x.cps.toList.length ≤ 8
  low : ∀ c ∈ x.cps.toList, Low c
theorem str_ext {x y : Str} (h : x.cps.toList = y.cps.toList) : x = y := by
  cases x with | mk a => cases y with | mk b =>
  have e : a = b := Array.ext' h
  rw [e]
theorem app_list (x y : Str) : (x ++ y).cps.toList = x.cps.toList ++ y.cps.toList := Array.toList_append
/-- the k-th mark, many names being asked for -/
def markL (many start k : Nat) : List Nat := [97 + (start + 5 * k) % 26] ++ (if 26 < many then [97 + k / 26] else [])
def shapeL (base mark : List Nat) (k : Nat) : Nat → List Nat
  | 0 => base ++ mark
  | 1 => mark ++ base
  | 2 => mark ++ base.take (k % (base.length + 1))
  | _ => base.take 1 ++ mark ++ base.drop 1
def seaL : List Nat := [115, 101, 97]
def seasL : List Nat := [115, 101, 97, 115]
def fixL (l : List Nat) : List Nat := if l = seaL then seasL else l
theorem markL_len (many start k : Nat) : (markL many start k).length = if 26 < many then 2 else 1 := by
  unfold markL
  split <;> rfl
theorem markL_inj {many start k j : Nat} (hm : many ≤ 52) (hk : k < many) (hj : j < many) (h : markL many start k = markL many start j) : k = j := by
  unfold markL at h
  have h1 := (List.cons_eq_cons.mp h).1
  by_cases c : 26 < many
  · have h2 := (List.cons_eq_cons.mp h).2
    rw [if_pos c, if_pos c] at h2
    have h3 := (List.cons_eq_cons.mp h2).1
    omega
  · omega
theorem markL_low {many start k : Nat} (hm : many ≤ 52) (hk : k < many) : ∀ c ∈ markL many start k, Low c := by
  intro c hc
  unfold markL at hc
  rcases List.mem_append.mp hc with h | h
  · rw [List.mem_singleton.mp h]
    constructor <;> omega
  · split at h
    · rw [List.mem_singleton.mp h]
      constructor <;> omega
    · cases h
theorem shape_mark {base m1 m2 : List Nat} {k j : Nat} {s : Nat} (hl : m1.length = m2.length) (h : shapeL base m1 k s = shapeL base m2 j s) : m1 = m2 := by
  match s, h with
  | 0, h => exact List.append_cancel_left h
  | 1, h => exact List.append_cancel_right h
  | 2, h => exact List.append_inj_left h hl
  | s + 3, h =>
    have h : base.take 1 ++ m1 ++ base.drop 1 = base.take 1 ++ m2 ++ base.drop 1 := h
    exact List.append_cancel_left (List.append_cancel_right h)
theorem shape_len {base m1 m2 : List Nat} {k j : Nat} {s : Nat} (hl : m1.length = m2.length) (hs : s ≠ 2) : (shapeL base m1 k s).length = (shapeL base m2 j s).length := by
  match s, hs with
  | 0, _ => simp [shapeL, hl]
  | 1, _ => simp [shapeL, hl]
  | s + 3, _ => simp [shapeL, hl]
theorem fix_mark {base : List Nat} {many start k j s : Nat} (h : fixL (shapeL base (markL many start k) k s) = fixL (shapeL base (markL many start j) j s)) : markL many start k = markL many start j := by
  have hl : (markL many start k).length = (markL many start j).length := by rw [markL_len, markL_len]
  have mixed : ∀ {k j : Nat}, shapeL base (markL many start k) k s = seaL → shapeL base (markL many start j) j s = seasL → markL many start k = markL many start j := by
    intro k j e1 e2
    have hl : (markL many start k).length = (markL many start j).length := by rw [markL_len, markL_len]
    by_cases hs : s = 2
    · subst hs
      have e1 : markL many start k ++ base.take (k % (base.length + 1)) = seaL := e1
      have e2 : markL many start j ++ base.take (j % (base.length + 1)) = seasL := e2
      have t1 : markL many start k = seaL.take (markL many start k).length := by rw [← e1, List.take_left']; rfl
      have t2 : markL many start j = seasL.take (markL many start j).length := by rw [← e2, List.take_left']; rfl
      rw [t1, t2, ← hl, markL_len]
      split <;> rfl
    · have q := shape_len (base := base) (k := k) (j := j) hl hs
      rw [e1, e2] at q
      exact absurd q (by decide)
  unfold fixL at h
  by_cases c1 : shapeL base (markL many start k) k s = seaL
  · rw [if_pos c1] at h
    by_cases c2 : shapeL base (markL many start j) j s = seaL
    · exact shape_mark hl (c1.trans c2.symm)
    · rw [if_neg c2] at h
      exact mixed c1 h.symm
  · rw [if_neg c1] at h
    by_cases c2 : shapeL base (markL many start j) j s = seaL
    · rw [if_pos c2] at h
      exact (mixed c2 h).symm
    · rw [if_neg c2] at h
      exact shape_mark hl h
theorem fix_inj {base : List Nat} {many start k j s : Nat} (hm : many ≤ 52) (hk : k < many) (hj : j < many) (h : fixL (shapeL base (markL many start k) k s) = fixL (shapeL base (markL many start j) j s)) : k = j :=
  markL_inj hm hk hj (fix_mark h)
theorem fix_ne (l : List Nat) : fixL l ≠ seaL := by
  unfold fixL
  split
  · decide
  · assumption
theorem shape_low {base mark : List Nat} {k s : Nat} (hb : ∀ c ∈ base, Low c) (hm : ∀ c ∈ mark, Low c) : ∀ c ∈ shapeL base mark k s, Low c := by
  have app : ∀ {a b : List Nat}, (∀ c ∈ a, Low c) → (∀ c ∈ b, Low c) → ∀ c ∈ a ++ b, Low c := fun h1 h2 c hc => (List.mem_append.mp hc).elim (h1 c) (h2 c)
  match s with
  | 0 => exact app hb hm
  | 1 => exact app hm hb
  | 2 => exact app hm fun c hc => hb c (List.mem_of_mem_take hc)
  | s + 3 => exact app (app (fun c hc => hb c (List.mem_of_mem_take hc)) hm) fun c hc => hb c (List.mem_of_mem_drop hc)
theorem shape_size {base mark : List Nat} {k s : Nat} (hb : base.length ≤ 6) (hm : 1 ≤ mark.length ∧ mark.length ≤ 2) : 1 ≤ (shapeL base mark k s).length ∧ (shapeL base mark k s).length ≤ 8 := by
  match s with
  | 0 => simp only [shapeL, List.length_append]; omega
  | 1 => simp only [shapeL, List.length_append]; omega
  | 2 => simp only [shapeL, List.length_append, List.length_take]; omega
  | s + 3 => simp only [shapeL, List.length_append, List.length_take, List.length_drop]; omega
theorem fix_low {l : List Nat} (h : ∀ c ∈ l, Low c) : ∀ c ∈ fixL l, Low c := by
  unfold fixL
  split
  · intro c hc
    have : c = 115 ∨ c = 101 ∨ c = 97 ∨ c = 115 := by simpa [seasL] using hc
    constructor <;> omega
  · exact h
theorem fix_size {l : List Nat} (h : 1 ≤ l.length ∧ l.length ≤ 8) : 1 ≤ (fixL l).length ∧ (fixL l).length ≤ 8 := by
  unfold fixL
  split
  · decide
  · exact h
/-! ### no name goes on from another one -/
theorem fix_take {l : List Nat} {n : Nat} (h : n ≤ 2) : (fixL l).take n = l.take n := by
  unfold fixL
  split
  · rename_i e
    subst e
    match n, h with
    | 0, _ => rfl
    | 1, _ => rfl
    | 2, _ => rfl
  · rfl
theorem fix_len (l : List Nat) : l.length ≤ (fixL l).length := by
  unfold fixL
  split
  · rename_i e
    subst e
    decide
  · exact Nat.le_refl _
theorem fix_on {base t : List Nat} {many start i j s : Nat} (hm : many ≤ 52) (hi : i < many) (hj : j < many) (ht : t ≠ []) (h1 : ∀ l, seasL = l ++ t → l.length = 3 → False)
    (h : fixL (shapeL base (markL many start j) j s) = fixL (shapeL base (markL many start i) i s) ++ t) : False := by
  have hl : (markL many start i).length = (markL many start j).length := by rw [markL_len, markL_len]
  have hmu : 1 ≤ (markL many start i).length ∧ (markL many start i).length ≤ 2 := by
    rw [markL_len]
    split <;> omega
  by_cases hs : s = 2
  · subst hs
    have e1 : (fixL (shapeL base (markL many start j) j 2)).take (markL many start j).length = markL many start j := by
      rw [fix_take (by omega)]
      exact List.take_left
    have e2 : (fixL (shapeL base (markL many start i) i 2)).take (markL many start i).length = markL many start i := by
      rw [fix_take (by omega)]
      exact List.take_left
    have hz : (markL many start i).length ≤ (fixL (shapeL base (markL many start i) i 2)).length := by
      refine Nat.le_trans ?_ (fix_len _)
      show _ ≤ (markL many start i ++ base.take (i % (base.length + 1))).length
      rw [List.length_append]
      omega
    have e3 : markL many start j = markL many start i := by
      rw [← e1, h, ← hl, List.take_append_of_le_length hz, e2]
    have e4 := markL_inj hm hj hi e3
    subst e4
    have := congrArg List.length h
    rw [List.length_append] at this
    exact ht (List.eq_nil_of_length_eq_zero (by omega))
  · have q := shape_len (base := base) (k := i) (j := j) hl hs
    have ht1 : 1 ≤ t.length := by
      cases t with
      | nil => exact absurd rfl ht
      | cons _ _ => rw [List.length_cons]; omega
    have hL := congrArg List.length h
    rw [List.length_append] at hL
    have hi2 := fix_len (shapeL base (markL many start i) i s)
    by_cases c : shapeL base (markL many start j) j s = seaL
    · have e1 : fixL (shapeL base (markL many start j) j s) = seasL := by unfold fixL; rw [if_pos c]
      rw [c] at q
      rw [e1] at hL h
      have q3 : seaL.length = 3 := rfl
      have q4 : seasL.length = 4 := rfl
      exact h1 _ h (by omega)
    · have e1 : fixL (shapeL base (markL many start j) j s) = shapeL base (markL many start j) j s := by unfold fixL; rw [if_neg c]
      rw [e1] at hL
      omega
theorem fix_gen {base t : List Nat} {many start i j s : Nat} (hm : many ≤ 52) (hi : i < many) (hj : j < many) (ht : t ≠ []) (hl : t.getLast? ≠ some 115) : fixL (shapeL base (markL many start j) j s) ≠ fixL (shapeL base (markL many start i) i s) ++ t := fun h =>
  fix_on hm hi hj ht (fun l e _ => by
    have := congrArg List.getLast? e
    rw [List.getLast?_append] at this
    cases q : t.getLast? with
    | none => exact ht (List.getLast?_eq_none_iff.mp q)
    | some c =>
      rw [q] at this
      have h2 : seasL.getLast? = some c := this
      have h3 : seasL.getLast? = some 115 := rfl
      rw [h3] at h2
      exact hl (by rw [q, ← h2])) h
theorem fix_q {base : List Nat} {many start i j s : Nat} (hm : many ≤ 52) (hi : i < many) (hj : j < many) : fixL (shapeL base (markL many start j) j s) ≠ fixL (shapeL base (markL many start i) i s) ++ [113] := fun h =>
  fix_on hm hi hj (by decide) (fun l e _ => by
    have := congrArg List.getLast? e
    rw [List.getLast?_append] at this
    have h2 : seasL.getLast? = some 113 := by rw [this]; rfl
    exact absurd h2 (by decide)) h
theorem fix_dd {base : List Nat} {many start i j s : Nat} (hm : many ≤ 52) (hi : i < many) (hj : j < many) : fixL (shapeL base (markL many start j) j s) ≠ fixL (shapeL base (markL many start i) i s) ++ fixL (shapeL base (markL many start i) i s) := fun h => by
  have hmu : 1 ≤ (markL many start i).length := by
    rw [markL_len]
    split <;> omega
  have hge : ∀ k, 1 ≤ (markL many start k).length → 1 ≤ (shapeL base (markL many start k) k s).length := fun k hk => by
    match s with
    | 0 => simp only [shapeL, List.length_append]; omega
    | 1 => simp only [shapeL, List.length_append]; omega
    | 2 => simp only [shapeL, List.length_append, List.length_take]; omega
    | s + 3 => simp only [shapeL, List.length_append, List.length_take, List.length_drop]; omega
  have h1 := Nat.le_trans (hge i hmu) (fix_len _)
  refine fix_on hm hi hj (fun z => by rw [z] at h1; exact absurd h1 (by decide)) (fun l e hl => ?_) h
  have e1 := congrArg List.length e
  rw [List.length_append, hl] at e1
  have q4 : seasL.length = 4 := rfl
  rw [q4] at e1
  have e2 := congrArg List.length h
  rw [List.length_append] at e2
  have e3 : (fixL (shapeL base (markL many start i) i s)).length = 1 := by omega
  have e4 : (fixL (shapeL base (markL many start j) j s)).length = 2 := by omega
  have hl2 : (markL many start i).length = (markL many start j).length := by rw [markL_len, markL_len]
  by_cases hs : s = 2
  · subst hs
    have f1 : (fixL (shapeL base (markL many start j) j 2)).take (markL many start j).length = markL many start j := by
      rw [fix_take (by rw [markL_len]; split <;> omega)]
      exact List.take_left
    have f2 : (fixL (shapeL base (markL many start i) i 2)).take (markL many start i).length = markL many start i := by
      rw [fix_take (by rw [markL_len]; split <;> omega)]
      exact List.take_left
    have hz : (markL many start i).length ≤ (fixL (shapeL base (markL many start i) i 2)).length := by
      refine Nat.le_trans ?_ (fix_len _)
      show _ ≤ (markL many start i ++ base.take (i % (base.length + 1))).length
      rw [List.length_append]
      omega
    have f3 : markL many start j = markL many start i := by
      rw [← f1, h, ← hl2, List.take_append_of_le_length hz, f2]
    have f4 := markL_inj hm hj hi f3
    subst f4
    omega
  · have q := shape_len (base := base) (k := i) (j := j) hl2 hs
    have g1 := fix_len (shapeL base (markL many start i) i s)
    unfold fixL at e4
    split at e4
    · revert e4
      decide
    · omega
end K0
end
section
set_option Elab.async false
set_option linter.all false
set_option maxRecDepth 100000
namespace K0
open PySem PySem.Spec PyProof.Rows L2
abbrev scNames_N : List Str := ["_law_bag_here", "_law_many", "_law_letters", "_law_base", "_law_start", "_law_is_behind", "_law_found", "_law_k", "_law_mark", "_law_name"]
abbrev scNames_S : Stmt := sNames
theorem scNames : FnScope scNames_N ["_law_bag_here", "_law_many"] (defScope sNames) := ⟨rfl, rfl, rfl, by decide +kernel, rfl, by decide +kernel, by decide +kernel⟩
/-- a list of unlike good names -/
structure NamesOk (ns : List Str) : Prop where
  ok : ∀ x ∈ ns, NameOk x
  sea : ∀ x ∈ ns, x ≠ "sea"
  nd : ns.Nodup
def spNames : Sp := fun vs H Q _ => ∃ (p : Addr) (m : Nat), vs = [.ref p, .int (m : Int)] ∧ BagAt H p ∧ m ≤ 52 ∧
  ∀ (H' : Hp) (l : Addr) (ns : List Str), Upto p H H' → BagAt H' p → H l = none → l ≠ p → H' l = some (.lst (ns.map V.str)) → ns.length = m → NamesOk ns → Q (.ref l) H'
theorem split_if' {α : Type} {R C : α → Prop} {G : Prop} (use : (∀ c, R c → C c) → G) (key : ∀ c, R c → C c) : G := use key
/-! ### texts -/
abbrev lettersT : Str := "abcdefghijklmnopqrstuvwxyz"
theorem letters_at : ∀ i : Nat, i < 26 → lettersT.cps[i]? = some (97 + i) := by decide +kernel
theorem letters_len : lettersT.length = 26 := by decide +kernel
theorem sea_list : ("sea" : Str).cps.toList = seaL := by decide +kernel
theorem seas_list : ("seas" : Str).cps.toList = seasL := by decide +kernel
theorem empty_list : ("" : Str).cps.toList = [] := by decide +kernel
def ofL (l : List Nat) : Str := ⟨l.toArray⟩
theorem ofL_list (l : List Nat) : (ofL l).cps.toList = l := rfl
theorem len_list (x : Str) : x.length = x.cps.toList.length := Array.length_toList.symm
theorem ofL_of (x : Str) : ofL x.cps.toList = x := str_ext rfl
theorem join_empty : ∀ cs : List Nat, (Str.join "" (cs.map fun c => ofL [c])).cps.toList = cs
  | [] => by decide +kernel
  | [c] => rfl
  | c :: d :: r => by
    have ih := join_empty (d :: r)
    show (ofL [c] ++ ("" : Str) ++ Str.join "" ((d :: r).map fun c => ofL [c])).cps.toList = c :: d :: r
    rw [app_list, app_list, empty_list, ih]
    rfl
theorem sum_ones (cs : List Nat) : ((cs.map fun c => ofL [c]).map (·.length)).sum = cs.length := by
  induction cs with
  | nil => rfl
  | cons c r ih =>
    rw [List.map_cons, List.map_cons, List.sum_cons, ih, List.length_cons]
    show 1 + r.length = r.length + 1
    omega
theorem cutS_take (z : Str) (n : Nat) : (cutS z none (some (n : Int))).cps.toList = z.cps.toList.take n := by
  unfold cutS
  rw [HT.sIx_none, HT.sIx_nat]
  show (z.cps.toList.drop 0).take (min n z.length - 0) = z.cps.toList.take n
  rw [List.drop_zero, Nat.sub_zero, len_list]
  exact (List.take_eq_take_min ..).symm
theorem cutS_drop (z : Str) (n : Nat) : (cutS z (some (n : Int)) none).cps.toList = z.cps.toList.drop n := by
  unfold cutS
  rw [HT.sIx_none, HT.sIx_nat]
  show (z.cps.toList.drop (min n z.length)).take (z.length - min n z.length) = z.cps.toList.drop n
  rw [len_list]
  by_cases h : n ≤ z.cps.toList.length
  · rw [Nat.min_eq_left h]
    exact List.take_of_length_le (by rw [List.length_drop]; omega)
  · rw [Nat.min_eq_right (by omega), Nat.sub_self, List.drop_of_length_le (Nat.le_refl _), List.drop_of_length_le (by omega)]
    rfl
theorem nodup_range {α : Type} (f : Nat → α) (m : Nat) (h : ∀ i j, i < m → j < m → f i = f j → i = j) : ((List.range m).map f).Nodup := by
  rw [List.Nodup, List.pairwise_map]
  refine List.Pairwise.imp_of_mem (fun {a b} ha hb hab e => hab (h a b (List.mem_range.mp ha) (List.mem_range.mp hb) e)) (List.nodup_range (n := m))
theorem ofL_inj {a b : List Nat} (h : ofL a = ofL b) : a = b := by
  have := congrArg (fun z : Str => z.cps.toList) h
  exact this
theorem names_ok {base : List Nat} {m st sh : Nat} (hb1 : ∀ c ∈ base, Low c) (hb2 : base.length ≤ 6) (hm2 : m ≤ 52) : NamesOk ((List.range m).map fun k => ofL (fixL (shapeL base (markL m st k) k sh))) := by
  refine ⟨?_, ?_, ?_⟩
  · intro x hx
    obtain ⟨j, hj, rfl⟩ := List.mem_map.mp hx
    have hj := List.mem_range.mp hj
    have h1 := markL_low (start := st) hm2 hj
    have h2 : 1 ≤ (markL m st j).length ∧ (markL m st j).length ≤ 2 := by
      rw [markL_len]
      split <;> omega
    have h3 := fix_size (shape_size (k := j) (s := sh) hb2 h2)
    exact ⟨h3.1, h3.2, fix_low (shape_low hb1 h1)⟩
  · intro x hx e
    obtain ⟨j, hj, rfl⟩ := List.mem_map.mp hx
    have q : (ofL (fixL (shapeL base (markL m st j) j sh))).cps.toList = seaL := by rw [e]; exact sea_list
    exact fix_ne _ q
  · refine nodup_range _ _ fun i j hi hj e => ?_
    exact fix_inj hm2 hi hj (ofL_inj e)
section
variable {P : Program} {w : World} {K : PySem.W.Frag} {mg : Str → Option Value} {base : Heap}
theorem ok_names {f fT fO : Addr} {fd fdT fdO : FuncData} (F : FnP K "_law_names" sNames f fd) (F_law_take : FnP K "_law_take" sTake fT fdT) (F_law_of : FnP K "_law_of" sOf fO fdO) (B : Bl mg) (g_law_take : mg "_law_take" = some (.ref fT)) (g_law_of : mg "_law_of" = some (.ref fO)) :
    FnOk P w K mg base CX0 3 f fd ["_law_bag_here", "_law_many"] spNames := by
  have G_law_take : FnOk P w K mg base CX0 1 fT fdT ["_law_bag_here", "_law_many"] spTake := ok_take F_law_take B
  have b_law_take : Binds K fdT ["_law_bag_here", "_law_many"] [] := F_law_take.bindsN fun _ _ _ _ _ _ us hl => match us, hl with | [_, _], _ => rfl
  have G_law_of : FnOk P w K mg base CX0 2 fO fdO ["_law_bag_here", "_law_some"] (spOf K) := ok_of F_law_of F_law_take B g_law_take
  have b_law_of : Binds K fdO ["_law_bag_here", "_law_some"] [] := F_law_of.bindsN fun _ _ _ _ _ _ us hl => match us, hl with | [_, _], _ => rfl
  refine F.ok scNames (fun vs H Q E h => ?_) (fun cdv A outer s H vs Q E hr h => ?_)
  · obtain ⟨p, m, rfl, _⟩ := h
    rfl
  · obtain ⟨p, m, rfl, hB, hm2, k⟩ := h
    have hr_law_take : Room 1 _ := hr.mono (by decide)
    have hr_law_of : Room 2 _ := hr.mono (by decide)
    refine ⟨_, PSs.nox (pss_cons
      (ps_set (i := 2) scNames.nd rfl (Or.inr rfl) pe_str)
      (pss_cons
      (ps_set (i := 3) scNames.nd rfl (Or.inl rfl) (pe_join pe_str (pe_lc (own := [("_law_k", 7)]) (g := gName 7) (tt := tYes) (by rfl) scNames.nd (pi_range1 (by rfl) B.range (pa_cons (pe_call G_law_of hr_law_of (by rfl) g_law_of F_law_of.kp b_law_of .nil pass0 (pa_cons (pv 0) (pa_cons (pe_lst (pa_cons pe_int (pa_cons pe_int (pa_cons pe_int (pa_cons pe_int (pa_cons pe_int pa_nil)))))) pa_nil))) pa_nil)) (blkOk_by (own := [("_law_k", 7)]) (N := scNames_N) (sc := defScope scNames_S) (by decide +kernel)) (fun _ _ _ _ _ => (pg_name (i := 7) scNames.nd rfl (Or.inl rfl))) (fun _ _ _ _ _ => pts_nil) (fun _ _ _ _ _ => (pe_item_str (pv 2) (pe_call G_law_take hr_law_take (by rfl) g_law_take F_law_take.kp b_law_take .nil pass0 (pa_cons (pv 0) (pa_cons pe_int pa_nil))) (fun _ _ => rfl))))))
      (pss_cons
      (ps_par (i := 4) (j := 5) (by rfl) scNames.nd rfl rfl (by decide) rfl rfl (pa_cons (pe_call G_law_take hr_law_take (by rfl) g_law_take F_law_take.kp b_law_take .nil pass0 (pa_cons (pv 0) (pa_cons pe_int pa_nil))) (pa_cons (pe_cmpR op_eq (pe_call G_law_take hr_law_take (by rfl) g_law_take F_law_take.kp b_law_take .nil pass0 (pa_cons (pv 0) (pa_cons pe_int pa_nil))) pe_int (nomark _)) pa_nil)) (by rfl))
      (pss_cons
      (ps_set (i := 6) scNames.nd rfl (Or.inl rfl) (pe_lst pa_nil))
      (pss_cons
      (ps_for PassesOwn.never rfl (pi_range1 (by rfl) B.range (pa_cons (pv 1) pa_nil)) (pg_name (i := 7) scNames.nd rfl (Or.inl rfl)) (pss_cons
      (ps_set (i := 8) scNames.nd rfl (Or.inl rfl) (pe_op op_add_str (pe_item_str (pv 2) (pe_op op_mod (pe_op op_add (pv 4) (pe_op op_mul pe_int (pv 7))) pe_int) (fun _ _ => rfl)) (pe_ifExp (pt_cmpR op_gt (pv 1) pe_int (nomark _)) (pe_item_str (pv 2) (pe_op op_fdiv (pv 7) pe_int) (fun _ _ => rfl)) pe_str)))
      (pss_cons
      (ps_set (i := 9) scNames.nd rfl (Or.inl rfl) (pe_ifExp (pt_val (pv 5)) (pe_op op_add_str (pv 3) (pv 8)) (pe_op op_add_str (pv 8) (pv 3))))
      (pss_one
      (ps_expr (pe_bm PySem.F.plainAttrs_list PySem.F.slot_list_append PySem.F.type_list_append mt_append (pv 6) (pa_cons (pe_ifExp (pt_cmpR op_eq (pv 9) pe_str (nomark _)) pe_str (pv 9)) pa_nil)))))))
      (pss_one
      (ps_ret (pv 6)))))))), ?_⟩
    obtain ⟨b0, hb0, hv0⟩ := id hB
    refine ⟨⟨_, rfl⟩, _, rfl, by show 5 ≤ sizeLine; decide, fun q nq => ?_⟩
    have npq : p ≠ q := ne_of_none hb0 nq
    refine ⟨p, q, [.int 0, .int 0, .int 1, .int 2, .int 6], rfl, ⟨b0, by rw [upd_ne npq]; exact hb0, hv0⟩, npq.symm, .inl (.inl upd_same), by decide, by decide, fun i0 v b1 hv hx1 => ?_⟩
    obtain ⟨n, hn6, rfl⟩ : ∃ n : Nat, n ≤ 6 ∧ v = V.int (n : Int) := by
      have hm : v ∈ ([.int 0, .int 0, .int 1, .int 2, .int 6] : List V) := List.mem_of_getElem? hv
      simp only [List.mem_cons, List.not_mem_nil, or_false] at hm
      rcases hm with rfl | rfl | rfl | rfl | rfl
      · exact ⟨0, by omega, rfl⟩
      · exact ⟨0, by omega, rfl⟩
      · exact ⟨1, by omega, rfl⟩
      · exact ⟨2, by omega, rfl⟩
      · exact ⟨6, by omega, rfl⟩
    refine ⟨(n : Int), rfl, by omega, by omega, fun D hD => ?_⟩
    have u1 : Upto p H (upd (upd H q (.lst [.int 0, .int 0, .int 1, .int 2, .int 6])) p (.lst b1)) := (Upto.of (same_upd nq)).trans Upto.at_
    have npD : p ≠ D := fun e => by
      rw [← e, upd_same] at hD
      cases hD
    refine lc_range (lo := 0) (n := ((n : Int) - 0).toNat) (fun i H2 => Upto p H H2 ∧ BagAt H2 p ∧ ∃ cs : List Nat, cs.length = i ∧ (∀ c ∈ cs, Low c) ∧ H2 D = some (.lst (cs.map fun c => V.str (ofL [c])))) ?_ ?_ ?_
    · exact ⟨u1.trans (Upto.of (same_upd hD)), ⟨b1, by rw [upd_ne npD, upd_same], hx1⟩, [], rfl, (fun c hc => nomatch hc), upd_same⟩
    · rintro i H2 hi ⟨u2, B2, cs, hl, hlow, hD2⟩
      have nlp : p ≠ D := npD
      refine ⟨rfl, ?_⟩
      unfold tYes
      refine iteT ?_
      refine ⟨_, rfl, _, rfl, p, 26, rfl, B2, by decide, by decide, fun r xs hr0 hr1 hx => ?_⟩
      have hrn : r.toNat < 26 := by omega
      refine ⟨lettersT, r, 97 + r.toNat, rfl, rfl, hr0, by omega, by rw [letters_len]; omega, letters_at _ hrn, ?_⟩
      refine ⟨cs.map fun c => V.str (ofL [c]), by rw [upd_ne npD.symm]; exact hD2, ?_, ?_, ?_, cs ++ [97 + r.toNat], ?_, ?_, ?_⟩
      · rw [List.length_map]
        exact small1000 (by omega)
      · intro b o hb hn
        have hbD : b ≠ D := by
          intro e
          have hh : (upd (upd H q (.lst [.int 0, .int 0, .int 1, .int 2, .int 6])) p (.lst b1)) b = some o := u1 b o hb hn
          rw [e, hD] at hh
          cases hh
        rw [upd_ne hbD, upd_ne hn]
        exact u2 b o hb hn
      · exact ⟨xs, by rw [upd_ne npD, upd_same], hx⟩
      · rw [List.length_append, hl]
        rfl
      · intro c hc
        rcases List.mem_append.mp hc with h | h
        · exact hlow c h
        · rw [List.mem_singleton.mp h]
          constructor <;> omega
      · rw [upd_same, List.map_append]
        rfl
    · rintro H2 ⟨u2, B2, cs, hl, hlow, hD2⟩
      have hl6 : cs.length ≤ 6 := by omega
      have hmap : (cs.map fun c => V.str (ofL [c])) = (cs.map fun c => ofL [c]).map V.str := by
        rw [List.map_map]
        rfl
      refine ⟨"", D, cs.map fun c => ofL [c], rfl, rfl, .inl (.inl (.inl (by rw [← hmap]; exact hD2))), ?_, ?_⟩
      · rw [sum_ones, List.length_map, show ("" : Str).length = 0 from rfl]
        omega
      · rw [TL.join_eq]
        generalize hbase : Str.join "" (cs.map fun c => ofL [c]) = base
        have hbl : base.cps.toList = cs := by rw [← hbase]; exact join_empty cs
        have hb1 : ∀ c ∈ base.cps.toList, Low c := by rw [hbl]; exact hlow
        have hb2 : base.cps.toList.length ≤ 6 := by rw [hbl]; exact hl6
        have hbz : base.length ≤ 6 := by rw [len_list]; exact hb2
        clear hbase hmap hbl hl6 hlow hl hD2 cs
        -- start, shape
        refine ⟨_, rfl, p, 26, rfl, B2, by decide, by decide, fun r1 xs1 hr10 hr11 hx1 => ?_⟩
        refine ⟨_, rfl, p, 2, rfl, ⟨xs1, upd_same, hx1⟩, by decide, by decide, fun r2 xs2 hr20 hr21 hx2 => ?_⟩
        obtain ⟨st, rfl⟩ : ∃ st : Nat, r1 = (st : Int) := ⟨r1.toNat, by omega⟩
        refine ⟨rfl, _, _, rfl, ?_⟩
        generalize decide (V.int r2 = V.int 0) = bb
        obtain ⟨sh, hsh⟩ : ∃ sh : Nat, sh = if bb = true then 0 else 1 := ⟨_, rfl⟩
        refine ⟨Nat.zero_le _, fun l nl => ?_⟩
        have npl : p ≠ l := fun e => by
          rw [← e, upd_same] at nl
          cases nl
        have u3 : Upto p H (upd (upd H2 p (.lst xs1)) p (.lst xs2)) := (u2.trans Upto.at_).trans Upto.at_
        have nlH : H l = none := by
          cases e : H l with
          | none => rfl
          | some o =>
            rw [u3 l o e npl.symm] at nl
            cases nl
        refine ⟨_, rfl, (m : Int), rfl, by omega, by omega, ?_⟩
        refine for_range (lo := 0) (n := ((m : Int) - 0).toNat) (fun i σ H3 => ∃ (v7 v8 v9 : Option V), σ = [some (.ref p), some (.int (m : Int)), some (.str lettersT), some (.str base), some (.int (st : Int)), some (.bl bb), some (.ref l), v7, v8, v9] ∧
            Upto p H H3 ∧ BagAt H3 p ∧ H3 l = some (.lst (((List.range i).map fun k => ofL (fixL (shapeL base.cps.toList (markL m st k) k sh))).map V.str))) ?_ ?_ ?_
        · refine ⟨_, _, _, rfl, u3.trans (Upto.of (same_upd nl)), ⟨xs2, by rw [upd_ne npl, upd_same], hx2⟩, upd_same⟩
        · rintro i σ H3 hi ⟨v7, v8, v9, rfl, u4, B4, hl4⟩
          have him : i < m := by omega
          have hmod : (st + 5 * i) % 26 < 26 := Nat.mod_lt _ (by decide)
          refine ⟨_, rfl, _, rfl, _, rfl, 5, _, rfl, rfl, .inl ⟨by decide, by decide⟩, _, _, rfl, rfl, _, _, rfl, rfl, (by show (0 : Int) < 26; decide), ?_⟩
          refine ⟨lettersT, _, 97 + (st + 5 * i) % 26, rfl, rfl, by omega, by omega, by rw [letters_len]; omega, ?_, ?_⟩
          · rw [show (((st : Int) + 5 * (0 + (i : Int))) % 26).toNat = (st + 5 * i) % 26 by omega]
            exact letters_at _ hmod
          refine ⟨_, rfl, (m : Int), 26, rfl, rfl, _, rfl, ?_⟩
          refine split_if' (α := Str) (R := fun t => t.cps.toList = if 26 < m then [97 + i / 26] else []) (C := ?C) ?use ?key
          case use =>
            intro key
            refine ite2 (fun hc => ?_) (fun hc => ?_)
            · have hc := of_decide_eq_true hc
              have hc' : 26 < m := by omega
              refine ⟨_, rfl, _, rfl, _, 26, rfl, rfl, ⟨by decide, by decide⟩, ?_⟩
              refine ⟨lettersT, _, 97 + i / 26, rfl, rfl, by omega, by omega, by rw [letters_len]; omega, ?_, ?_⟩
              · rw [show ((0 + (i : Int)) / 26).toNat = i / 26 by omega]
                exact letters_at _ (by omega)
              · have hh : (⟨#[97 + i / 26]⟩ : Str).cps.toList = if 26 < m then [97 + i / 26] else [] := by rw [if_pos hc']
                generalize (⟨#[97 + i / 26]⟩ : Str) = t at hh
                exact key t hh
            · have hc' : ¬ 26 < m := fun z => hc (decide_eq_true (by omega))
              exact key "" (by rw [if_neg hc', empty_list])
          case key =>
            intro t ht
            have hml : ((⟨#[97 + (st + 5 * i) % 26]⟩ : Str) ++ t).cps.toList = markL m st i := by
              rw [app_list, ht]
              rfl
            have htl : t.length ≤ 1 := by
              rw [len_list, ht]
              split <;> simp
            refine ⟨_, _, rfl, rfl, ?_, ?_⟩
            · show 1 + t.length ≤ sizeLine
              exact Nat.le_of_lt (small1000 (by omega))
            generalize (⟨#[97 + (st + 5 * i) % 26]⟩ : Str) ++ t = mark at hml
            have hmz : mark.length ≤ 2 := by
              rw [len_list, hml, markL_len]
              split <;> omega
            have z1 : base.length + mark.length ≤ sizeLine := Nat.le_of_lt (small1000 (by omega))
            have z2 : mark.length + base.length ≤ sizeLine := Nat.le_of_lt (small1000 (by omega))
            have e0 : base ++ mark = ofL (shapeL base.cps.toList mark.cps.toList i 0) := str_ext (by rw [app_list, ofL_list]; rfl)
            have e1 : mark ++ base = ofL (shapeL base.cps.toList mark.cps.toList i 1) := str_ext (by rw [app_list, ofL_list]; rfl)
            refine split_if' (α := Str) (R := fun y => y = ofL (shapeL base.cps.toList (markL m st i) i sh)) (C := ?C3) ?use3 ?key3
            case use3 =>
              intro key
              refine ⟨_, rfl, bb, rfl, ?_⟩
              refine ite2 (fun hc => ?_) (fun hc => ?_)
              · have ek : base ++ mark = ofL (shapeL base.cps.toList (markL m st i) i sh) := by rw [hsh, if_pos hc, ← hml]; exact e0
                refine ⟨_, rfl, _, rfl, _, _, rfl, rfl, z1, ?_⟩
                generalize base ++ mark = y at ek
                exact key y ek
              · have ek : mark ++ base = ofL (shapeL base.cps.toList (markL m st i) i sh) := by rw [hsh, if_neg hc, ← hml]; exact e1
                refine ⟨_, rfl, _, rfl, _, _, rfl, rfl, z2, ?_⟩
                generalize mark ++ base = y at ek
                exact key y ek
            case key3 =>
              intro y ey0
              subst ey0
              have more : (((List.range i).map fun k => ofL (fixL (shapeL base.cps.toList (markL m st k) k sh))).map V.str) ++ [V.str (ofL (fixL (shapeL base.cps.toList (markL m st i) i sh)))] = ((List.range (i + 1)).map fun k => ofL (fixL (shapeL base.cps.toList (markL m st k) k sh))).map V.str := by
                rw [List.range_succ, List.map_append, List.map_append]
                rfl
              have fin : ∀ y : Str, y = ofL (fixL (shapeL base.cps.toList (markL m st i) i sh)) → Upto p H (upd H3 l (.lst ((((List.range i).map fun k => ofL (fixL (shapeL base.cps.toList (markL m st k) k sh))).map V.str) ++ [V.str y]))) ∧
                  BagAt (upd H3 l (.lst ((((List.range i).map fun k => ofL (fixL (shapeL base.cps.toList (markL m st k) k sh))).map V.str) ++ [V.str y]))) p ∧
                  (upd H3 l (.lst ((((List.range i).map fun k => ofL (fixL (shapeL base.cps.toList (markL m st k) k sh))).map V.str) ++ [V.str y]))) l = some (.lst (((List.range (i + 1)).map fun k => ofL (fixL (shapeL base.cps.toList (markL m st k) k sh))).map V.str)) := by
                rintro y rfl
                refine ⟨?_, ?_, ?_⟩
                · intro b o hb hn
                  rw [upd_ne (ne_of_none hb nlH)]
                  exact u4 b o hb hn
                · obtain ⟨b, hb, hv⟩ := B4
                  exact ⟨b, by rw [upd_ne npl]; exact hb, hv⟩
                · rw [upd_same, more]
              have sz : (((List.range i).map fun k => ofL (fixL (shapeL base.cps.toList (markL m st k) k sh))).map V.str).length < sizeLine := by
                rw [List.length_map, List.length_map, List.length_range]
                exact small1000 (by omega)
              refine ⟨_, rfl, .inl ⟨rfl, _, .inl (.inl hl4)⟩, ?_⟩
              refine ⟨_, rfl, rfl, _, rfl, ?_⟩
              refine ite2 (fun hc => ?_) (fun hc => ?_)
              · have hc := of_decide_eq_true hc
                have hc : ofL (shapeL base.cps.toList (markL m st i) i sh) = "sea" := V.str.inj hc
                have hL : shapeL base.cps.toList (markL m st i) i sh = seaL := by
                  rw [← sea_list, ← hc, ofL_list]
                have ey : ("seas" : Str) = ofL (fixL (shapeL base.cps.toList (markL m st i) i sh)) := str_ext (by
                  rw [seas_list, ofL_list, fixL, if_pos hL])
                obtain ⟨f1, f2, f3⟩ := fin _ ey
                exact ⟨l, _, _, rfl, rfl, hl4, sz, _, _, _, rfl, f1, f2, f3⟩
              · have hL : ¬ shapeL base.cps.toList (markL m st i) i sh = seaL := fun z => hc (decide_eq_true (by rw [z]; exact congrArg V.str (str_ext (by rw [sea_list, ofL_list]))))
                have ey : ofL (shapeL base.cps.toList (markL m st i) i sh) = ofL (fixL (shapeL base.cps.toList (markL m st i) i sh)) := by
                  rw [fixL, if_neg hL]
                obtain ⟨f1, f2, f3⟩ := fin _ ey
                refine ⟨_, rfl, ?_⟩
                exact ⟨l, _, _, rfl, rfl, hl4, sz, _, _, _, rfl, f1, f2, f3⟩
        · rintro σ H3 ⟨v7, v8, v9, rfl, u4, B4, hl4⟩
          have em : ((m : Int) - 0).toNat = m := by omega
          rw [em] at hl4
          exact ⟨_, rfl, k H3 l _ u4 B4 nlH npl.symm hl4 (by simp) (names_ok hb1 hb2 hm2)⟩
end
end K0
end
section
set_option Elab.async false
set_option linter.all false
set_option maxRecDepth 100000
namespace K0
open PySem PySem.Spec PyProof.Rows L2
abbrev Row := Str × Str
/-- rows that make a river -/
structure GoodRows (R : List Row) : Prop where
  one : 1 ≤ R.length
  most : R.length ≤ 40
  nm : NamesOk (R.map (·.1))
  rank : ∃ rk : Str → Nat, ∀ r ∈ R, r.2 = "sea" ∨ (r.2 ∈ R.map (·.1) ∧ rk r.2 < rk r.1)
/-- rows that are good but for how many they are -/
structure Pre (R : List Row) : Prop where
  one : 1 ≤ R.length
  nm : NamesOk (R.map (·.1))
  rank : ∃ rk : Str → Nat, ∀ r ∈ R, r.2 = "sea" ∨ (r.2 ∈ R.map (·.1) ∧ rk r.2 < rk r.1)
theorem Pre.good {R : List Row} (h : Pre R) (m : R.length ≤ 40) : GoodRows R := ⟨h.one, m, h.nm, h.rank⟩
theorem NamesOk.perm {a b : List Str} (p : a.Perm b) (h : NamesOk b) : NamesOk a := ⟨fun x hx => h.ok x (p.mem_iff.mp hx), fun x hx => h.sea x (p.mem_iff.mp hx), p.nodup_iff.mpr h.nd⟩
theorem GoodRows.perm {a b : List Row} (p : a.Perm b) (h : GoodRows b) : GoodRows a := by
  obtain ⟨rk, hr⟩ := h.rank
  refine ⟨by rw [p.length_eq]; exact h.one, by rw [p.length_eq]; exact h.most, h.nm.perm (p.map _), rk, fun r hm => ?_⟩
  rcases hr r (p.mem_iff.mp hm) with e | ⟨e1, e2⟩
  · exact .inl e
  · exact .inr ⟨(p.map _).mem_iff.mpr e1, e2⟩
theorem Pre.perm {a b : List Row} (p : a.Perm b) (h : Pre b) : Pre a := by
  obtain ⟨rk, hr⟩ := h.rank
  refine ⟨by rw [p.length_eq]; exact h.one, h.nm.perm (p.map _), rk, fun r hm => ?_⟩
  rcases hr r (p.mem_iff.mp hm) with e | ⟨e1, e2⟩
  · exact .inl e
  · exact .inr ⟨(p.map _).mem_iff.mpr e1, e2⟩
theorem perm_lift {α β : Type} {f : α → β} {l1 l2 : List β} (p : l1.Perm l2) : ∀ xs : List α, l2 = xs.map f → ∃ xs' : List α, l1 = xs'.map f ∧ xs'.Perm xs := by
  induction p with
  | nil => intro xs e; cases xs with
    | nil => exact ⟨[], rfl, .nil⟩
    | cons a t => cases e
  | cons x _ ih => intro xs e; cases xs with
    | nil => cases e
    | cons a t =>
      injection e with e1 e2
      obtain ⟨t', h1, h2⟩ := ih t e2
      exact ⟨a :: t', by rw [List.map_cons, ← h1, e1], h2.cons a⟩
  | swap x y l => intro xs e; match xs, e with
    | a :: b :: t, e =>
      injection e with e1 e2
      injection e2 with e2 e3
      exact ⟨b :: a :: t, by rw [List.map_cons, List.map_cons, ← e1, ← e2, ← e3], .swap a b t⟩
  | trans _ _ ih1 ih2 =>
    intro xs e
    obtain ⟨ys, h1, h2⟩ := ih2 xs e
    obtain ⟨zs, h3, h4⟩ := ih1 ys h1
    exact ⟨zs, h3, h4.trans h2⟩
/-- a list of pairs of texts, each in a tuple of its own -/
structure RowsAt (H : Hp) (l : Addr) (AR : List (Addr × Row)) : Prop where
  lst : H l = some (.lst (AR.map fun q => V.ref q.1))
  tup : ∀ q ∈ AR, H q.1 = some (.tup [.str q.2.1, .str q.2.2])
abbrev rowsOf (AR : List (Addr × Row)) : List Row := AR.map (·.2)
theorem bag_ne {H : Hp} {p : Addr} {a : Addr} {xs : List V} (B : BagAt H p) (h : H a = some (.tup xs)) : a ≠ p := by
  obtain ⟨b, hb, _⟩ := B
  exact ne_of h hb (fun z => by cases z)
theorem RowsAt.upto {H H' : Hp} {p l : Addr} {AR : List (Addr × Row)} (r : RowsAt H l AR) (B : BagAt H p) (n : l ≠ p) (u : Upto p H H') : RowsAt H' l AR :=
  ⟨u _ _ r.lst n, fun q hq => u _ _ (r.tup q hq) (bag_ne B (r.tup q hq))⟩
theorem RowsAt.same {H H' : Hp} {l : Addr} {AR : List (Addr × Row)} (r : RowsAt H l AR) (u : Same H H') : RowsAt H' l AR :=
  ⟨u _ _ r.lst, fun q hq => u _ _ (r.tup q hq)⟩
def spLRiver : Sp := fun vs H Q _ => ∃ (p : Addr) (m : Nat), vs = [.ref p, .int (m : Int)] ∧ BagAt H p ∧ 1 ≤ m ∧ m ≤ 41 ∧
  ∀ (H' : Hp) (l : Addr) (AR : List (Addr × Row)), Upto p H H' → BagAt H' p → H l = none → l ≠ p → RowsAt H' l AR → Pre (rowsOf AR) → (rowsOf AR).length = m → Q (.ref l) H'
/-- rows built so far -/
structure Sofar (ns : List Str) (i : Nat) (R : List Row) : Prop where
  fst : R.map (·.1) = ns.take i
  snd : ∀ r ∈ R, r.2 = "sea" ∨ (r.2 ∈ ns ∧ ns.idxOf r.2 < ns.idxOf r.1)
theorem Sofar.good {ns : List Str} {R : List Row} (h : Sofar ns ns.length R) (hn : NamesOk ns) (h1 : 1 ≤ ns.length) : Pre R := by
  have e := h.fst
  rw [List.take_length] at e
  have el : R.length = ns.length := by rw [← e, List.length_map]
  refine ⟨by omega, by rw [e]; exact hn, fun x => ns.idxOf x, fun r hr => ?_⟩
  rw [e]
  exact h.snd r hr
theorem idx_at {ns : List Str} (hd : ns.Nodup) {i : Nat} {x : Str} (h : ns[i]? = some x) : ns.idxOf x = i := by
  obtain ⟨h1, h2⟩ := List.getElem?_eq_some_iff.mp h
  have h3 : ns.idxOf x < ns.length := List.idxOf_lt_length_iff.mpr (List.mem_of_getElem? h)
  have h4 : ns[ns.idxOf x]? = some x := by
    rw [List.getElem?_eq_getElem h3, List.getElem_idxOf h3]
  exact nd_ix hd h4 h
theorem Sofar.more {ns : List Str} {i : Nat} {R : List Row} (hd : ns.Nodup) (h : Sofar ns i R) {x y : Str} (hx : ns[i]? = some x) (hy : y = "sea" ∨ ∃ j, j < i ∧ ns[j]? = some y) : Sofar ns (i + 1) (R ++ [(x, y)]) := by
  refine ⟨?_, fun r hr => ?_⟩
  · rw [List.map_append, h.fst, List.take_add_one, hx]
    rfl
  · rcases List.mem_append.mp hr with hr | hr
    · exact h.snd r hr
    · rw [List.mem_singleton.mp hr]
      rcases hy with e | ⟨j, hj, e⟩
      · exact .inl e
      · refine .inr ⟨List.mem_of_getElem? e, ?_⟩
        show ns.idxOf y < ns.idxOf x
        rw [idx_at hd hx, idx_at hd e]
        exact hj
abbrev scLRiver_N : List Str := ["_law_bag_here", "_law_many", "_law_names_here", "_law_rows", "_law_k", "_law_way"]
theorem scLRiver : FnScope scLRiver_N ["_law_bag_here", "_law_many"] (defScope sLRiver) := ⟨rfl, rfl, rfl, by decide +kernel, rfl, by decide +kernel, by decide +kernel⟩
section
variable {P : Program} {w : World} {K : PySem.W.Frag} {mg : Str → Option Value} {base : Heap}
/-- the functions of the law's helpers, by their addresses -/
structure Hf (K : PySem.W.Frag) (mg : Str → Option Value) : Prop where
  B : Bl mg
  take : ∃ f fd, FnP K "_law_take" sTake f fd ∧ mg "_law_take" = some (.ref f)
  of : ∃ f fd, FnP K "_law_of" sOf f fd ∧ mg "_law_of" = some (.ref f)
  mixed : ∃ f fd, FnP K "_law_mixed" sMixed f fd ∧ mg "_law_mixed" = some (.ref f)
  names : ∃ f fd, FnP K "_law_names" sNames f fd ∧ mg "_law_names" = some (.ref f)
theorem ok_lriver {f : Addr} {fd : FuncData} (F : FnP K "_law_river" sLRiver f fd) (T : Hf K mg) : FnOk P w K mg base CX0 4 f fd ["_law_bag_here", "_law_many"] spLRiver := by
  obtain ⟨fT, fdT, F_law_take, g_law_take⟩ := T.take
  obtain ⟨fO, fdO, F_law_of, g_law_of⟩ := T.of
  obtain ⟨fM, fdM, F_law_mixed, g_law_mixed⟩ := T.mixed
  obtain ⟨fN, fdN, F_law_names, g_law_names⟩ := T.names
  have B := T.B
  have G_law_take : FnOk P w K mg base CX0 1 fT fdT ["_law_bag_here", "_law_many"] spTake := ok_take F_law_take B
  have b_law_take : Binds K fdT ["_law_bag_here", "_law_many"] [] := F_law_take.bindsN fun _ _ _ _ _ _ us hl => match us, hl with | [_, _], _ => rfl
  have G_law_mixed : FnOk P w K mg base CX0 2 fM fdM ["_law_bag_here", "_law_some"] (spMixed K) := ok_mixed F_law_mixed F_law_take B g_law_take
  have b_law_mixed : Binds K fdM ["_law_bag_here", "_law_some"] [] := F_law_mixed.bindsN fun _ _ _ _ _ _ us hl => match us, hl with | [_, _], _ => rfl
  have G_law_names : FnOk P w K mg base CX0 3 fN fdN ["_law_bag_here", "_law_many"] spNames := ok_names F_law_names F_law_take F_law_of B g_law_take g_law_of
  have b_law_names : Binds K fdN ["_law_bag_here", "_law_many"] [] := F_law_names.bindsN fun _ _ _ _ _ _ us hl => match us, hl with | [_, _], _ => rfl
  refine F.ok scLRiver (fun vs H Q E h => ?_) (fun cdv A outer s H vs Q E hr h => ?_)
  · obtain ⟨p, m, rfl, _⟩ := h
    rfl
  · obtain ⟨p, m, rfl, hB, hm1, hm2, k⟩ := h
    have hr_law_take : Room 1 _ := hr.mono (by decide)
    have hr_law_mixed : Room 2 _ := hr.mono (by decide)
    have hr_law_names : Room 3 _ := hr.mono (by decide)
    refine ⟨_, PSs.nox (pss_cons
      (ps_par (i := 2) (j := 3) (by rfl) scLRiver.nd rfl rfl (by decide) rfl rfl (pa_cons (pe_call G_law_names hr_law_names (by rfl) g_law_names F_law_names.kp b_law_names .nil pass0 (pa_cons (pv 0) (pa_cons (pv 1) pa_nil))) (pa_cons (pe_lst pa_nil) pa_nil)) (by rfl))
      (pss_cons
      (ps_for PassesOwn.never rfl (pi_range1 (by rfl) B.range (pa_cons (pv 1) pa_nil)) (pg_name (i := 4) scLRiver.nd rfl (Or.inl rfl)) (pss_cons
      (ps_set (i := 5) scLRiver.nd rfl (Or.inl rfl) (pe_call G_law_take hr_law_take (by rfl) g_law_take F_law_take.kp b_law_take .nil pass0 (pa_cons (pv 0) (pa_cons pe_int pa_nil))))
      (pss_one
      (ps_if (PW.pt (pw_or (pt_cmpR op_eq (pv 4) pe_int (nomark _)) (pw_or1 (pt_cmpR op_eq (pv 5) pe_int (nomark _))))) (pss_one
      (ps_expr (pe_bm PySem.F.plainAttrs_list PySem.F.slot_list_append PySem.F.type_list_append mt_append (pv 3) (pa_cons (pe_tup (pa_cons (pe_ix ix_list (pv 2) (pv 4) (fun _ _ => rfl)) (pa_cons pe_str pa_nil))) pa_nil)))) (pss_one
      (ps_expr (pe_bm PySem.F.plainAttrs_list PySem.F.slot_list_append PySem.F.type_list_append mt_append (pv 3) (pa_cons (pe_tup (pa_cons (pe_ix ix_list (pv 2) (pv 4) (fun _ _ => rfl)) (pa_cons (pe_ifExp (pt_cmpR op_lt (pv 5) pe_int (nomark _)) (pe_ix ix_list (pv 2) (pe_op op_sub (pv 4) pe_int) (fun _ _ => rfl)) (pe_ix ix_list (pv 2) (pe_call G_law_take hr_law_take (by rfl) g_law_take F_law_take.kp b_law_take .nil pass0 (pa_cons (pv 0) (pa_cons (pv 4) pa_nil))) (fun _ _ => rfl))) pa_nil))) pa_nil))))))))
      (pss_one
      (ps_ret (pe_call G_law_mixed hr_law_mixed (by rfl) g_law_mixed F_law_mixed.kp b_law_mixed .nil pass0 (pa_cons (pv 0) (pa_cons (pv 3) pa_nil))))))), ?_⟩
    refine ⟨_, rfl, _, rfl, p, m, rfl, hB, by omega, fun H1 n ns u1 B1 nn nnp hn hlen hok => ?_⟩
    refine ⟨Nat.zero_le _, fun l nl => ⟨_, _, rfl, ?_⟩⟩
    have nln : n ≠ l := ne_of_none hn nl
    obtain ⟨b1, hb1, hv1⟩ := id B1
    have npl : p ≠ l := ne_of_none hb1 nl
    have nlH : H l = none := by
      cases e : H l with
      | none => rfl
      | some o =>
        rw [u1 l o e npl.symm] at nl
        cases nl
    refine ⟨_, rfl, (m : Int), rfl, by omega, by omega, ?_⟩
    refine for_range (lo := 0) (n := ((m : Int) - 0).toNat) (fun i σ H3 => ∃ (v4 v5 : Option V) (AR : List (Addr × Row)), σ = [some (.ref p), some (.int (m : Int)), some (.ref n), some (.ref l), v4, v5] ∧ Upto p H H3 ∧ BagAt H3 p ∧ H3 n = some (.lst (ns.map V.str)) ∧ RowsAt H3 l AR ∧ Sofar ns i (rowsOf AR))
      ⟨none, none, [], rfl, u1.trans (Upto.of (same_upd nl)), ⟨b1, by rw [upd_ne npl]; exact hb1, hv1⟩, by rw [upd_ne nln]; exact hn, ⟨upd_same, fun q hq => nomatch hq⟩, ⟨by rw [List.take_zero]; rfl, fun r hr => nomatch hr⟩⟩ ?_ ?_
    · rintro i σ H3 hi ⟨v4, v5, AR, rfl, u3, B3, hn3, hR, hS⟩
      have him : i < ns.length := by omega
      have hnx : ns[i]? = some ns[i] := List.getElem?_eq_getElem him
      have hat : (ns.map V.str)[i]? = some (.str ns[i]) := by
        rw [List.getElem?_map, hnx]
        rfl
      have hARl : AR.length = i := by
        have := congrArg List.length hS.fst
        rw [List.length_map, List.length_map, List.length_take] at this
        omega
      have fin : ∀ (H4 : Hp) (t : Addr) (y : Str), Upto p H H4 → BagAt H4 p → H4 n = some (.lst (ns.map V.str)) → RowsAt H4 l AR → H4 t = none → (y = "sea" ∨ ∃ j, j < i ∧ ns[j]? = some y) →
          (upd H4 t (.tup [.str ns[i], .str y])) l = some (.lst (AR.map fun q => V.ref q.1)) ∧ (AR.map fun q => V.ref q.1).length < sizeLine ∧ ∃ AR' : List (Addr × Row),
          Upto p H (upd (upd H4 t (.tup [.str ns[i], .str y])) l (.lst ((AR.map fun q => V.ref q.1) ++ [.ref t]))) ∧ BagAt (upd (upd H4 t (.tup [.str ns[i], .str y])) l (.lst ((AR.map fun q => V.ref q.1) ++ [.ref t]))) p ∧
          (upd (upd H4 t (.tup [.str ns[i], .str y])) l (.lst ((AR.map fun q => V.ref q.1) ++ [.ref t]))) n = some (.lst (ns.map V.str)) ∧ RowsAt (upd (upd H4 t (.tup [.str ns[i], .str y])) l (.lst ((AR.map fun q => V.ref q.1) ++ [.ref t]))) l AR' ∧ Sofar ns (i + 1) (rowsOf AR') := by
        intro H4 t y u4 B4 hn4 hR4 ht hy
        have nlt : l ≠ t := ne_of_none hR4.lst ht
        have nnt : n ≠ t := ne_of_none hn4 ht
        obtain ⟨b4, hb4, hv4⟩ := B4
        have npt : p ≠ t := ne_of_none hb4 ht
        refine ⟨by rw [upd_ne nlt]; exact hR4.lst, by rw [List.length_map]; exact small1000 (by omega), AR ++ [(t, (ns[i], y))], ?_, ⟨b4, by rw [upd_ne npl, upd_ne npt]; exact hb4, hv4⟩, by rw [upd_ne nln, upd_ne nnt]; exact hn4, ⟨?_, ?_⟩, ?_⟩
        · intro b o hb hne
          have h4 := u4 b o hb hne
          rw [upd_ne (ne_of_none hb nlH), upd_ne (ne_of_none h4 ht)]
          exact h4
        · rw [upd_same, List.map_append]
          rfl
        · intro q hq
          rcases List.mem_append.mp hq with hq | hq
          · have h4 := hR4.tup q hq
            rw [upd_ne (ne_of h4 hR4.lst (fun z => by cases z)), upd_ne (ne_of_none h4 ht)]
            exact h4
          · rw [List.mem_singleton.mp hq, upd_ne nlt.symm, upd_same]
        · show Sofar ns (i + 1) ((AR ++ [(t, (ns[i], y))]).map (·.2))
          rw [List.map_append]
          exact hS.more hok.nd hnx hy
      have nlp : l ≠ p := npl.symm
      have nnp : n ≠ p := nnp
      have step : ∀ xs, BagV xs → Upto p H (upd H3 p (.lst xs)) ∧ BagAt (upd H3 p (.lst xs)) p ∧ (upd H3 p (.lst xs)) n = some (.lst (ns.map V.str)) ∧ RowsAt (upd H3 p (.lst xs)) l AR := fun xs hx =>
        ⟨u3.trans Upto.at_, ⟨xs, upd_same, hx⟩, by rw [upd_ne nnp]; exact hn3, hR.upto B3 nlp Upto.at_⟩
      refine ⟨_, rfl, p, 6, rfl, B3, by decide, by decide, fun r xs hr0 hr1 hx => ?_⟩
      obtain ⟨u4, B4, hn4, hR4⟩ := step xs hx
      refine ⟨_, rfl, rfl, _, rfl, ?_⟩
      refine split_if' (α := Unit) (R := fun _ => True) (C := fun _ => ?C) ?use ?key
      case use =>
        intro key
        refine ite2 (fun hc => ?_) (fun hc => ?_)
        · exact key () trivial
        · refine ⟨_, rfl, rfl, _, rfl, ?_⟩
          refine ite2 (fun hd => ?_) (fun hd => ?_)
          · exact key () trivial
          · have hi0 : 0 < i := by
              rcases Nat.eq_zero_or_pos i with e | e
              · subst e
                exact absurd (decide_eq_true rfl) hc
              · exact e
            refine ⟨_, rfl, .inl ⟨rfl, _, .inl (.inl hR4.lst)⟩, _, rfl, _, rfl, n, _, _, _, rfl, rfl, .inl (.inl hn4), at_of (by omega) hat, ?_⟩
            refine ⟨_, rfl, r, 4, rfl, rfl, _, rfl, ?_⟩
            refine ite2 (fun he => ?_) (fun he => ?_)
            · have hat2 : (ns.map V.str)[i - 1]? = some (.str ns[i - 1]) := by
                rw [List.getElem?_map, List.getElem?_eq_getElem (by omega)]
                rfl
              refine ⟨_, rfl, _, rfl, _, _, rfl, rfl, n, _, _, _, rfl, rfl, .inl (.inl hn4), at_of (j := i - 1) (by omega) hat2, ?_⟩
              refine ⟨by show 2 ≤ sizeLine; decide, fun t nt => ?_⟩
              obtain ⟨f1, f2, AR', f3, f4, f5, f6, f7⟩ := fin _ t ns[i - 1] u4 B4 hn4 hR4 nt (.inr ⟨i - 1, by omega, List.getElem?_eq_getElem (by omega)⟩)
              exact ⟨l, _, _, rfl, rfl, f1, f2, _, _, AR', rfl, f3, f4, f5, f6, f7⟩
            · refine ⟨_, rfl, _, rfl, _, rfl, p, _, rfl, B4, by omega, by omega, fun r2 xs2 hr20 hr21 hx2 => ?_⟩
              have hj : r2.toNat < i := by omega
              have hat2 : (ns.map V.str)[r2.toNat]? = some (.str ns[r2.toNat]) := by
                rw [List.getElem?_map, List.getElem?_eq_getElem (by omega)]
                rfl
              have u5 : Upto p H (upd (upd H3 p (.lst xs)) p (.lst xs2)) := u4.trans Upto.at_
              have hn5 : (upd (upd H3 p (.lst xs)) p (.lst xs2)) n = some (.lst (ns.map V.str)) := by
                rw [upd_ne nnp]
                exact hn4
              refine ⟨n, _, _, _, rfl, rfl, .inl (.inl hn5), at_of (j := r2.toNat) (by omega) hat2, ?_⟩
              refine ⟨by show 2 ≤ sizeLine; decide, fun t nt => ?_⟩
              obtain ⟨f1, f2, AR', f3, f4, f5, f6, f7⟩ := fin _ t ns[r2.toNat] u5 ⟨xs2, upd_same, hx2⟩ hn5 (hR4.upto B4 nlp Upto.at_) nt (.inr ⟨r2.toNat, hj, List.getElem?_eq_getElem (by omega)⟩)
              exact ⟨l, _, _, rfl, rfl, f1, f2, _, _, AR', rfl, f3, f4, f5, f6, f7⟩
      case key =>
        intro _ _
        refine ⟨_, rfl, .inl ⟨rfl, _, .inl (.inl hR4.lst)⟩, _, rfl, _, rfl, n, _, _, _, rfl, rfl, .inl (.inl hn4), at_of (by omega) hat, ?_⟩
        refine ⟨by show 2 ≤ sizeLine; decide, fun t nt => ?_⟩
        obtain ⟨f1, f2, AR', f3, f4, f5, f6, f7⟩ := fin _ t "sea" u4 B4 hn4 hR4 nt (.inl rfl)
        exact ⟨l, _, _, rfl, rfl, f1, f2, _, _, AR', rfl, f3, f4, f5, f6, f7⟩
    · rintro σ H3 ⟨v4, v5, AR, rfl, u3, B3, hn3, hR, hS⟩
      have em : ((m : Int) - 0).toNat = ns.length := by omega
      rw [em] at hS
      have hG : Pre (rowsOf AR) := hS.good hok (by omega)
      have hlA : (rowsOf AR).length = AR.length := List.length_map _
      have hG1 : (rowsOf AR).length ≤ 41 := by
        have := congrArg List.length hS.fst
        rw [List.length_map, List.take_length] at this
        omega
      refine ⟨_, rfl, _, rfl, p, l, _, rfl, B3, npl.symm, .inl (.inl hR.lst), by rw [List.length_map]; omega, fun H5 l5 zs u5 B5 nl5 nl5p hl5 hp => ?_⟩
      obtain ⟨AR', e1, hp'⟩ := perm_lift hp AR rfl
      subst e1
      have nl5H : H l5 = none := by
        cases e : H l5 with
        | none => rfl
        | some o =>
          rw [u3 l5 o e nl5p] at nl5
          cases nl5
      refine k H5 l5 AR' (u3.trans u5) B5 nl5H nl5p ⟨hl5, fun q hq => ?_⟩ (hG.perm (hp'.map _)) ?_
      · have h3 := hR.tup q (hp'.mem_iff.mp hq)
        exact u5 _ _ h3 (bag_ne B3 h3)
      · rw [(hp'.map (·.2)).length_eq]
        have := congrArg List.length hS.fst
        rw [List.length_map, List.take_length] at this
        show (rowsOf AR).length = m
        omega
end
end K0
end
section
set_option Elab.async false
set_option linter.all false
set_option maxRecDepth 100000
namespace L2
open PySem PySem.Spec PyProof.Rows
section
variable {X : Cx}
/-- name = {..} on one line, the name a local -/
theorem k0_setDc {i : Nat} {y : Str} {py : Pos} {kx vx tg iter : Expr} {ifs : List Expr} {scope : Scope} {own : List (Str × Nat)} {pos spos : Pos} {wi : TI} {g : TG} {tt : TT} {tk tv : TE} (hc : X.calm = true) (hN : X.N.Nodup) (hy : X.N[i]? = some y) (hyl : X.env.scope.names.lookup y = some .local)
    (hsw : swapsWith (.DictComp kx vx [⟨tg, iter, ifs, 0⟩] scope pos) (some (.Name y py)) spos.line X.env = pure true) (hi : PI X tg iter wi) (ok : BlkOk X.N X.env.scope scope own)
    (hg : ∀ (s : Shared) (H : Hp) (C : Addr) (cl : List (Str × Addr)) (fp : List Addr), PG (X.blk s H scope (compEnvC scope cl C X.env) fp) tg g) (ht : ∀ (s : Shared) (H : Hp) (C : Addr) (cl : List (Str × Addr)) (fp : List Addr), PTs (X.blk s H scope (compEnvC scope cl C X.env) fp) ifs tt)
    (hk : ∀ (s : Shared) (H : Hp) (C : Addr) (cl : List (Str × Addr)) (fp : List Addr), PE (X.blk s H scope (compEnvC scope cl C X.env) fp) kx tk)
    (he : ∀ (s : Shared) (H : Hp) (C : Addr) (cl : List (Str × Addr)) (fp : List Addr), PE (X.blk s H scope (compEnvC scope cl C X.env) fp) vx tv) (hs : ∀ x, foldedSetIterable iter X.env x = pure x := by intro _; rfl) :
    PS X (.Assign [.Name y py] (.DictComp kx vx [⟨tg, iter, ifs, 0⟩] scope pos) spos) (tAsg (tDc wi g tt tk tv (own.map (·.2))) (gName i)) := by
  refine ⟨fun pins s σ H D I h => ?_⟩
  rw [exec_Assign_Name_used _ _ _ _ hsw]
  refine wpAny_bind (wpAny_standAt (wpAny_bind ?_))
  show wpAny _ X.A (do let _ ← comprehension (.DictComp kx vx [⟨tg, iter, ifs, 0⟩] scope pos) scope X.env (firstIterPos [⟨tg, iter, ifs, 0⟩] pos) newDict false (eval iter X.env) (some (assign (.Name y py) X.env))) _ _ s
  have h : tDc wi g tt tk tv (own.map (·.2)) σ H (fun x H1 => gName i x σ H1 D.nx) := h
  refine wpAny_bind (thn (dc_core (Qf := fun _ s' => SP X pins D .next s') hc hN I hi ok hg ht hk he hs h fun L C s' m H' I' q hn f => ?_) fun _ s' hq => wpAny_pure (wpAny_pure hq))
  show wpAny _ _ (assign (.Name y py) X.env (.ref L)) _ _ _
  refine wpAny_assign_Name (store_ok2 (v := V.ref L) I' hN hy (.inl hyl) rfl (fun s2 I2 ⟨a, sb, ha⟩ => ?_) (.inr hyl))
  obtain ⟨f0, f1, f2, f3, f4, f5⟩ := f
  have haC : C ≠ a := by
    rcases ha with z | z
    · rw [z]; exact f1
    · exact fun e => f4 y a z e.symm
  refine ⟨m, hn.sameBut sb haC, fun h3 sb3 => ?_⟩
  exact ⟨_, H', I2.turned (t' := s2.toks) (fun b o hb e => (sb3.2 b hb).trans e) f0 f1 f3 f4 f5, q⟩
theorem k0_sw {kx vx : Expr} {gs : List Comprehension} {scope : Scope} {pos py : Pos} {y : Str} {l : Nat} {env : Env} (hk : env.scope.kind = .function) (hy : env.scope.names.lookup y = some .local) (hl : (py.line == pos.line) = true)
    (ha : (scope.names.any fun (n, k) => n == y && (k == .local || k == .cell)) = false) : swapsWith (.DictComp kx vx gs scope pos) (some (.Name y py)) l env = pure true := by
  have ky : env.kindOf y = some .local := hy
  have hb : env.blockKind = .function := by unfold Env.blockKind; rw [hk]; rfl
  unfold swapsWith
  simp only [hb, ky, ha, Expr.pos, hl]
  rfl
/-- len of a dict, locked or not -/
theorem k0_lenD : CallR X (.builtin "len") (fun xs H Q => ∃ a kvs, xs = [V.ref a] ∧ Rd H a (.dK kvs) ∧ Q (.int kvs.length) H) := by
  intro pins s σ H xs us Q I r h
  obtain ⟨a, kvs, rfl, ha, q⟩ := h
  obtain ⟨u, rfl, ru⟩ := vals1 r
  cases ru
  exact d_len I ha fun t s' I' => ⟨.int kvs.length, H, I', ⟨t, rfl⟩, q⟩
end
end L2
namespace K0
open PySem PySem.Spec PyProof.Rows L2
theorem iteD {c A B : Prop} [Decidable c] (hc : c) (h : A) : if decide c = true then A else B := by
  rw [decide_eq_true hc]
  exact iteT h
theorem iteDn {c A B : Prop} [Decidable c] (hc : ¬ c) (h : B) : if decide c = true then A else B := by
  rw [decide_eq_false hc]
  exact iteF h
/-- the module's constants -/
structure Gc (mg : Str → Option Value) (tS tM tL : Tok) : Prop where
  SEA : mg "SEA" = some (.str "sea" tS)
  MOST_ROWS : mg "MOST_ROWS" = some (.int 40 tM)
  LONGEST_NAME : mg "LONGEST_NAME" = some (.int 8 tL)
abbrev scIsName_N : List Str := ["value", "letter"]
abbrev scIsName_S : Stmt := sIsName
theorem scIsName : FnScope scIsName_N ["value"] (defScope sIsName) := ⟨rfl, rfl, rfl, by decide +kernel, rfl, by decide +kernel, by decide +kernel⟩
theorem scIsRow : FnScope ["entry"] ["entry"] (defScope sIsRow) := ⟨rfl, rfl, rfl, by decide +kernel, rfl, by decide +kernel, by decide +kernel⟩
def spIsName : Sp := fun vs H Q _ => ∃ x : Str, vs = [.str x] ∧ NameOk x ∧ ∀ H', Same H H' → Q (.bl true) H'
/-- a row: a name that is not the sea's, and a name -/
structure RowOk (r : Row) : Prop where
  a : NameOk r.1
  b : NameOk r.2
  s : r.1 ≠ "sea"
def spIsRow (K : PySem.W.Frag) : Sp := fun vs H Q _ => ∃ (t : Addr) (r : Row), vs = [.ref t] ∧ H t = some (.tup [.str r.1, .str r.2]) ∧ RowOk r ∧ ∀ H', Same H H' → Q (.bl true) H'
theorem le_low1 {c : Nat} (h : Low c) : (!decide (([c] : List Nat) < [97])) = true := by
  have : ¬ ([c] : List Nat) < [97] := by
    intro z
    rw [List.cons_lt_cons_iff] at z
    rcases z with z | ⟨_, z⟩
    · have := h.1; omega
    · exact absurd z (List.not_lt_nil _)
  rw [decide_eq_false this]
  rfl
theorem le_low2 {c : Nat} (h : Low c) : (!decide (([122] : List Nat) < [c])) = true := by
  have : ¬ ([122] : List Nat) < [c] := by
    intro z
    rw [List.cons_lt_cons_iff] at z
    rcases z with z | ⟨_, z⟩
    · have := h.2; omega
    · exact absurd z (List.not_lt_nil _)
  rw [decide_eq_false this]
  rfl
theorem sea_ok : NameOk "sea" := ⟨by rw [sea_list]; decide, by rw [sea_list]; decide, by
  rw [sea_list]
  intro c hc
  have : c = 115 ∨ c = 101 ∨ c = 97 := by simpa [seaL] using hc
  constructor <;> omega⟩
section
variable {P : Program} {w : World} {K : PySem.W.Frag} {mg : Str → Option Value} {base : Heap} {tS tM tL : Tok}
theorem ok_isname {f : Addr} {fd : FuncData} (F : FnP K "is_name" sIsName f fd) (B : Bl mg) (C : Gc mg tS tM tL) : FnOk P w K mg base CX0 1 f fd ["value"] spIsName := by
  refine F.ok scIsName (fun vs H Q E h => ?_) (fun cdv A outer s H vs Q E hr h => ?_)
  · obtain ⟨x, rfl, _⟩ := h
    rfl
  · obtain ⟨x, rfl, hx, k⟩ := h
    refine ⟨_, PSs.nox (pss_cons
      (ps_if (pt_not (pt_val (pe_callB call_isi (by rfl) B.isinstance (by decide +kernel) (pa_cons (pv 0) (pa_cons (pe_bltn (v := .ty "str") (by rfl) B.str (by decide +kernel) rfl) pa_nil))))) (pss_one
      (ps_ret pe_bl)) pss_nil)
      (pss_one
      (ps_ret (pe_and (pe_chain op_le op_le pe_int (pe_callB call_len_str (by rfl) B.len PySem.boot_len (pa_cons (pv 0) pa_nil)) (pe_glob (v := .int 8) (by rfl) C.LONGEST_NAME ⟨_, rfl⟩)) (pe_one (pe_callB (cr_all rfl) (by rfl) B.all (by decide +kernel) (pa_cons (pe_lc (own := [("letter", 1)]) (g := gName 1) (tt := tYes) (by rfl) scIsName.nd (pi_str (pv 0)) (blkOk_by (own := [("letter", 1)]) (N := scIsName_N) (sc := defScope scIsName_S) (by decide +kernel)) (fun _ _ _ _ _ => (pg_name (i := 1) scIsName.nd rfl (Or.inl rfl))) (fun _ _ _ _ _ => pts_nil) (fun _ _ _ _ _ => (pe_chain op_le_str op_le_str pe_str (pv 1) pe_str))) pa_nil))))))), ?_⟩
    refine ⟨_, rfl, .str x, .ty "str", _, _, true, rfl, .ty "str", .base (.str x), kit_ty (by decide +kernel), _, rfl, ?_⟩
    refine iteF ?_
    have hz : x.length ≤ sizeLine := Nat.le_of_lt (small1000 (by have := hx.most; rw [len_list]; omega))
    have hz1 : 1 ≤ x.length := by rw [len_list]; exact hx.one
    have hz2 : x.length ≤ 8 := by rw [len_list]; exact hx.most
    refine ⟨_, rfl, x, rfl, hz, 1, (x.length : Int), rfl, rfl, _, rfl, ?_⟩
    refine iteD (by omega) ?_
    refine ⟨_, _, rfl, rfl, _, rfl, ?_⟩
    refine iteD (by omega) ?_
    refine ⟨_, rfl, x, rfl, fun D hD => ?_⟩
    refine lc_it (walk_str (z := x)) (fun i H2 => Same H H2 ∧ H2 D = some (.lst ((List.replicate i true).map V.bl))) ⟨same_upd hD, upd_same⟩ (fun _ _ _ _ => trivial) ?_ ?_
    · rintro i v H2 H3 hi ⟨s2, hD2⟩ ⟨e, c, hc, ev⟩
      subst e
      subst ev
      have hlow : Low c := hx.low c (by
        rw [← Array.getElem?_toList] at hc
        exact List.mem_of_getElem? hc)
      refine ⟨rfl, ?_⟩
      unfold tYes
      refine iteT ?_
      refine ⟨_, rfl, "a", ⟨#[c]⟩, rfl, rfl, _, rfl, ?_⟩
      have q1 := le_low1 hlow
      have q2 := le_low2 hlow
      refine Eq.mpr (if_pos q1) ?_
      refine ⟨⟨#[c]⟩, "z", rfl, rfl, _, hD2, ?_, fun b o hb => ?_, ?_⟩
      · rw [List.length_map, List.length_replicate]
        have h8 := hx.most
        rw [Array.length_toList] at h8
        exact small1000 (by omega)
      · rw [upd_ne (ne_of_none hb hD)]
        exact s2 b o hb
      · rw [upd_same, List.replicate_succ', List.map_append]
        have q3 : (!decide ((("z" : Str)).cps.toList < (⟨#[c]⟩ : Str).cps.toList)) = true := q2
        rw [q3]
        rfl
    · rintro H2 ⟨s2, hD2⟩
      refine ⟨D, List.replicate x.cps.size true, rfl, .inl (.inl hD2), ?_⟩
      have e : ((List.replicate x.cps.size true).all id) = true := by
        rw [List.all_eq_true]
        intro b hb
        exact (List.mem_replicate.mp hb).2
      rw [e]
      exact k H2 s2
theorem ok_isrow {f fN : Addr} {fd fdN : FuncData} (F : FnP K "_is_row" sIsRow f fd) (F_is_name : FnP K "is_name" sIsName fN fdN) (gis_name : mg "is_name" = some (.ref fN)) (B : Bl mg) (C : Gc mg tS tM tL) : FnOk P w K mg base CX0 2 f fd ["entry"] (spIsRow K) := by
  have Gis_name : FnOk P w K mg base CX0 1 fN fdN ["value"] spIsName := ok_isname F_is_name B C
  have bis_name : Binds K fdN ["value"] [] := F_is_name.bindsN fun _ _ _ _ _ _ us hl => match us, hl with | [_], _ => rfl
  refine F.ok scIsRow (fun vs H Q E h => ?_) (fun cdv A outer s H vs Q E hr h => ?_)
  · obtain ⟨t, r, rfl, _⟩ := h
    rfl
  · obtain ⟨t, r, rfl, ht, hR, k⟩ := h
    have hris_name : Room 1 _ := hr.mono (by decide)
    have Fis_name := F_is_name
    refine ⟨_, PSs.nox (pss_cons
      (ps_if (PW.pt (pw_or (pt_not (pt_val (pe_callB call_isi (by rfl) B.isinstance (by decide +kernel) (pa_cons (pv 0) (pa_cons (pe_bltn (v := .ty "tuple") (by rfl) B.tuple (by decide +kernel) rfl) pa_nil))))) (pw_or1 (pt_cmpR op_ne (pe_callB call_len_seq (by rfl) B.len PySem.boot_len (pa_cons (pv 0) pa_nil)) pe_int (nomark _))))) (pss_one
      (ps_ret pe_bl)) pss_nil)
      (pss_one
      (ps_ret (pe_and (pe_call Gis_name hris_name (by rfl) gis_name Fis_name.kp bis_name .nil pass0 (pa_cons (pe_ix ix_tup (pv 0) pe_int (fun _ _ => rfl)) pa_nil)) (pe_and (pe_call Gis_name hris_name (by rfl) gis_name Fis_name.kp bis_name .nil pass0 (pa_cons (pe_ix ix_tup (pv 0) pe_int (fun _ _ => rfl)) pa_nil)) (pe_one (pe_cmpR op_ne (pe_ix ix_tup (pv 0) pe_int (fun _ _ => rfl)) (pe_glob (v := .str "sea") (by rfl) C.SEA ⟨_, rfl⟩) (nomark _)))))))), ?_⟩
    have g : ∀ H', Same H H' → SqT K H' t [.str r.1, .str r.2] := fun H' s => .inl (.inl (s _ _ ht))
    refine ⟨_, rfl, .ref t, .ty "tuple", _, _, true, rfl, .ty "tuple", .base (.tup ht), kit_ty (by decide +kernel), _, rfl, ?_⟩
    refine iteF ?_
    refine ⟨_, rfl, t, _, rfl, .inr (g _ (.refl _)), rfl, _, rfl, ?_⟩
    refine iteNS rfl ?_
    refine ⟨_, rfl, t, _, _, _, rfl, rfl, g _ (.refl _), atI_nat (j := 0) rfl, r.1, rfl, hR.a, fun H1 s1 => ⟨_, rfl, iteT ?_⟩⟩
    refine ⟨_, rfl, t, _, _, _, rfl, rfl, g _ s1, atI_nat (j := 1) rfl, r.2, rfl, hR.b, fun H2 s2 => ⟨_, rfl, iteT ?_⟩⟩
    refine ⟨_, rfl, t, _, _, _, rfl, rfl, g _ (s1.trans s2), atI_nat (j := 0) rfl, rfl, ?_⟩
    have e : (!decide (V.str r.1 = V.str "sea")) = true := by
      rw [decide_eq_false (fun z => hR.s (V.str.inj z))]
      rfl
    show Q (.bl (!decide (V.str r.1 = V.str "sea"))) H2
    rw [e]
    exact k H2 (s1.trans s2)
end
end K0
end
section
set_option Elab.async false
set_option linter.all false
set_option maxRecDepth 100000
namespace K0
open PySem PySem.Spec PyProof.Rows L2
/-! ### dicts by names -/
def kmap (f : Str → V) (ns : List Str) : List (Key × V) := ns.map fun n => ((Sum.inr n : Key), f n)
theorem kmap_len (f : Str → V) (ns : List Str) : (kmap f ns).length = ns.length := List.length_map _
theorem kmap_keys (f : Str → V) (ns : List Str) : (kmap f ns).map (·.1) = ns.map Sum.inr := by
  unfold kmap
  rw [List.map_map]
  rfl
theorem kmap_not {f : Str → V} {ns : List Str} {x : Str} (h : x ∉ ns) : valV (kmap f ns) (Sum.inr x) = none := by
  cases e : valV (kmap f ns) (Sum.inr x) with
  | none => rfl
  | some v =>
    have m := valV_in e
    rw [kmap_keys] at m
    obtain ⟨y, hy, ey⟩ := List.mem_map.mp m
    rw [Sum.inr.inj ey] at hy
    exact absurd hy h
theorem kmap_at {f : Str → V} : ∀ {ns : List Str} {x : Str}, x ∈ ns → valV (kmap f ns) (Sum.inr x) = some (f x)
  | n :: r, x, h => by
    by_cases e : n = x
    · subst e
      unfold kmap valV
      rw [List.map_cons, List.find?_cons_of_pos (by simp)]
      rfl
    · have h' : x ∈ r := (List.mem_cons.mp h).resolve_left fun z => e z.symm
      have ih := kmap_at (f := f) h'
      unfold kmap valV at ih ⊢
      rw [List.map_cons, List.find?_cons_of_neg (by simp [e])]
      exact ih
theorem kmap_put {f : Str → V} {ns : List Str} {x : Str} (h : x ∉ ns) : putK (kmap f ns) (Sum.inr x) (f x) = kmap f (ns ++ [x]) := by
  rw [putK_new _ (kmap_not h)]
  unfold kmap
  rw [List.map_append]
  rfl
theorem GoodRows.row {R : List Row} (g : GoodRows R) {r : Row} (h : r ∈ R) : RowOk r := by
  have h1 : r.1 ∈ R.map (·.1) := List.mem_map.mpr ⟨r, h, rfl⟩
  obtain ⟨rk, hr⟩ := g.rank
  refine ⟨g.nm.ok _ h1, ?_, g.nm.sea _ h1⟩
  rcases hr r h with e | ⟨e, _⟩
  · rw [e]
    exact sea_ok
  · exact g.nm.ok _ e
theorem row_at {AR : List (Addr × Row)} {i : Nat} {x : V} (e : (AR.map fun q => V.ref q.1)[i]? = some x) (hi : i < AR.length) : x = .ref AR[i].1 := by
  rw [List.getElem?_map, List.getElem?_eq_getElem hi] at e
  exact (Option.some.inj e).symm
theorem nmlen (AR : List (Addr × Row)) : ((rowsOf AR).map (·.1)).length = AR.length := by rw [List.length_map, List.length_map]
abbrev scNeedRows_N : List Str := ["rows", "weirs", "place", "entry", "_", "low"]
theorem scNeedRows : FnScope scNeedRows_N ["rows"] (defScope sNeedRows) := ⟨rfl, rfl, rfl, by decide +kernel, rfl, by decide +kernel, by decide +kernel⟩
def spNeedRows (K : PySem.W.Frag) : Sp := fun vs H Q _ => ∃ (l : Addr) (AR : List (Addr × Row)), vs = [.ref l] ∧ RowsAt H l AR ∧ GoodRows (rowsOf AR) ∧ ∀ H', Same H H' → Q .non H'
section
variable {P : Program} {w : World} {K : PySem.W.Frag} {mg : Str → Option Value} {base : Heap} {tS tM tL : Tok}
theorem ok_needrows {f fN fR : Addr} {fd fdN fdR : FuncData} (F : FnP K "_need_rows" sNeedRows f fd) (F_is_name : FnP K "is_name" sIsName fN fdN) (gis_name : mg "is_name" = some (.ref fN))
    (F_is_row : FnP K "_is_row" sIsRow fR fdR) (g_is_row : mg "is_row_rivers" = some (.ref fR)) (B : Bl mg) (C : Gc mg tS tM tL) : FnOk P w K mg base CX0 3 f fd ["rows"] (spNeedRows K) := by
  have G_is_row : FnOk P w K mg base CX0 2 fR fdR ["entry"] (spIsRow K) := ok_isrow F_is_row F_is_name gis_name B C
  have b_is_row : Binds K fdR ["entry"] [] := F_is_row.bindsN fun _ _ _ _ _ _ us hl => match us, hl with | [_], _ => rfl
  refine F.ok scNeedRows (fun vs H Q E h => ?_) (fun cdv A outer s H vs Q E hr h => ?_)
  · obtain ⟨l, AR, rfl, _⟩ := h
    rfl
  · obtain ⟨l, AR, rfl, hR, hG, k⟩ := h
    have hu := hu_of hr
    have hr_is_row : Room 2 _ := hr.mono (by decide)
    refine ⟨_, PSs.nox (pss_cons
      (ps_if (PW.pt (pw_or (pt_not (pt_val (pe_callB call_isi (by rfl) B.isinstance (by decide +kernel) (pa_cons (pv 0) (pa_cons (pe_bltn (v := .ty "list") (by rfl) B.list (by decide +kernel) rfl) pa_nil))))) (pw_or1 (pt_not (pt_chain op_le op_le pe_int (pe_callB call_len_seq (by rfl) B.len PySem.boot_len (pa_cons (pv 0) pa_nil)) (pe_glob (v := .int 40) (by rfl) C.MOST_ROWS ⟨_, rfl⟩)))))) (pss_one
      ps_never) pss_nil)
      (pss_cons
      (ps_set (i := 1) scNeedRows.nd rfl (Or.inl rfl) pe_dnewK)
      (pss_cons
      (ps_for PassesOwn.never rfl (pi_enum (by rfl) B.enumerate (pa_cons (pv 0) pa_nil)) (pg_tup (by rfl) (pgs_cons (pg_name (i := 2) scNeedRows.nd rfl (Or.inl rfl)) (pgs_cons (pg_name (i := 3) scNeedRows.nd rfl (Or.inl rfl)) pgs_nil))) (pss_cons
      (ps_if (PW.pt (pw_or (pt_not (pt_val (pe_call G_is_row hr_is_row (by rfl) g_is_row F_is_row.kp b_is_row .nil pass0 (pa_cons (pv 3) pa_nil)))) (pw_or1 (pt_cmp (pc_din hu (pe_ix ix_tup (pv 3) pe_int (fun _ _ => rfl)) (pv 1)))))) (pss_one
      ps_never) pss_nil)
      (pss_one
      (ps_dput hu (pv 1) (pe_ix ix_tup (pv 3) pe_int (fun _ _ => rfl)) pe_bl rfl))))
      (pss_one
      (ps_for PassesOwn.never rfl (pi_enum (by rfl) B.enumerate (pa_cons (pv 0) pa_nil)) (pg_tup (by rfl) (pgs_cons (pg_name (i := 2) scNeedRows.nd rfl (Or.inl rfl)) (pgs_cons (pg_tup (by rfl) (pgs_cons (pg_name (i := 4) scNeedRows.nd rfl (Or.inl rfl)) (pgs_cons (pg_name (i := 5) scNeedRows.nd rfl (Or.inl rfl)) pgs_nil))) pgs_nil))) (pss_one
      (ps_if (PW.pt (pw_and (pt_cmpR op_ne (pv 5) (pe_glob (v := .str "sea") (by rfl) C.SEA ⟨_, rfl⟩) (nomark _)) (pw_and1 (pt_cmp (pc_dnotin hu (pv 5) (pv 1)))))) (pss_one
      ps_never) pss_nil))))))), ?_⟩
    refine ⟨_, rfl, .ref l, .ty "list", _, _, true, rfl, .ty "list", .base (.lst hR.lst), kit_ty (by decide +kernel), _, rfl, ?_⟩
    refine iteF ?_
    have hlen : (AR.map fun q => V.ref q.1).length = (rowsOf AR).length := by rw [List.length_map, List.length_map]
    have ho := hG.one
    have hm := hG.most
    refine ⟨_, rfl, l, _, rfl, .inl (.inl (.inl hR.lst)), 1, _, rfl, rfl, _, rfl, ?_⟩
    refine iteD (by omega) ?_
    refine ⟨_, _, rfl, rfl, _, rfl, ?_⟩
    refine iteNS (by omega) ?_
    intro D hD
    have s0 : Same H (upd H D (.dK [])) := same_upd hD
    have hnd := hG.nm.nd
    -- the first loop
    refine ⟨_, rfl, l, _, rfl, s0.seq (.inl (.inl hR.lst)), ?_⟩
    refine for_it (walk_enum (xs := AR.map fun q => V.ref q.1)) (fun i σ H2 => ∃ (v2 v3 v4 v5 : Option V), σ = [some (.ref l), some (.ref D), v2, v3, v4, v5] ∧ Same H H2 ∧ H2 D = some (.dK (kmap (fun _ => .bl true) (((rowsOf AR).map (·.1)).take i))))
      ⟨_, _, _, _, rfl, s0, by rw [upd_same, List.take_zero]; rfl⟩ (fun _ _ _ _ h => by obtain ⟨_, _, _, _, _, s, _⟩ := h; exact s.seq (.inl (.inl hR.lst))) ?_ ?_
    · rintro i x σ H2 H3 hi ⟨v2, v3, v4, v5, rfl, s2, hD2⟩ ⟨T, x1, x2, rfl, hT, rfl, e1, e2⟩
      rw [List.length_map] at hi
      have hx1 : x1 = .int (i : Int) := (Option.some.inj e1).symm
      subst hx1
      have hx2 : x2 = .ref AR[i].1 := row_at e2 hi
      subst hx2
      have hmem : AR[i] ∈ AR := List.getElem_mem hi
      have hrow : AR[i].2 ∈ rowsOf AR := List.mem_map.mpr ⟨_, hmem, rfl⟩
      have hok := hG.row hrow
      have s3 : Same H (upd H2 T (.tup [.int (i : Int), .ref AR[i].1])) := s2.trans (same_upd hT)
      have hD3 : (upd H2 T (.tup [.int (i : Int), .ref AR[i].1])) D = some (.dK (kmap (fun _ => .bl true) (((rowsOf AR).map (·.1)).take i))) := by
        rw [upd_ne (ne_of_none hD2 hT)]
        exact hD2
      have hni : ((rowsOf AR).map (·.1))[i]? = some AR[i].2.1 := by
        rw [List.getElem?_map, List.getElem?_map, List.getElem?_eq_getElem hi]
        rfl
      have hnot : AR[i].2.1 ∉ ((rowsOf AR).map (·.1)).take i := by
        intro hm2
        obtain ⟨j, hj⟩ := List.getElem?_of_mem hm2
        have hji : j < i := by
          have := (List.getElem?_eq_some_iff.mp hj).1
          rw [List.length_take] at this
          omega
        rw [List.getElem?_take_of_lt hji] at hj
        have := nd_ix hnd hj hni
        omega
      refine ⟨T, _, rfl, .inl (.inl upd_same), rfl, _, _, rfl, _, _, rfl, rfl, ?_⟩
      refine ⟨_, rfl, AR[i].1, AR[i].2, rfl, s3 _ _ (hR.tup _ hmem), hok, fun H4 s4 => ⟨_, rfl, ?_⟩⟩
      refine iteF ?_
      have s5 : Same H H4 := s3.trans s4
      have hD4 := s4 _ _ hD3
      have ht4 : SqT K H4 AR[i].1 [.str AR[i].2.1, .str AR[i].2.2] := .inl (.inl (s5 _ _ (hR.tup _ hmem)))
      refine ⟨_, rfl, AR[i].1, _, _, _, rfl, rfl, ht4, atI_nat (j := 0) rfl, _, rfl, D, _, rfl, DGet.k (k := Sum.inr AR[i].2.1) hD4, _, rfl, ?_⟩
      rw [kmap_not hnot]
      refine iteF ?_
      refine ⟨_, rfl, _, rfl, AR[i].1, _, _, _, rfl, rfl, ht4, atI_nat (j := 0) rfl, D, _, rfl, DPut.k (k := Sum.inr AR[i].2.1) hD4 ?_, ?_⟩
      · rw [kmap_len, List.length_take, nmlen]
        rw [List.length_map] at hm
        exact small1000 (by omega)
      · refine ⟨_, _, _, _, rfl, fun b o hb => ?_, ?_⟩
        · rw [upd_ne (ne_of_none hb hD)]
          exact s5 b o hb
        · have := kmap_put (f := fun _ => .bl true) hnot
          rw [upd_same, this, List.take_add_one, hni]
          rfl
    · rintro σ H2 ⟨v2, v3, v4, v5, rfl, s2, hD2⟩
      rw [List.take_of_length_le (by rw [List.length_map, List.length_map, List.length_map]; exact Nat.le_refl _)] at hD2
      obtain ⟨rk, hrk⟩ := hG.rank
      refine ⟨_, rfl, l, _, rfl, s2.seq (.inl (.inl hR.lst)), ?_⟩
      refine for_it (walk_enum (xs := AR.map fun q => V.ref q.1)) (fun i σ H3 => ∃ (v2 v3 v4 v5 : Option V), σ = [some (.ref l), some (.ref D), v2, v3, v4, v5] ∧ Same H2 H3)
        ⟨_, _, _, _, rfl, .refl _⟩ (fun _ _ _ _ h => by obtain ⟨_, _, _, _, _, s⟩ := h; exact (s2.trans s).seq (.inl (.inl hR.lst))) ?_ ?_
      · rintro i x σ H3 H4 hi ⟨v2, v3, v4, v5, rfl, s3⟩ ⟨T, x1, x2, rfl, hT, rfl, e1, e2⟩
        rw [List.length_map] at hi
        have hx2 : x2 = .ref AR[i].1 := row_at e2 hi
        subst hx2
        have hmem : AR[i] ∈ AR := List.getElem_mem hi
        have hrow : AR[i].2 ∈ rowsOf AR := List.mem_map.mpr ⟨_, hmem, rfl⟩
        have s4 : Same H2 (upd H3 T (.tup [x1, .ref AR[i].1])) := s3.trans (same_upd hT)
        have ht4 : SqT K (upd H3 T (.tup [x1, .ref AR[i].1])) AR[i].1 [.str AR[i].2.1, .str AR[i].2.2] := .inl (.inl (s4 _ _ (s2 _ _ (hR.tup _ hmem))))
        refine ⟨T, _, rfl, .inl (.inl upd_same), rfl, _, _, rfl, _, _, rfl, _, _, rfl, ht4, rfl, _, _, rfl, _, _, rfl, rfl, rfl, ?_⟩
        have hc : AR[i].2.2 = "sea" ∨ AR[i].2.2 ∈ (rowsOf AR).map (·.1) := by
          rcases hrk _ hrow with e | ⟨e, _⟩
          · exact .inl e
          · exact .inr e
        refine ⟨_, rfl, rfl, _, rfl, ?_⟩
        refine ite2 (fun h1 => ?_) (fun h1 => ?_)
        · have hmm : AR[i].2.2 ∈ (rowsOf AR).map (·.1) := by
            rcases hc with e | e
            · rw [decide_eq_true (congrArg V.str e)] at h1
              cases h1
            · exact e
          refine ⟨_, rfl, _, rfl, D, _, rfl, DGet.k (k := Sum.inr AR[i].2.2) (s4 _ _ hD2), _, rfl, ?_⟩
          rw [kmap_at hmm]
          refine iteF ?_
          exact ⟨_, _, _, _, rfl, s4⟩
        · exact ⟨_, _, _, _, rfl, s4⟩
      · rintro σ H3 ⟨v2, v3, v4, v5, rfl, s3⟩
        exact k H3 (s2.trans s3)
end
end K0
end
section
set_option Elab.async false
set_option linter.all false
set_option maxRecDepth 100000
namespace K0
open PySem PySem.Spec PyProof.Rows L2
/-! ### courses -/
def lowR (R : List Row) (x : Str) : Str := ((R.find? fun r => decide (r.1 = x)).map (·.2)).getD "sea"
def itr (low : Str → Str) : Nat → Str → Str
  | 0, x => x
  | n + 1, x => low (itr low n x)
theorem itr_shift (low : Str → Str) : ∀ (n : Nat) (x : Str), itr low (n + 1) x = itr low n (low x)
  | 0, _ => rfl
  | n + 1, x => by
    show low (itr low (n + 1) x) = low (itr low n (low x))
    rw [itr_shift low n x]
def crs (low : Str → Str) : Nat → Str → List Str
  | 0, _ => []
  | n + 1, x => if x = "sea" then [] else x :: crs low n (low x)
def course (R : List Row) (x : Str) : List Str := crs (lowR R) R.length x
theorem low_row {R : List Row} {x : Str} (h : x ∈ R.map (·.1)) : ∃ r ∈ R, r.1 = x ∧ r.2 = lowR R x := by
  unfold lowR
  cases e : R.find? (fun r => decide (r.1 = x)) with
  | none =>
    obtain ⟨r, hr, er⟩ := List.mem_map.mp h
    have := List.find?_eq_none.mp e r hr
    exact absurd (decide_eq_true er) this
  | some r =>
    have h1 := List.mem_of_find?_eq_some e
    have h2 := List.find?_some e
    exact ⟨r, h1, of_decide_eq_true h2, rfl⟩
theorem low_at {R : List Row} (hd : (R.map (·.1)).Nodup) {r : Row} (h : r ∈ R) : lowR R r.1 = r.2 := by
  obtain ⟨q, hq, e1, e2⟩ := low_row (List.mem_map.mpr ⟨r, h, rfl⟩)
  obtain ⟨i, hi⟩ := List.getElem?_of_mem h
  obtain ⟨j, hj⟩ := List.getElem?_of_mem hq
  have g1 : (R.map (·.1))[i]? = some r.1 := by rw [List.getElem?_map, hi]; rfl
  have g2 : (R.map (·.1))[j]? = some r.1 := by rw [List.getElem?_map, hj, ← e1]; rfl
  have : i = j := nd_ix hd g1 g2
  subst this
  rw [hi] at hj
  rw [← e2, Option.some.inj hj]
theorem sub_length : ∀ {c ns : List Str}, c.Nodup → (∀ x ∈ c, x ∈ ns) → c.length ≤ ns.length
  | [], _, _, _ => Nat.zero_le _
  | a :: r, ns, h, hs => by
    obtain ⟨h1, h2⟩ := List.nodup_cons.mp h
    have ha : a ∈ ns := hs a List.mem_cons_self
    have ih := sub_length (ns := ns.erase a) h2 fun x hx => (List.mem_erase_of_ne (fun e => h1 (by rw [← e]; exact hx))).mpr (hs x (List.mem_cons_of_mem _ hx))
    rw [List.length_erase_of_mem ha] at ih
    have : 0 < ns.length := List.length_pos_of_mem ha
    rw [List.length_cons]
    omega
theorem crs_full (low : Str → Str) : ∀ (m n : Nat) (x : Str), m ≤ n → (∀ i, i < m → itr low i x ≠ "sea") → itr low m x = "sea" → crs low n x = (List.range m).map fun i => itr low i x
  | 0, n, x, _, _, h => by
    have h : x = "sea" := h
    subst h
    cases n with
    | zero => rfl
    | succ n => rfl
  | m + 1, 0, _, h, _, _ => absurd h (by omega)
  | m + 1, n + 1, x, h, h1, h2 => by
    have h0 : x ≠ "sea" := h1 0 (by omega)
    have ih := crs_full low m n (low x) (by omega) (fun i hi => by rw [← itr_shift]; exact h1 (i + 1) (by omega)) (by rw [← itr_shift]; exact h2)
    show (if x = "sea" then [] else x :: crs low n (low x)) = _
    rw [if_neg h0, ih, List.range_succ_eq_map, List.map_cons, List.map_map]
    refine congrArg (x :: ·) (List.map_congr_left fun i _ => ?_)
    exact (itr_shift low i x).symm
theorem reach {R : List Row} {rk : Str → Nat} (hr : ∀ r ∈ R, r.2 = "sea" ∨ (r.2 ∈ R.map (·.1) ∧ rk r.2 < rk r.1)) : ∀ (k : Nat) (x : Str), rk x ≤ k → x ∈ R.map (·.1) →
    ∃ m, 1 ≤ m ∧ (∀ i, i < m → itr (lowR R) i x ∈ R.map (·.1)) ∧ (∀ i j, i < j → j < m → rk (itr (lowR R) j x) < rk (itr (lowR R) i x)) ∧ itr (lowR R) m x = "sea" := by
  intro k
  induction k with
  | zero =>
    intro x hk hx
    obtain ⟨r, hrm, e1, e2⟩ := low_row hx
    rcases hr r hrm with e | ⟨e, h⟩
    · refine ⟨1, Nat.le_refl _, fun i hi => ?_, fun i j hij hj => by omega, ?_⟩
      · have : i = 0 := by omega
        subst this
        exact hx
      · show lowR R x = "sea"
        rw [← e2, e]
    · rw [e1] at h
      omega
  | succ k ih =>
    intro x hk hx
    obtain ⟨r, hrm, e1, e2⟩ := low_row hx
    rcases hr r hrm with e | ⟨e, h⟩
    · refine ⟨1, Nat.le_refl _, fun i hi => ?_, fun i j hij hj => by omega, ?_⟩
      · have : i = 0 := by omega
        subst this
        exact hx
      · show lowR R x = "sea"
        rw [← e2, e]
    · rw [e1, e2] at h
      rw [e2] at e
      obtain ⟨m, h1, h2, h3, h4⟩ := ih (lowR R x) (by omega) e
      have first : ∀ j, j < m → rk (itr (lowR R) j (lowR R x)) < rk x := by
        intro j hj
        rcases Nat.eq_zero_or_pos j with z | z
        · subst z
          exact h
        · exact Nat.lt_trans (h3 0 j z hj) h
      refine ⟨m + 1, by omega, fun i hi => ?_, fun i j hij hj => ?_, by rw [itr_shift]; exact h4⟩
      · cases i with
        | zero => exact hx
        | succ i =>
          rw [itr_shift]
          exact h2 i (by omega)
      · cases j with
        | zero => omega
        | succ j =>
          rw [itr_shift]
          cases i with
          | zero => exact first j (by omega)
          | succ i =>
            rw [itr_shift]
            exact h3 i j (by omega) (by omega)
/-- the course of a weir, and how long it is -/
structure CourseIs (R : List Row) (x : Str) (m : Nat) : Prop where
  one : 1 ≤ m
  most : m ≤ R.length
  eq : course R x = (List.range m).map fun i => itr (lowR R) i x
  mem : ∀ i, i < m → itr (lowR R) i x ∈ R.map (·.1)
  sea : itr (lowR R) m x = "sea"
theorem course_is {R : List Row} (g : GoodRows R) {x : Str} (hx : x ∈ R.map (·.1)) : ∃ m, CourseIs R x m := by
  obtain ⟨rk, hr⟩ := g.rank
  obtain ⟨m, h1, h2, h3, h4⟩ := reach hr (rk x) x (Nat.le_refl _) hx
  have hm : m ≤ R.length := by
    have nd : ((List.range m).map fun i => itr (lowR R) i x).Nodup := nodup_range _ _ fun i j hi hj e => by
      rcases Nat.lt_trichotomy i j with z | z | z
      · have := h3 i j z hj
        rw [e] at this
        omega
      · exact z
      · have := h3 j i z hi
        rw [e] at this
        omega
    have := sub_length nd fun y hy => by
      obtain ⟨i, hi, e⟩ := List.mem_map.mp hy
      rw [← e]
      exact h2 i (List.mem_range.mp hi)
    rw [List.length_map, List.length_range, List.length_map] at this
    exact this
  exact ⟨m, h1, hm, crs_full _ _ _ _ hm (fun i hi => g.nm.sea _ (h2 i hi)) h4, h2, h4⟩
theorem CourseIs.len {R : List Row} {x : Str} {m : Nat} (c : CourseIs R x m) : (course R x).length = m := by
  rw [c.eq, List.length_map, List.length_range]
end K0
end
section
set_option Elab.async false
set_option linter.all false
set_option maxRecDepth 100000
namespace L2
open PySem PySem.Spec PyProof.Rows
/-! ### rules with the text's part named, for the blocks of comprehensions -/
section
variable {X : Cx} {K : PySem.W.Frag}
theorem inK (e : X.K = K := by rfl) : OpR X (compareOp .In) (rIn K false) := e ▸ op_in_seq
theorem notInK (e : X.K = K := by rfl) : OpR X (compareOp .NotIn) (rIn K true) := e ▸ op_notIn_seq
theorem ixLK (e : X.K = K := by rfl) : IxR X (rIxL K) := e ▸ ix_list
theorem ixTK (e : X.K = K := by rfl) : IxR X (rIxT K) := e ▸ ix_tup
theorem lenK (e : X.K = K := by rfl) : CallR X (.builtin "len") (fun xs H Q => ∃ p ys, xs = [.ref p] ∧ (SqL K H p ys ∨ SqT K H p ys) ∧ Q (.int ys.length) H) := e ▸ call_len_seq
theorem listK (e : X.K = K := by rfl) : CallR X (.type "list") (fun xs H Q => ∃ p ys, xs = [.ref p] ∧ (SqL K H p ys ∨ SqT K H p ys) ∧ ∀ l, H l = none → Q (.ref l) (upd H l (.lst ys))) := e ▸ call_list_of
theorem tupleK (e : X.K = K := by rfl) : CallR X (.type "tuple") (fun xs H Q => ∃ p ys, xs = [.ref p] ∧ ((SqL K H p ys ∧ ∀ l, H l = none → Q (.ref l) (upd H l (.tup ys))) ∨ (SqT K H p ys ∧ Q (.ref p) H))) := e ▸ call_tuple_of
theorem fldK {o : Expr} {f : Str} {pos : Pos} {ta : TE} (he : PE X o ta) (hb : attributeBase o f X.env (eval o X.env) = eval o X.env) (e : X.K = K := by rfl) : PE X (.Attribute o f pos) (tFld K ta f) := e ▸ pe_fld he hb
theorem tgK {es : List Expr} {k : Nat} {pos : Pos} {t : TGs} {n : Nat} (hc : X.calm = true) (h : PGs X es t)
    (hn : (assignEach es X.env).length = n := by rfl) (hst : (assignEach es X.env).findIdx? (·.1) = none := by rfl) (e : X.K = K := by rfl) : PG X (.Tuple es k pos) (gTup K n t) := e ▸ pg_tup hc h hn hst
end
end L2
namespace L2
open PySem PySem.Spec PyProof.Rows
/-! ### tuples whose methods are called: the object is known to be plain -/
structure PlainT (o : Obj) : Prop where
  cls : o.cls = .type "tuple"
  dict : o.dict = none
section
variable {X : Cx} {K : PySem.W.Frag}
theorem k0_tupleF : CallR X (.type "tuple") (fun xs H Q => ∃ p ys, xs = [.ref p] ∧ SqL X.K H p ys ∧ ∀ l o, H l = none → PlainT o → Q (.ref l) (upd H l (.frz o (.tup ys)))) := by
  intro pins s σ H xs us Q I r h
  obtain ⟨p, ys, rfl, hq, q⟩ := h
  obtain ⟨u, rfl, rx⟩ := vals1 r
  cases rx
  obtain ⟨its, r', pl, hz⟩ := I.list hq
  have hlen := r'.length
  refine call_tuple_list pl.isList (fun h' kp => ?_) (by simp only [List.size_toArray] <;> omega)
  have I1 : Inv X pins σ H { s with heap := h' } := I.kept (t' := s.toks) kp
  have I2 : Inv X pins σ (upd H h'.objs.size (.frz { cls := .type "tuple", data := .seq its.toArray } (.tup ys))) { s with heap := h'.push { cls := .type "tuple", data := .seq its.toArray } } :=
    I1.laid (t' := s.toks) (fun b o e => Heap.get?_push_of_some _ e) (Nat.le_refl _) (show ObjOk X.prog X.w _ _ _ (.frz _ (.tup ys)) from ⟨Heap.get?_push_size _ rfl, hz, its, r', IsTup.new _ _⟩)
  exact ⟨.ref h'.objs.size, _, I2, rfl, q _ _ (I1.hok.fresh (Nat.le_refl _)) ⟨rfl, rfl⟩⟩
theorem tupleF (e : X.K = K := by rfl) : CallR X (.type "tuple") (fun xs H Q => ∃ p ys, xs = [.ref p] ∧ SqL K H p ys ∧ ∀ l o, H l = none → PlainT o → Q (.ref l) (upd H l (.frz o (.tup ys)))) := e ▸ k0_tupleF
/-- t.m(e, ..), t such a tuple -/
def tBMT (r : V → List V → Hp → VK → Prop) (to : TE) (t : TA) : TE := fun σ H Q => to σ H fun x H1 => (∃ p o xs, x = .ref p ∧ H1 p = some (.frz o (.tup xs)) ∧ PlainT o) ∧ t σ H1 fun xs H2 => r x xs H2 Q
variable {o e : Expr} {es : List Expr} {to : TE} {t : TA} {name : Str} {apos cpos : Pos} {id : String} {r : V → List V → Hp → VK → Prop}
theorem k0_bmT (slot : Slot "tuple" name id) (hty : typeOf (.builtin id) = pure (.type "method_descriptor")) (hm : MtR X id r) (ho : PE X o to) (ha : PA X (e :: es) t)
    (hbase : attributeBase o name X.env (eval o X.env) = eval o X.env := by rfl)
    (hfew : ((backTo cpos (starEach (e :: es) X.env)).all (fun x => !x.1) && (backToKw cpos (keywordEach [] X.env)).all (fun x => x.1.isSome)
      && decide ((e :: es).length + ([] : List Keyword).length + (if ([] : List Keyword).isEmpty then 0 else 1) < 30)) = true := by rfl)
    (hline : (apos.endLine == cpos.line) = true := by rfl) (hs : starEach (e :: es) X.env = (false, eval e X.env) :: starEach es X.env := by rfl) (hplain : (backTo cpos (starEach es X.env)).any (·.1) = false := by rfl) :
    PE X (.Call (.Attribute o name apos) (e :: es) [] cpos) (tBMT r to t) := by
  refine ⟨fun pins s σ H Q I h => ?_⟩
  refine wpAny_Call_method_late hbase hfew hline rfl (thn (ho.run pins s σ H _ I h) fun v s1 ⟨x, H1, I1, r1, ⟨p, ob, xs, ex, hp, pl⟩, q1⟩ => ?_)
  subst ex
  obtain rfl : v = Value.ref p := r1
  obtain ⟨hob, _⟩ := I1.hok p _ hp
  refine ⟨"tuple", id, PySem.F.plainAttrs_tuple, slot, hty, ⟨ob, hob, pl.cls⟩, fun a e => ?_, ?_⟩
  · cases e
    exact ⟨ob, hob, pl.dict⟩
  have hA := ha.run cpos pins s1 σ H1 _ I1 q1
  rw [hs] at hA ⊢
  refine Calls.callWith_builtin (by show (false || (backTo cpos (starEach es X.env)).any (·.1)) = false; rw [hplain] <;> rfl) (Calls.evalArgs_plain ?_)
  exact thn hA fun us s2 ⟨vs, H2, I2, r2, q2⟩ => hm pins s2 σ H2 (.ref p) vs (.ref p) us Q I2 rfl r2 q2
end
end L2
namespace K0
open PySem PySem.Spec PyProof.Rows L2
/-- such a tuple of texts -/
def FT (H : Hp) (t : Addr) (l : List Str) : Prop := ∃ o, PlainT o ∧ H t = some (.frz o (.tup (l.map V.str)))
theorem FT.rd {H : Hp} {t : Addr} {l : List Str} (h : FT H t l) : Rd H t (.tup (l.map V.str)) := by
  obtain ⟨o, _, e⟩ := h
  exact .inr ⟨o, e⟩
theorem FT.to {H H' : Hp} {t : Addr} {l : List Str} (h : FT H t l) (k : ∀ u, H t = some u → (∀ xs, u ≠ .lst xs) → (∀ xs, u ≠ .tup xs) → (∀ kvs, u ≠ .dK kvs) → (∀ a b c, u ≠ .ins a b c) → (∀ ps, u ≠ .tbl ps) → H' t = some u) : FT H' t l := by
  obtain ⟨o, p, e⟩ := h
  exact ⟨o, p, k _ e (fun _ z => by cases z) (fun _ z => by cases z) (fun _ z => by cases z) (fun _ _ _ z => by cases z) (fun _ z => by cases z)⟩
theorem FT.same {H H' : Hp} {t : Addr} {l : List Str} (h : FT H t l) (s : Same H H') : FT H' t l := h.to fun _ e _ _ _ _ _ => s _ _ e
theorem FT.upd {H : Hp} {t a : Addr} {l : List Str} {u : HO} (h : FT H t l) (n : t ≠ a) : FT (upd H a u) t l := h.to fun _ e _ _ _ _ _ => (upd_ne n).trans e
theorem FT.ne {H : Hp} {t a : Addr} {l : List Str} {u : HO} (h : FT H t l) (e : H a = some u) (n : ∀ o l, u ≠ .frz o (.tup l)) : t ≠ a := by
  obtain ⟨o, p, q⟩ := h
  intro z
  rw [z, e] at q
  exact n _ _ (Option.some.inj q)
theorem FT.new {H : Hp} {t a : Addr} {l : List Str} (h : FT H t l) (e : H a = none) : t ≠ a := by
  obtain ⟨o, p, q⟩ := h
  exact ne_of_none q e
end K0
end
section
set_option Elab.async false
set_option linter.all false
set_option maxRecDepth 100000
namespace K0
open PySem PySem.Spec PyProof.Rows L2
abbrev nmsOf (R : List Row) : List Str := R.map (·.1)
abbrev belowK (R : List Row) : List (Key × V) := kmap (fun y => .str (lowR R y)) (nmsOf R)
abbrev scCourse_N : List Str := ["below", "weir", "course"]
theorem scCourse : FnScope scCourse_N ["below", "weir"] (defScope sCourse) := ⟨rfl, rfl, rfl, by decide +kernel, rfl, by decide +kernel, by decide +kernel⟩
def spCourse (K : PySem.W.Frag) : Sp := fun vs H Q _ => ∃ (d : Addr) (R : List Row) (x : Str), vs = [.ref d, .str x] ∧ Rd H d (.dK (belowK R)) ∧ GoodRows R ∧ x ∈ nmsOf R ∧
  ∀ (H' : Hp) (t : Addr), Same H H' → H t = none → FT H' t (course R x) → Q (.ref t) H'
theorem same_rd {H H' : Hp} {a : Addr} {u : HO} (s : Same H H') (r : Rd H a u) : Rd H' a u := r.elim (fun h => .inl (s _ _ h)) fun ⟨o, h⟩ => .inr ⟨o, s _ _ h⟩
theorem dget_rk {H : Hp} {a : Addr} {kvs : List (Key × V)} {k : Key} (e : Rd H a (.dK kvs)) : DGet H a (kV k) (valV kvs k) := .inl ⟨kvs, k, e, rfl, rfl⟩
theorem dget_rn {H : Hp} {a : Addr} {f : Str → V} {ns : List Str} {x : Str} (e : Rd H a (.dK (kmap f ns))) (h : x ∈ ns) : DGet H a (.str x) (some (f x)) := by
  have := dget_rk (k := Sum.inr x) e
  rw [kmap_at h] at this
  exact this
theorem last_of {m : Nat} {f : Nat → Str} (h : 1 ≤ m) : atI (((List.range m).map f).map V.str) (-1) = some (.str (f (m - 1))) := by
  unfold atI ixN
  rw [List.length_map, List.length_map, List.length_range, if_neg (by omega), if_pos (by omega)]
  show (((List.range m).map f).map V.str)[((-1 : Int) + (m : Int)).toNat]? = _
  rw [show ((-1 : Int) + (m : Int)).toNat = m - 1 by omega, List.getElem?_map, List.getElem?_map, List.getElem?_range (by omega)]
  rfl
section
variable {P : Program} {w : World} {K : PySem.W.Frag} {mg : Str → Option Value} {base : Heap} {tS tM tL : Tok}
theorem ok_course {f : Addr} {fd : FuncData} (F : FnP K "_course" sCourse f fd) (B : Bl mg) (C : Gc mg tS tM tL) : FnOk P w K mg base CX0 1 f fd ["below", "weir"] (spCourse K) := by
  refine F.ok scCourse (fun vs H Q E h => ?_) (fun cdv A outer s H vs Q E hr h => ?_)
  · obtain ⟨d, R, x, rfl, _⟩ := h
    rfl
  · obtain ⟨d, R, x, rfl, hd, hG, hx, k⟩ := h
    have hu := hu_of hr
    obtain ⟨m, hC⟩ := course_is hG hx
    refine ⟨_, PSs.nox (pss_cons
      (ps_set (i := 2) scCourse.nd rfl (Or.inl rfl) (pe_lst (pa_cons (pv 1) pa_nil)))
      (pss_cons
      (ps_while PassesOwn.never (PW.pt (pw_and (pt_cmpR op_ne (pe_dget hu (pv 0) (pe_ix (ixLK (K := K)) (pv 2) (pe_un un_neg pe_int) (fun _ _ => rfl)) (fun _ _ => rfl)) (pe_glob (v := .str "sea") (by rfl) C.SEA ⟨_, rfl⟩) (nomark _)) (pw_and1 (pt_cmpR op_le (pe_callB (lenK (K := K)) (by rfl) B.len PySem.boot_len (pa_cons (pv 2) pa_nil)) (pe_callB k0_lenD (by rfl) B.len PySem.boot_len (pa_cons (pv 0) pa_nil)) (nomark _))))) (pss_one
      (ps_expr (pe_bm PySem.F.plainAttrs_list PySem.F.slot_list_append PySem.F.type_list_append mt_append (pv 2) (pa_cons (pe_dget hu (pv 0) (pe_ix (ixLK (K := K)) (pv 2) (pe_un un_neg pe_int) (fun _ _ => rfl)) (fun _ _ => rfl)) pa_nil)))))
      (pss_one
      (ps_ret (pe_callTy (tupleF (K := K)) (by rfl) B.tuple (by decide +kernel) (pa_cons (pv 2) pa_nil)))))), ?_⟩
    refine ⟨_, rfl, by show 1 ≤ sizeLine; decide, fun c nc => ?_⟩
    have s0 : Same H (upd H c (.lst [.str x])) := same_upd nc
    refine while_by (fun σ H2 => ∃ i, 1 ≤ i ∧ i ≤ m ∧ σ = [some (.ref d), some (.str x), some (.ref c)] ∧ Same H H2 ∧ H2 c = some (.lst (((List.range i).map fun j => itr (lowR R) j x).map V.str)))
      (fun _ H2 => match H2 c with | some (.lst xs) => m - xs.length | _ => 0) ⟨1, Nat.le_refl _, hC.one, rfl, s0, upd_same⟩ ?_ ?_
    · rintro σ H2 ⟨i, h1, h2, rfl, s2, hc⟩
      have hmem : itr (lowR R) (i - 1) x ∈ nmsOf R := hC.mem _ (by omega)
      refine ⟨_, rfl, _, rfl, 1, rfl, c, _, _, _, rfl, rfl, .inl (.inl hc), last_of h1, d, _, rfl, dget_rn (same_rd s2 hd) hmem, rfl, _, rfl, ?_⟩
      have enext : lowR R (itr (lowR R) (i - 1) x) = itr (lowR R) i x := by
        have e : i = i - 1 + 1 := by omega
        exact (congrArg (fun j => itr (lowR R) j x) e).symm
      have hl0 : (((List.range i).map fun j => itr (lowR R) j x).map V.str).length = i := by
        rw [List.length_map, List.length_map, List.length_range]
      have hn0 : (belowK R).length = R.length := by
        rw [kmap_len, List.length_map]
      have hmost := hC.most
      have hRm := hG.most
      refine ite2 (fun h => ?_) (fun h => ?_)
      · have him : i < m := by
          rcases Nat.lt_or_ge i m with z | z
          · exact z
          · have e : i = m := by omega
            have e2 : V.str (lowR R (itr (lowR R) (i - 1) x)) = V.str "sea" := by rw [enext, e, hC.sea]
            rw [decide_eq_true e2] at h
            cases h
        refine ⟨_, rfl, c, _, rfl, .inl (.inl (.inl hc)), _, rfl, d, _, rfl, same_rd s2 hd, _, _, rfl, rfl, _, rfl, ?_⟩
        refine iteD (by omega) ?_
        refine ⟨_, rfl, .inl ⟨rfl, _, .inl (.inl hc)⟩, _, rfl, _, rfl, 1, rfl, c, _, _, _, rfl, rfl, .inl (.inl hc), last_of h1, d, _, rfl, dget_rn (same_rd s2 hd) hmem, ?_⟩
        refine ⟨c, _, _, rfl, rfl, hc, by rw [hl0]; exact small1000 (by omega), ?_⟩
        have ecat : (((List.range i).map fun j => itr (lowR R) j x).map V.str) ++ [V.str (lowR R (itr (lowR R) (i - 1) x))] = ((List.range (i + 1)).map fun j => itr (lowR R) j x).map V.str := by
          rw [List.range_succ, List.map_append, List.map_append, enext]
          rfl
        rw [ecat]
        refine ⟨⟨i + 1, by omega, by omega, rfl, fun b o hb => ?_, upd_same⟩, ?_⟩
        · rw [upd_ne (ne_of_none hb nc)]
          exact s2 b o hb
        · show (match upd H2 c (.lst (((List.range (i + 1)).map fun j => itr (lowR R) j x).map V.str)) c with | some (.lst xs) => m - xs.length | _ => 0) < (match H2 c with | some (.lst xs) => m - xs.length | _ => 0)
          rw [upd_same, hc]
          show m - (((List.range (i + 1)).map fun j => itr (lowR R) j x).map V.str).length < m - (((List.range i).map fun j => itr (lowR R) j x).map V.str).length
          rw [hl0, List.length_map, List.length_map, List.length_range]
          omega
      · have him : i = m := by
          rcases Nat.lt_or_ge i m with z | z
          · exfalso
            have hne := hG.nm.sea _ (hC.mem i z)
            refine h ?_
            rw [enext, decide_eq_false (fun q => hne (V.str.inj q))]
            rfl
          · omega
        subst him
        refine ⟨_, rfl, c, _, rfl, .inl (.inl hc), fun t ot nt pt => ?_⟩
        rw [← hC.eq]
        exact k _ t (s2.trans (same_upd nt)) (s2.free nt) ⟨ot, pt, upd_same⟩
    · intro σ H2 Q1 Q2 hQ h
      obtain ⟨v1, e1, v2, e2, i, e3, p, xs, j, v, e4, e5, h6, h7, a, u, e8, g, hs, b, e9, h⟩ := h
      refine ⟨v1, e1, v2, e2, i, e3, p, xs, j, v, e4, e5, h6, h7, a, u, e8, g, hs, b, e9, ?_⟩
      cases b with
      | false => exact hQ _ _ h
      | true =>
        obtain ⟨w1, f1, q, ys, f2, f3, w2, f4, q2, kv, f5, f6, n1, n2, f7, f8, b2, f9, h⟩ := h
        exact ⟨w1, f1, q, ys, f2, f3, w2, f4, q2, kv, f5, f6, n1, n2, f7, f8, b2, f9, hQ _ _ h⟩
end
end K0
end
section
set_option Elab.async false
set_option linter.all false
set_option maxRecDepth 100000
namespace L2
open PySem PySem.Spec PyProof.Rows
/-! ### enumerate of a dict -/
section
variable {prog : Program} {w : World} {A : Around} {E : Value → Shared → Prop} {s : Shared}
theorem k0_key_item {it d : Addr} {i n ep : Nat} {od : Obj} {es : Array DictEntry} {en : DictEntry} {Q : Value → Shared → Prop} (hit : s.heap.IsKeyIter it d i n ep) (hod : s.heap.get? d = some od) (hdd : od.data = .dict es ep)
    (hsz : es.size = n) (hx : es[i]? = some en) (hQ : ∀ h', h'.IsKeyIter it d (i + 1) n ep → Heap.SameBut it s.heap h' → Q en.key { s with heap := h' }) : wpAny (model prog w) A (Builtin.SmallTypes.nextOf (.ref it)) Q E s := by
  obtain ⟨o, ho, hc, hd⟩ := id hit
  unfold Builtin.SmallTypes.nextOf
  refine wpAny_bind (wpAny_callSpecial?_slot (name := Str.ofString "__next__") hit.typeIs F.slot_dict_keyiterator_next
    (wpAny_call_entry F.slot_dict_keyiterator_next hit.typeIs F.entry_dict_keyiterator_next ?_ (F.args_dict_keyiterator_next_1 _)))
  refine wpAny_bind (wpAny_pure ?_)
  refine wpAny_bind ?_
  refine wpAny_bind ?_
  first | refine wpAny_bind (wpAny_typeNameOfWhole_keyiter hit.typeIs (wpAny_pure ?_)) | refine wpAny_bind (wpAny_typeNameOf_keyiter hit.typeIs (wpAny_pure ?_))
  refine wpAny_bind (wpAny_fieldsOf ho hd ?_)
  have hown : Builtin.Dict_items.ownsTuple "dict_keyiterator" = false := by decide
  simp only [hown, Bool.false_eq_true, if_false]
  show wpAny _ _ (if (Value.ref d == Value.none) = true then _ else _) _ _ s
  rw [if_neg (show ¬ ((Value.ref d == Value.none) = true) from Bool.false_ne_true)]
  refine wpAny_bind (wpAny_pure ?_)
  refine wpAny_bind (wpAny_dictEntries hod hdd ?_)
  rw [if_neg (by rw [hsz]; simp)]
  refine wpAny_bind (wpAny_pure ?_)
  refine wpAny_bind (wpAny_dictEpoch hod hdd ?_)
  rw [if_neg (by simp)]
  refine wpAny_pure ?_
  obtain ⟨hlt', hen⟩ := Array.getElem?_eq_some_iff.mp hx
  simp only [show ¬ ((i : Int) < 0) from by omega, if_false, Int.toNat_natCast, Array.getElem?_eq_getElem hlt']
  refine wpAny_bind ?_
  first | refine wpAny_bind (wpAny_typeNameOfWhole_keyiter hit.typeIs (wpAny_pure ?_)) | refine wpAny_bind (wpAny_typeNameOf_keyiter hit.typeIs (wpAny_pure ?_))
  refine wpAny_bind (wpAny_isOneOf_keyiter hit.typeIs ?_)
  show wpAny _ _ (setField (.ref it) 1 (rawInt ((i : Int) + 1)) >>= _) _ _ s
  refine wpAny_bind (wpAny_setField ho hd (by simp) ?_)
  have hit' : (s.heap.update it (Obj.mapFields (·.setIfInBounds 1 (rawInt ((i : Int) + 1))))).IsKeyIter it d (i + 1) n ep :=
    ⟨_, Heap.get?_update_self _ ho (Obj.isFreed_of_fields (Obj.data_mapFields hd _)), (Obj.cls_mapFields ..).trans hc, by rw [Obj.data_mapFields hd]; simp [rawInt]⟩
  refine wpAny_bind (wpAny_holding ?_)
  refine wpAny_bind (wpAny_isOneOf_keyiter (s := { s with heap := s.heap.update it (Obj.mapFields (·.setIfInBounds 1 (rawInt ((i : Int) + 1)))) }) hit'.typeIs ?_)
  show wpAny _ _ (pure es[i].key) _ _ _
  rw [hen]
  exact wpAny_pure (wpAny_pure ⟨_, rfl, wpAny_pure (hQ _ hit' (Heap.SameBut.update ..))⟩)
theorem k0_key_end {it d : Addr} {i n ep : Nat} {od : Obj} {es : Array DictEntry} {Q : Value → Shared → Prop} (hh : A.handled = none) (hit : s.heap.IsKeyIter it d i n ep) (hod : s.heap.get? d = some od) (hdd : od.data = .dict es ep)
    (hsz : es.size = n) (hge : n ≤ i) (hE : ∀ h' e, Heap.ExtBut it s.heap h' → (∃ o, h'.get? e = some o ∧ o.cls = .type "StopIteration") → E (.ref e) { s with heap := h' }) : wpAny (model prog w) A (Builtin.SmallTypes.nextOf (.ref it)) Q E s := by
  obtain ⟨o, ho, hc, hd⟩ := id hit
  unfold Builtin.SmallTypes.nextOf
  refine wpAny_bind (wpAny_callSpecial?_slot (name := Str.ofString "__next__") hit.typeIs F.slot_dict_keyiterator_next
    (wpAny_call_entry F.slot_dict_keyiterator_next hit.typeIs F.entry_dict_keyiterator_next ?_ (F.args_dict_keyiterator_next_1 _)))
  refine wpAny_bind (wpAny_pure ?_)
  refine wpAny_bind ?_
  refine wpAny_bind ?_
  first | refine wpAny_bind (wpAny_typeNameOfWhole_keyiter hit.typeIs (wpAny_pure ?_)) | refine wpAny_bind (wpAny_typeNameOf_keyiter hit.typeIs (wpAny_pure ?_))
  refine wpAny_bind (wpAny_fieldsOf ho hd ?_)
  have hown : Builtin.Dict_items.ownsTuple "dict_keyiterator" = false := by decide
  simp only [hown, Bool.false_eq_true, if_false]
  show wpAny _ _ (if (Value.ref d == Value.none) = true then _ else _) _ _ s
  rw [if_neg (show ¬ ((Value.ref d == Value.none) = true) from Bool.false_ne_true)]
  refine wpAny_bind (wpAny_pure ?_)
  refine wpAny_bind (wpAny_dictEntries hod hdd ?_)
  rw [if_neg (by rw [hsz]; simp)]
  refine wpAny_bind (wpAny_pure ?_)
  refine wpAny_bind (wpAny_dictEpoch hod hdd ?_)
  rw [if_neg (by simp)]
  refine wpAny_pure ?_
  have hge' : es.size ≤ i := by rw [hsz]; exact hge
  simp only [show ¬ ((i : Int) < 0) from by omega, if_false, Int.toNat_natCast, Array.getElem?_eq_none hge']
  refine wpAny_bind ?_
  first | refine wpAny_bind (wpAny_typeNameOfWhole_keyiter hit.typeIs (wpAny_pure ?_)) | refine wpAny_bind (wpAny_typeNameOf_keyiter hit.typeIs (wpAny_pure ?_))
  show wpAny _ _ (setField (.ref it) 0 .none >>= _) _ _ s
  refine wpAny_bind (wpAny_setField ho hd (by simp) ?_)
  show wpAny _ _ (newExc (.type "StopIteration") [] >>= _) _ _ _
  refine wpAny_bind ?_
  simp only [newExc, newTuple]
  refine wpAny_bind (wpAny_newObj_type ?_ (by size_fits))
  refine wpAny_bind (m := firstArgMember _ _) (wpAny_of_eq (a := Value.none) (by first | rfl | (simp only [firstArgMember]; rfl)) ?_)
  refine wpAny_newObj_type ?_ (by size_fits)
  simp only [raiseNew]
  refine wpAny_bind (wpAny_handled ?_)
  first | rw [show A.in1.handled = none from hh] | rw [hh]
  refine wpAny_bind (wpAny_pure (wpAny_throw ?_))
  exact hE _ _ (((Heap.SameBut.update ..).extBut.push _).push _) ⟨_, Heap.get?_push_size _ rfl, rfl⟩
end
theorem k0_draws {prog : Program} {w : World} {A : Around} (hh : A.handled = none) (it d : Addr) (hne : d ≠ it) (od : Obj) (es : Array DictEntry) (ep : Nat) (hdd : od.data = .dict es ep) :
    Draws prog w A it [it, d] es.size (fun i v => ∃ en, es[i]? = some en ∧ v = en.key) (fun i h => h.IsKeyIter it d i es.size ep ∧ h.get? d = some od) where
  live := fun _ _ st => let ⟨o, ho, _⟩ := st.1; ⟨o, ho⟩
  frame := fun _ _ _ st hk => ⟨st.1.at fun o e => hk it (by simp) o e, hk d (by simp) _ st.2⟩
  item := fun i s Q E hi st hQ => by
    refine k0_key_item st.1 st.2 hdd rfl (en := es[i]) (by simp [hi]) fun h' hit' hs' => ?_
    exact hQ _ h' s.toks ⟨_, by simp [hi], rfl⟩ ⟨hit', (hs'.2 d hne).trans st.2⟩ hs'
  done := fun s Q E st hE => k0_key_end hh st.1 st.2 hdd rfl (Nat.le_refl _) hE
theorem k0_begins {d : Addr} {o : Obj} {es : Array DictEntry} {ep : Nat} (hd : (d == sysModules) = false) (hc : o.ExactDict) (hdat : o.data = .dict es ep) :
    PySem.Begins (.ref d) { cls := .type "dict_keyiterator", data := .fields #[.ref d, .int 0 0, .int es.size 0, .int ep 0] } fun h => h.get? d = some o where
  iter := fun prog w A E s Q ho h => iter_keys hd ho hc hdat h
  keeps := fun h h' x hk => hk d _ x
  free := rfl
set_option maxHeartbeats 1000000 in
theorem k0_meets {v : Value} {o : Obj} {H : Heap → Prop} (B : PySem.Begins v o H) :
    Meets (Builtin.«enumerate.__new__» ⟨[.type "enumerate", v], []⟩) (fun _ R s => H s.heap ∧
      R (.ok (.ret (.ref (s.heap.push o).objs.size))) { s with heap := (s.heap.push o).push { cls := .type "enumerate", data := .fields #[.none, .bool false, .ref s.heap.objs.size, rawInt 0, .none, .none] } }) :=
  .of_wp fun prog w A R s h => by
    obtain ⟨hp, g, d, tk, os⟩ := s; obtain ⟨h1, h⟩ := h
    have hsub := sub_enumerate
    have q1 : ∀ {A' : Around} {E : Value → Shared → Prop} {Q : Value → Shared → Prop}, Q (.ref hp.objs.size) ⟨hp.push o, g, d, tk, os⟩ → wpAny (model prog w) A' (pyIter v) Q E ⟨hp, g, d, tk, os⟩ :=
      fun q => B.iter prog w _ _ ⟨hp, g, d, tk, os⟩ _ h1 q
    wp_walk using q1
    refine wpAny_stack_any fun st => wpAny_pure ?_
    split
    · rename_i c _ _ _ _ _
      cases (c == Value.type "enumerate")
      · wp_walk using q1
        exact ⟨_, rfl, h⟩
      · wp_walk using q1
        exact ⟨_, rfl, h⟩
    · wp_walk using q1
      exact ⟨_, rfl, h⟩
section
variable {prog : Program} {w : World} {A : Around} {E : Value → Shared → Prop} {s : Shared}
theorem k0_enum_call {v : Value} {o : Obj} {H : Heap → Prop} {Q : Value → Shared → Prop} (B : PySem.Begins v o H) (h1 : H s.heap)
    (h : ∀ h', IsEnum h' (s.heap.objs.size + 1) s.heap.objs.size 0 .none → h'.get? s.heap.objs.size = some o → h'.objs.size = s.heap.objs.size + 2 →
      (∀ b o, s.heap.get? b = some o → h'.get? b = some o) → Q (.ref (s.heap.objs.size + 1)) { s with heap := h' }) :
    wpAny (model prog w) A (call (.type "enumerate") [v]) Q E s := by
  refine callType_new F.called_enumerate (by decide) (F.typeCall_enumerate_1 _) (F.newCall_enumerate_1 _) (fun obj => F.args_object_init_2 obj _) F.entry_enumerate_new
    (k0_meets B) ⟨h1, ?_⟩
  have hz : (s.heap.push o).objs.size = s.heap.objs.size + 1 := Heap.size_push ..
  show _ ∧ _
  rw [hz]
  have he : IsEnum ((s.heap.push o).push { cls := .type "enumerate", data := .fields #[.none, .bool false, .ref s.heap.objs.size, rawInt 0, .none, .none] }) (s.heap.objs.size + 1) s.heap.objs.size 0 .none := by
    have := Heap.get?_push_size (s.heap.push o) (o := { cls := .type "enumerate", data := .fields #[.none, .bool false, .ref s.heap.objs.size, rawInt 0, .none, .none] }) rfl
    rw [hz] at this; exact this
  refine ⟨⟨_, he, rfl⟩, h _ he (Heap.get?_push_of_some _ (Heap.get?_push_size _ B.free)) (by rw [Heap.size_push, hz]) fun b o x => Heap.get?_push_of_some _ (Heap.get?_push_of_some _ x)⟩
end
/-- the keys of the locked dict at d, each with its number in a new pair -/
def ItEd (d : Addr) (o : Obj) (kvs : List (Key × V)) : It :=
  ⟨fun i H => H d = some (.frz o (.dK kvs)) ∧ i < kvs.length, fun i H v H' => ∃ T k u, v = .ref T ∧ H T = none ∧ H' = upd H T (.tup [.int (i : Nat), kV k]) ∧ kvs[i]? = some (k, u), fun i H => H d = some (.frz o (.dK kvs)) ∧ kvs.length ≤ i⟩
theorem turn_enumD {P : Program} {w : World} {K : PySem.W.Frag} {elts : List Expr} {kk : Nat} {tpos : Pos} {d : Addr} {o : Obj} {es : Array DictEntry} {ep : Nat} {kvs : List (Key × V)} (e it : Addr) (hod : o.data = .dict es ep) (hsz0 : es.size = kvs.length) :
    Turn P w K (.Tuple elts kk tpos) (ItEd d o kvs) [e, it] e (fun i h => (∃ old, IsEnum h e it ((i : Nat) : Int) old) ∧ h.IsKeyIter it d i es.size ep ∧ e ≠ it) where
  mem := by simp
  obj := fun i h st b hb => by
    obtain ⟨⟨old, he⟩, ⟨o', ho, hc, hd⟩, _⟩ := st
    have e' : b = e ∨ b = it := by simpa using hb
    rcases e' with z | z
    · rw [z]; exact ⟨_, he, fun v q => nomatch q⟩
    · rw [z]; exact ⟨o', ho, fun v q => by rw [hd] at q; cases q⟩
  keep := fun i h h' st k => let ⟨⟨old, he⟩, hi, hne⟩ := st; ⟨⟨old, k e (by simp) _ he⟩, hi.at fun o q => k it (by simp) o q, hne⟩
  item := by
    intro X hP hw hK hc i pins s σ H E I hf st hg
    subst hP hw hK
    obtain ⟨⟨old, he⟩, hit, hne⟩ := st
    obtain ⟨hd, hi⟩ := hg
    obtain ⟨hs, hgd, hx, es', ep', vs, hdt, hsz, kv, hm⟩ := I.frzK hd
    obtain ⟨rfl, rfl⟩ := dict_ep hod hdt
    have hel : e < s.heap.objs.size := Heap.lt_size he
    have hil : it < s.heap.objs.size := by obtain ⟨_, q, _⟩ := hit; exact Heap.lt_size q
    have hed : e ≠ d := fun z => by
      have q := he
      unfold IsEnum at q
      rw [z, hgd] at q
      rw [Option.some.inj q] at hod
      cases hod
    have hid : it ≠ d := fun z => by
      obtain ⟨o', q, _, hdd⟩ := id hit
      rw [z, hgd] at q
      rw [← Option.some.inj q, hod] at hdd
      cases hdd
    refine wpAny_pyNext_enum_itemD (k0_draws (A := X.A.in1) (show X.A.in1.handled = none from I.ok.hd hc) it d (Ne.symm hid) o es' ep' hod) he ⟨hit, hgd⟩ (by omega) hne (by simp [hne, hed]) fun x h' tk hP ho hit' hT hsz' hk => ?_
    obtain ⟨en, hen, rfl⟩ := hP
    obtain ⟨⟨k, v⟩, hkv⟩ : ∃ p, kvs[i]? = some p := ⟨kvs[i], List.getElem?_eq_getElem hi⟩
    have rk : RelV (kV k) en.key := by
      obtain ⟨u, hu, ru⟩ := kv_get kv hkv
      obtain ⟨od, es2, hod2, hcd, hdd, hkk, hp, hn⟩ := id hm
      rw [hgd] at hod2
      cases hod2
      obtain ⟨rfl, _⟩ := dict_ep hod hdd
      exact relV_key (hp.get? (by rw [Array.getElem?_toList]; exact hen) hu).1
    refine ⟨_, rfl, wpAny_letOwnedTupleGo_enum (s := { s with heap := h', toks := tk + 1 }) ho fun h'' he' sb => ?_⟩
    have hT2 : h''.get? s.heap.objs.size = some { cls := .type "tuple", data := .seq #[.int i tk, en.key] } := (sb.2 _ (Nat.ne_of_gt hel)).trans hT
    have new : ObjOk X.prog X.w (upd H s.heap.objs.size (.tup [.int (i : Nat), kV k])) h'' s.heap.objs.size (.tup [.int (i : Nat), kV k]) :=
      ⟨by show 2 ≤ sizeLine; decide, [.int i tk, en.key], .cons ⟨_, rfl⟩ (.cons rk .nil), ⟨_, hT2, rfl, _, rfl⟩⟩
    have I1 : Inv X pins σ (upd H s.heap.objs.size (.tup [.int (i : Nat), kV k])) { s with heap := h'', toks := tk + 1 } :=
      I.turnedNew (ch := [e, it]) (fun b ob hb q => (sb.2 b (fun z => hb (by simp [z]))).trans (hk b ob (fun z => hb (by simp [z])) (fun z => hb (by simp [z])) q)) hf (Nat.le_refl _) new
    refine ⟨.ref s.heap.objs.size, _, I1, rfl, ⟨_, k, v, rfl, I.hok.fresh (Nat.le_refl _), rfl, hkv⟩, ⟨⟨en.key, ?_⟩, hit'.1.at fun o q => (sb.2 it (Ne.symm hne)).trans q, hne⟩, fun b hb => ?_⟩
    · have e1 : ((i + 1 : Nat) : Int) = (i : Int) + 1 := by omega
      rw [e1]; exact he'
    · have hb' : b < s.heap.objs.size := by
        have e' : b = e ∨ b = it := by simpa using hb
        rcases e' with z | z
        · rw [z]; exact hel
        · rw [z]; exact hil
      rw [upd_ne (Nat.ne_of_lt hb')]
      exact (hf b hb).1
  done := by
    intro X hP hw hK hc i pins s σ H E I hf st hg
    subst hP hw hK
    obtain ⟨⟨old, he⟩, hit, hne⟩ := st
    obtain ⟨hd, hi⟩ := hg
    obtain ⟨hs, hgd, hx, es', ep', vs, hdt, hsz, kv, hm⟩ := I.frzK hd
    obtain ⟨rfl, rfl⟩ := dict_ep hod hdt
    obtain ⟨f0, f1, f2, f3, f4, f5⟩ := hf it (by simp)
    have hT : s.TypeIs (.ref e) "enumerate" := ⟨_, he, rfl⟩
    unfold pyNext
    refine wpAny_bind (wpAny_attempt (wpAny_callSpecial?_slot (name := Str.ofString "__next__") hT F.slot_enumerate_next
      (wpAny_call_entry F.slot_enumerate_next hT F.entry_enumerate_next ?_ (F.args_enumerate_next_1 _))))
    show wpAny _ _ (field (.ref e) 2 >>= _) _ _ _
    refine wpAny_bind (wpAny_field he rfl (x := .ref it) rfl ?_)
    refine wpAny_bind (k0_key_end (I.ok.hd hc) hit hgd hod rfl (by omega) fun h' x he' hx' => ?_)
    obtain ⟨o', ho, hc'⟩ := hx'
    refine wpAny_bind (wpAny_isInstance (T := "StopIteration") (b := true) ⟨o', ho, hc'⟩ isSubtype_stop ?_)
    exact wpAny_pure ⟨rfl, I.turned (t' := s.toks) (fun b ob hb q => he' b ob hb q) f0 f1 f3 f4 f5⟩
  self := fun A i s Q E st h => let ⟨⟨_, he⟩, _⟩ := st; wpAny_pyIter_enum he h
def iEnumD (ta : TA) : TI := fun σ H R => ta σ H fun vs H1 => ∃ d o kvs, vs = [.ref d] ∧ H1 d = some (.frz o (.dK kvs)) ∧ R (ItEd d o kvs) H1
theorem pi_enumD {X : Cx} {e : Expr} {ta : TA} {p pos tpos : Pos} {elts : List Expr} {kk : Nat} (hg : Gl X "enumerate") (hm : X.mg "enumerate" = none) (ha : PA X [e] ta) (hs : starEach [e] X.env = [(false, eval e X.env)] := by rfl) :
    PI X (.Tuple elts kk tpos) (.Call (.Name "enumerate" p) [e] [] pos) (iEnumD ta) := by
  refine ⟨fun pins s σ H R I h => ?_⟩
  refine Call_ (ld_blt I hg hm boot_enumerate (PyProof.Rows.callWith_type1 (thn (ha.run pos pins s σ H _ I h) fun us s1 ⟨vs, H1, I1, r1, q1⟩ => ?_) hs rfl))
  obtain ⟨d, o, kvs, ex, hd, q⟩ := q1
  subst ex
  cases r1 with
  | cons r rr =>
    cases rr
    cases r
    obtain ⟨hss, hgd, hx, es, ep, vs, hdt, hsz, kv, hm2⟩ := I1.frzK hd
    refine k0_enum_call (k0_begins hss hx hdt) hgd fun h' he hit hsz' hk => wpAny_pyIter_enum he ?_
    have I2 : Inv X pins σ H1 { s1 with heap := h' } := I1.kept (t' := s1.toks) hk
    refine ⟨s1.heap.objs.size + 1, [s1.heap.objs.size + 1, s1.heap.objs.size], _, _, H1, rfl, I2, turn_enumD (s1.heap.objs.size + 1) s1.heap.objs.size hdt hsz, ⟨⟨.none, he⟩, ⟨_, hit, rfl, rfl⟩, Nat.succ_ne_self _⟩, fun b hb => ?_, q⟩
    have e' : b = s1.heap.objs.size + 1 ∨ b = s1.heap.objs.size := by simpa using hb
    have hle : s1.heap.objs.size ≤ b := by
      rcases e' with z | z
      · rw [z]; exact Nat.le_add_right _ _
      · rw [z]; exact Nat.le_refl _
    exact I1.fpOk hle (I1.hok.fresh hle)
theorem walk_enumD {d : Addr} {o : Obj} {kvs : List (Key × V)} : Walk (ItEd d o kvs) kvs.length (fun H => H d = some (.frz o (.dK kvs))) (YPair (fun i => some (.int (i : Nat))) (fun i => kvs[i]?.map fun kv => kV kv.1)) := by
  refine ⟨fun _ _ hi q => ⟨q, hi⟩, fun _ q => ⟨q, Nat.le_refl _⟩, fun i H x H' _ _ y => ?_⟩
  obtain ⟨T, k, v, h2, h3, h4, h1⟩ := y
  exact ⟨T, .int (i : Nat), kV k, h2, h3, h4, rfl, by simp [h1]⟩
/-- a dict comprehension over a walk -/
theorem dc_it {J : It} {n : Nat} {G : Hp → Prop} {Y : Nat → Hp → V → Hp → Prop} (w : Walk J n G Y) {g : TG} {tt : TT} {tk tv : TE} {vs : List Nat} {σ : St} {H1 : Hp} {D : Addr} {Qd : Hp → Prop} (Pv : Nat → Hp → Prop) (h0 : Pv 0 (upd H1 D (.dK []))) (hG : ∀ i H, i ≤ n → Pv i H → G H)
    (hs : ∀ i x H H', i < n → Pv i H → Y i H x H' → g x (wipe σ vs) H' fun σ2 H2 => wipe σ2 vs = wipe σ vs ∧ tt σ2 H2 fun b H3 =>
      if b = true then tk σ2 H3 fun y H4 => tv σ2 H4 fun z H5 => ∃ kvs k, y = kV k ∧ H5 D = some (.dK kvs) ∧ kvs.length < sizeLine ∧ Pv (i + 1) (upd H5 D (.dK (putK kvs k z))) else Pv (i + 1) H3) (hd : ∀ H, Pv n H → Qd H) :
    ∃ W : Nat → Nat → Hp → Prop, (∃ m, W 0 m (upd H1 D (.dK []))) ∧ ∀ i m H, W i m H →
      (J.stop i H ∧ Qd H) ∨ (J.go i H ∧ ∃ Nx : Hp → Prop, (∀ H', Nx H' → ∃ m', m' < m ∧ W (i + 1) m' H') ∧ ∀ x H', J.yld i H x H' → g x (wipe σ vs) H' fun σ2 H2 => wipe σ2 vs = wipe σ vs ∧ tt σ2 H2 fun b H3 =>
        if b = true then tk σ2 H3 fun y H4 => tv σ2 H4 fun z H5 => ∃ kvs k, y = kV k ∧ H5 D = some (.dK kvs) ∧ kvs.length < sizeLine ∧ Nx (upd H5 D (.dK (putK kvs k z))) else Nx H3) := by
  refine ⟨fun i m H => m = n - i ∧ i ≤ n ∧ Pv i H, ⟨n, by simp, Nat.zero_le _, h0⟩, ?_⟩
  rintro i m H ⟨rfl, hi, p⟩
  have q := hG i H hi p
  by_cases hlt : i < n
  · refine .inr ⟨w.goes i H hlt q, Pv (i + 1), fun H' p' => ⟨n - (i + 1), by omega, rfl, hlt, p'⟩, fun x H' y => hs i x H H' hlt p (w.yields i H x H' hlt q y)⟩
  · have e : i = n := by omega
    subst e
    exact .inl ⟨w.stops H q, hd H p⟩
end L2
end
section
set_option Elab.async false
set_option linter.all false
set_option maxRecDepth 100000
namespace K0
open PySem PySem.Spec PyProof.Rows L2
theorem same_unlock {H H' : Hp} {d : Addr} {u z : HO} (h : H d = some u) (s : Same (upd H d z) H') : Same H (upd H' d u) := fun b o hb => by
  by_cases e : b = d
  · rw [e] at hb ⊢
    rw [upd_same, ← hb, h]
  · rw [upd_ne e]
    exact s b o (by rw [upd_ne e]; exact hb)
theorem kmap_congr {f g : Str → V} : ∀ {ns : List Str}, (∀ x ∈ ns, f x = g x) → kmap f ns = kmap g ns
  | [], _ => rfl
  | n :: r, h => by
    unfold kmap
    rw [List.map_cons, List.map_cons, h n List.mem_cons_self]
    exact congrArg _ (kmap_congr fun x hx => h x (List.mem_cons_of_mem _ hx))
/-- a dict from each of these names to a tuple of its own of texts -/
structure TupsAt (H : Hp) (c : Addr) (ns : List Str) (g : Str → List Str) : Prop where
  ex : ∃ ta : Str → Addr, H c = some (.dK (kmap (fun x => .ref (ta x)) ns)) ∧ ∀ x ∈ ns, FT H (ta x) (g x)
theorem TupsAt.same {H H' : Hp} {c : Addr} {ns : List Str} {g : Str → List Str} (t : TupsAt H c ns g) (s : Same H H') : TupsAt H' c ns g := by
  obtain ⟨ta, h1, h2⟩ := t.ex
  exact ⟨ta, s _ _ h1, fun x hx => (h2 x hx).same s⟩
/-- one more -/
theorem tups_more {H : Hp} {D t : Addr} {ns : List Str} {g : Str → List Str} {x : Str} {ta : Str → Addr} (h1 : H D = some (.dK (kmap (fun y => .ref (ta y)) ns))) (h2 : ∀ y ∈ ns, FT H (ta y) (g y))
    (hx : x ∉ ns) (ht : FT H t (g x)) : TupsAt (upd H D (.dK (putK (kmap (fun y => .ref (ta y)) ns) (Sum.inr x) (.ref t)))) D (ns ++ [x]) g := by
  have htD : t ≠ D := ht.ne h1 (fun _ _ z => by cases z)
  refine ⟨fun y => if y = x then t else ta y, ?_, fun y hy => ?_⟩
  · rw [upd_same]
    have e1 : kmap (fun y => .ref (ta y)) ns = kmap (fun y => V.ref (if y = x then t else ta y)) ns := kmap_congr fun y hy => by
      rw [if_neg (fun e => hx (by rw [← e]; exact hy))]
    rw [e1]
    have := kmap_put (f := fun y => V.ref (if y = x then t else ta y)) hx
    rw [if_pos rfl] at this
    rw [this]
  · show FT (upd H D (.dK (putK (kmap (fun y => .ref (ta y)) ns) (Sum.inr x) (.ref t)))) (if y = x then t else ta y) (g y)
    rcases List.mem_append.mp hy with h | h
    · rw [if_neg (fun e => hx (by rw [← e]; exact h))]
      exact (h2 y h).upd ((h2 y h).ne h1 (fun _ _ z => by cases z))
    · rw [List.mem_singleton.mp h, if_pos rfl]
      exact ht.upd htD
theorem nodup_take {ns : List Str} (hd : ns.Nodup) {i : Nat} {x : Str} (h : ns[i]? = some x) : x ∉ ns.take i := by
  intro hm2
  obtain ⟨j, hj⟩ := List.getElem?_of_mem hm2
  have hji : j < i := by
    have := (List.getElem?_eq_some_iff.mp hj).1
    rw [List.length_take] at this
    omega
  rw [List.getElem?_take_of_lt hji] at hj
  have := nd_ix hd hj h
  omega
theorem kmap_get {f : Str → V} {ns : List Str} {i : Nat} {k : Key} {v : V} (h : (kmap f ns)[i]? = some (k, v)) : ∃ x, ns[i]? = some x ∧ k = Sum.inr x ∧ v = f x := by
  unfold kmap at h
  rw [List.getElem?_map] at h
  cases e : ns[i]? with
  | none => rw [e] at h; cases h
  | some x =>
    rw [e] at h
    injection h with h
    injection h with h1 h2
    exact ⟨x, rfl, h1.symm, h2.symm⟩
abbrev scFind_N : List Str := ["below", "weir", "courses", "place"]
abbrev scFind_S : Stmt := sFind
theorem scFind : FnScope scFind_N ["below"] (defScope sFind) := ⟨rfl, rfl, rfl, by decide +kernel, rfl, by decide +kernel, by decide +kernel⟩
def spFind (K : PySem.W.Frag) : Sp := fun vs H Q _ => ∃ (d : Addr) (R : List Row), vs = [.ref d] ∧ H d = some (.dK (belowK R)) ∧ GoodRows R ∧
  ∀ (H' : Hp) (c : Addr), Same H H' → H c = none → TupsAt H' c (nmsOf R) (course R) → Q (.ref c) H'
section
variable {P : Program} {w : World} {K : PySem.W.Frag} {mg : Str → Option Value} {base : Heap} {tS tM tL : Tok}
theorem ok_find {f fC : Addr} {fd fdC : FuncData} (F : FnP K "_find_courses" sFind f fd) (F_course : FnP K "_course" sCourse fC fdC) (g_course : mg "_course" = some (.ref fC)) (B : Bl mg) (C : Gc mg tS tM tL) : FnOk P w K mg base CX0 2 f fd ["below"] (spFind K) := by
  have G_course : FnOk P w K mg base CX0 1 fC fdC ["below", "weir"] (spCourse K) := ok_course F_course B C
  have b_course : Binds K fdC ["below", "weir"] [] := F_course.bindsN fun _ _ _ _ _ _ us hl => match us, hl with | [_, _], _ => rfl
  refine F.ok scFind (fun vs H Q E h => ?_) (fun cdv A outer s H vs Q E hr h => ?_)
  · obtain ⟨d, R, rfl, _⟩ := h
    rfl
  · obtain ⟨d, R, rfl, hd, hG, k⟩ := h
    have hu := hu_of hr
    have hr_course : Room 1 _ := hr.mono (by decide)
    refine ⟨_, PSs.nox (pss_cons
      (ps_lock (k0_setDc (i := 2) (own := [("weir", 1)]) (g := gName 1) (tt := tYes) (by rfl) scFind.nd rfl rfl (k0_sw rfl rfl rfl (by decide +kernel)) (pi_keys (pv 0)) (blkOk_by (own := [("weir", 1)]) (N := scFind_N) (sc := defScope scFind_S) (by decide +kernel)) (fun _ _ _ _ _ => (pg_name (i := 1) scFind.nd rfl (Or.inl rfl))) (fun _ _ _ _ _ => pts_nil) (fun _ _ _ _ _ => (pv 1)) (fun _ _ _ _ _ => (pe_call G_course hr_course (by rfl) g_course F_course.kp b_course .nil pass0 (pa_cons (pv 0) (pa_cons (pv 1) pa_nil))))))
      (pss_cons
      (ps_lock (ps_for PassesOwn.never rfl (pi_enumD (by rfl) B.enumerate (pa_cons (pv 2) pa_nil)) (pg_tup (by rfl) (pgs_cons (pg_name (i := 3) scFind.nd rfl (Or.inl rfl)) (pgs_cons (pg_name (i := 1) scFind.nd rfl (Or.inl rfl)) pgs_nil))) (pss_one (ps_if (pt_cmpR op_gt (pe_callB (lenK (K := K)) (by rfl) B.len PySem.boot_len (pa_cons (pe_dget hu (pv 2) (pv 1) (fun _ _ => rfl)) pa_nil)) (pe_callB k0_lenD (by rfl) B.len PySem.boot_len (pa_cons (pv 0) pa_nil)) (nomark _)) (pss_one ps_never) pss_nil))))
      (pss_one
      (ps_ret (pv 2))))), ?_⟩
    have hnd := hG.nm.nd
    have hRm := hG.most
    have hnl : (nmsOf R).length = R.length := List.length_map _
    refine ⟨d, _, hd, trivial, fun od => ?_⟩
    refine ⟨_, rfl, d, od, rfl, .inl ⟨_, upd_same, fun D hD => ?_⟩⟩
    have s0 : Same (upd H d (.frz od (.dK (belowK R)))) (upd (upd H d (.frz od (.dK (belowK R)))) D (.dK [])) := same_upd hD
    have ndD : d ≠ D := ne_of_none upd_same hD
    have hfz : ∀ H2, Same (upd H d (.frz od (.dK (belowK R)))) H2 → H2 d = some (.frz od (.dK (belowK R))) := fun H2 s => s _ _ upd_same
    refine dc_it (walk_keys (kvs := belowK R)) (fun i H2 => Same (upd H d (.frz od (.dK (belowK R)))) H2 ∧ TupsAt H2 D ((nmsOf R).take i) (course R)) ⟨s0, ⟨fun _ => 0, by rw [upd_same, List.take_zero]; rfl, fun x hx => by rw [List.take_zero] at hx; cases hx⟩⟩ (fun i H2 hi h => hfz _ h.1) ?_ ?_
    · rintro i x H2 H3 hi ⟨s2, T2⟩ ⟨e, k0, v0, hkv, ev⟩
      subst e
      subst ev
      obtain ⟨x, hx, rfl, rfl⟩ := kmap_get hkv
      have hxm : x ∈ nmsOf R := List.mem_of_getElem? hx
      refine ⟨rfl, ?_⟩
      unfold tYes
      refine iteT ?_
      refine ⟨_, rfl, _, rfl, _, rfl, d, R, x, rfl, .inr ⟨od, hfz _ s2⟩, hG, hxm, fun H4 t s4 nt ht => ?_⟩
      obtain ⟨ta, h1, h2⟩ := (T2.same s4).ex
      refine ⟨_, Sum.inr x, rfl, h1, ?_, fun b o hb => ?_, ?_⟩
      · rw [kmap_len, List.length_take]
        exact small1000 (by omega)
      · rw [upd_ne (ne_of_none hb hD)]
        exact s4 _ _ (s2 b o hb)
      · have hm := tups_more h1 h2 (nodup_take hnd hx) ht
        rw [List.take_add_one, hx]
        exact hm
    · rintro H2 ⟨s2, T2⟩
      rw [kmap_len, List.take_length] at T2
      refine ⟨hfz _ s2, ?_⟩
      have s3 : Same H (upd H2 d (.dK (belowK R))) := same_unlock hd s2
      have T3 : TupsAt (upd H2 d (.dK (belowK R))) D (nmsOf R) (course R) := by
        obtain ⟨ta, h1, h2⟩ := T2.ex
        refine ⟨ta, by rw [upd_ne ndD.symm]; exact h1, fun x hx => ?_⟩
        exact (h2 x hx).upd ((h2 x hx).ne (hfz _ s2) (fun _ _ z => by cases z))
      have hD3 : H D = none := by
        rw [upd_ne ndD.symm] at hD
        exact hD
      generalize hH3 : upd H2 d (.dK (belowK R)) = H3 at s3 T3
      obtain ⟨ta, h1, h2⟩ := T3.ex
      refine ⟨D, _, h1, trivial, fun oD => ?_⟩
      have hl1 : (upd H3 D (.frz oD (.dK (kmap (fun x => .ref (ta x)) (nmsOf R))))) D = some (.frz oD (.dK (kmap (fun x => .ref (ta x)) (nmsOf R)))) := upd_same
      refine ⟨_, rfl, D, oD, _, rfl, upd_same, ?_⟩
      refine for_it walk_enumD (fun i σ H4 => ∃ (v1 v3 : Option V), σ = [some (.ref d), v1, some (.ref D), v3] ∧ Same (upd H3 D (.frz oD (.dK (kmap (fun x => .ref (ta x)) (nmsOf R))))) H4) ⟨_, _, rfl, .refl _⟩ (fun i σ H4 hi h => by
        obtain ⟨_, _, _, s⟩ := h
        exact s _ _ hl1) ?_ ?_
      · rintro i x σ H4 H5 hi ⟨v1, v3, rfl, s4⟩ ⟨T, x1, x2, rfl, hT, rfl, e1, e2⟩
        rw [kmap_len] at hi
        obtain ⟨x, hx, rfl⟩ : ∃ x, (nmsOf R)[i]? = some x ∧ x2 = .str x := by
          refine ⟨(nmsOf R)[i], List.getElem?_eq_getElem hi, ?_⟩
          have e2 : ((kmap (fun x => V.ref (ta x)) (nmsOf R))[i]?.map fun kv => kV kv.1) = some x2 := e2
          unfold kmap at e2
          rw [List.getElem?_map, List.getElem?_eq_getElem hi] at e2
          exact (Option.some.inj e2).symm
        have hxm : x ∈ nmsOf R := List.mem_of_getElem? hx
        obtain ⟨m, hC⟩ := course_is hG hxm
        have s5 : Same (upd H3 D (.frz oD (.dK (kmap (fun x => .ref (ta x)) (nmsOf R))))) (upd H4 T (.tup [x1, .str x])) := s4.trans (same_upd hT)
        have hDr : Rd (upd H4 T (.tup [x1, .str x])) D (.dK (kmap (fun x => .ref (ta x)) (nmsOf R))) := .inr ⟨oD, s5 _ _ hl1⟩
        have hta : FT (upd H4 T (.tup [x1, .str x])) (ta x) (course R x) := ((h2 x hxm).upd ((h2 x hxm).ne h1 (fun _ _ z => by cases z))).same s5
        have hd3 : (upd H3 D (.frz oD (.dK (kmap (fun x => .ref (ta x)) (nmsOf R))))) d = some (.dK (belowK R)) := by
          rw [upd_ne ndD, ← hH3, upd_same]
        refine ⟨T, _, rfl, .inl (.inl upd_same), rfl, _, _, rfl, _, _, rfl, rfl, ?_⟩
        refine ⟨_, rfl, _, rfl, D, _, rfl, dget_rn hDr hxm, ta x, _, rfl, .inr (.inl hta.rd), _, rfl, d, _, rfl, .inl (s5 _ _ hd3), _, _, rfl, rfl, _, rfl, ?_⟩
        refine iteDn ?_ ?_
        · have h1 := hC.most
          rw [List.length_map, hC.len, kmap_len, hnl]
          omega
        · exact ⟨_, _, rfl, s5⟩
      · rintro σ H4 ⟨v1, v3, rfl, s4⟩
        refine ⟨s4 _ _ hl1, ?_⟩
        have s5 : Same H3 (upd H4 D (.dK (kmap (fun x => .ref (ta x)) (nmsOf R)))) := same_unlock h1 s4
        exact ⟨_, rfl, k _ D (s3.trans s5) hD3 (T3.same s5)⟩
end
end K0
end
section
set_option Elab.async false
set_option linter.all false
set_option maxRecDepth 100000
namespace TS3
open PySem PyProof.Rows TS
/-- a tuple of two ints and a text -/
def Tri (h : Heap) (v : Value) (i j : Int) (x : Str) : Prop := ∃ a o xs n t u w, v = .ref a ∧ h.get? a = some o ∧ o.cls = .type "tuple" ∧ o.data = .seq xs n ∧ xs.toList = [.int i t, .int j u, .str x w]
theorem Tri.keeps {h h' : Heap} {v : Value} {i j : Int} {x : Str} (T : Tri h v i j x) (k : ∀ b o, h.get? b = some o → o.cls = .type "tuple" → h'.get? b = some o) : Tri h' v i j x := by
  obtain ⟨a, o, xs, n, t, u, w, e, h1, h2, h3, h4⟩ := T
  exact ⟨a, o, xs, n, t, u, w, e, k a o h1 h2, h2, h3, h4⟩
theorem Tri.uniq {h : Heap} {v : Value} {i j i' j' : Int} {x x' : Str} (T : Tri h v i j x) (T' : Tri h v i' j' x') : i = i' ∧ j = j' ∧ x = x' := by
  obtain ⟨a, o, xs, n, t, u, w, e, h1, h2, h3, h4⟩ := T
  obtain ⟨a', o', xs', n', t', u', w', e', k1, k2, k3, k4⟩ := T'
  rw [e] at e'
  cases e'
  rw [h1] at k1
  cases k1
  rw [h3] at k3
  cases k3
  rw [h4] at k4
  injection k4 with q1 q2
  injection q2 with q2 q3
  injection q3 with q3 _
  cases q1
  cases q2
  cases q3
  exact ⟨rfl, rfl, rfl⟩
/-- what is sorted: the second numbers below 100, each with one first number and text -/
structure TrisOk (h : Heap) (vs : List Value) (f : Int → Int) (g : Int → Str) : Prop where
  at_ : ∀ v ∈ vs, ∃ j, Tri h v (f j) j (g j) ∧ 0 ≤ j ∧ j < 100
theorem TrisOk.keeps {h h' : Heap} {vs : List Value} {f : Int → Int} {g : Int → Str} (x : TrisOk h vs f g) (k : ∀ b o, h.get? b = some o → o.cls = .type "tuple" → h'.get? b = some o) : TrisOk h' vs f g :=
  ⟨fun v hv => let ⟨j, t, r⟩ := x.at_ v hv; ⟨j, t.keeps k, r⟩⟩
theorem firsts {h : Heap} {f : Int → Int} {g : Int → Str} : ∀ vs : List Value, TrisOk h vs f g → ∃ fs, PySem.W.KatTups h vs fs ∧ fs.length = vs.length ∧ ∀ z, z ∈ fs → ∃ n t, z = Value.int n t
  | [], _ => ⟨[], PySem.W.KatTups.nil, rfl, fun f hf => by simp at hf⟩
  | v :: vs, x => by
    obtain ⟨fs, k, hl, hi⟩ := firsts vs ⟨fun u hu => x.at_ u (List.mem_cons_of_mem _ hu)⟩
    obtain ⟨j, ⟨a, o, xs, n, t, u, w, e, h1, h2, h3, h4⟩, _⟩ := x.at_ v (List.mem_cons_self ..)
    subst e
    refine ⟨.int (f j) t :: fs, PySem.W.KatTups.cons h1 h2 h3 ?_ k, by simp [hl], ?_⟩
    · have z := congrArg (fun l : List Value => l[0]?) h4
      simpa using z
    · intro z hz
      rcases List.mem_cons.mp hz with rfl | hz
      · exact ⟨_, t, rfl⟩
      · exact hi z hz
section
variable {prog : Program} {w : World} {A : Around} {E : Value → Shared → Prop} {s : Shared}
theorem kind3 {f : Int → Int} {g : Int → Str} {vs : List Value} (h2 : 2 ≤ vs.length) (x : TrisOk s.heap vs f g) (r : Value → Int) (hr : ∀ v, v ∈ vs → ∀ i j y, Tri s.heap v i j y → r v = i * 100 + j) (Q : SortKind → Shared → Prop)
    (h : ∀ κ, Cmp prog w A s κ (pairsOf vs) r → Q κ s) : wpAny (model prog w) A (keyKind' vs.toArray) Q E s := by
  obtain ⟨fs, k, hl, hi⟩ := firsts vs x
  refine PySem.W.kat_kind (T := Value.type "int") k (by omega) (fun f hf => ?_) rfl (h _ ?_)
  · obtain ⟨n, t, rfl⟩ := hi f hf
    exact PySem.W.Looks.of_pure rfl
  · intro p q hp hq Q' E' hQ
    rw [pairsOf_toList] at hp hq
    obtain ⟨j, tp, j0, j1⟩ := x.at_ _ (mem_zip_self hp).2
    obtain ⟨l, tq, l0, l1⟩ := x.at_ _ (mem_zip_self hq).2
    have ep := hr _ (mem_zip_self hp).2 _ _ _ tp
    have eq2 := hr _ (mem_zip_self hq).2 _ _ _ tq
    have hQ' : Q' (decide (f j * 100 + j < f l * 100 + l)) s := by
      have z : decide (r p.1 < r q.1) = decide (f j * 100 + j < f l * 100 + l) := by rw [ep, eq2]
      rw [← z]; exact hQ
    obtain ⟨a, o, xs, n, t, u, w1, e1, ho, hc, hdt, i⟩ := tp
    obtain ⟨a', o', ys, n', t', u', w2, e2, ho', hc', hdt', i'⟩ := tq
    rw [e1, e2]
    refine PySem.W.kat_lt ho hdt ho' hdt' ?_
    have sz : decide (xs.size < ys.size) = false := by
      have l1 := congrArg List.length i
      have l2 := congrArg List.length i'
      rw [Array.length_toList] at l1 l2
      exact decide_eq_false (by rw [l1, l2]; exact Nat.lt_irrefl _)
    rw [sz, i, i']
    show PySem.W.KatLex prog w A _ false Q' [(Value.int (f j) t, Value.int (f l) t'), (Value.int j u, Value.int l u'), (Value.str (g j) w1, Value.str (g l) w2)] 0 s
    refine PySem.W.kat_cons (wpAny_eqBool_int ?_)
    by_cases e : f j = f l
    · rw [e, beq_self_eq_true]
      refine PySem.W.kat_yes (PySem.W.kat_cons (wpAny_eqBool_int ?_))
      by_cases e3 : j = l
      · subst e3
        rw [beq_self_eq_true]
        refine PySem.W.kat_yes (PySem.W.kat_cons (wpAny_eqBool_str ?_))
        rw [decide_eq_true rfl]
        refine PySem.W.kat_yes (PySem.W.kat_nil ?_)
        rw [decide_eq_false (Int.lt_irrefl _)] at hQ'
        exact hQ'
      · rw [show (j == l) = false from beq_eq_false_iff_ne.mpr e3]
        refine PySem.W.kat_no (oneLt_ints _ ?_)
        have d : decide (f j * 100 + j < f l * 100 + l) = decide (j < l) := decide_eq_decide.mpr (by rw [e]; omega)
        rw [d] at hQ'
        exact hQ'
    · rw [show (f j == f l) = false from beq_eq_false_iff_ne.mpr e]
      refine PySem.W.kat_no (oneLt_ints _ ?_)
      have d : decide (f j * 100 + j < f l * 100 + l) = decide (f j < f l) := decide_eq_decide.mpr (by omega)
      rw [d] at hQ'
      exact hQ'
/-- the second number as the heap tells it -/
noncomputable def rankOf (h : Heap) (v : Value) : Int := open Classical in if x : ∃ r : Int, ∃ i j y, Tri h v i j y ∧ r = i * 100 + j then x.choose else 0
theorem rankOf_eq {h : Heap} {v : Value} {i j : Int} {y : Str} (T : Tri h v i j y) : rankOf h v = i * 100 + j := by
  have x : ∃ r : Int, ∃ i j y, Tri h v i j y ∧ r = i * 100 + j := ⟨_, i, j, y, T, rfl⟩
  unfold rankOf
  rw [dif_pos x]
  obtain ⟨i', j', y', T', e⟩ := x.choose_spec
  obtain ⟨e1, e2, _⟩ := T.uniq T'
  rw [e, e1, e2]
theorem sort3 {a : Addr} {vs : List Value} {n : Nat} {f : Int → Int} {g : Int → Str} {P : PySem.Fin → Shared → Prop} (ho : s.heap.get? a = some (seqObj "list" vs.toArray n)) (h64 : vs.length < 64) (x : TrisOk s.heap vs f g)
    (r : Value → Int) (hr : ∀ v, v ∈ vs → ∀ i j y, Tri s.heap v i j y → r v = i * 100 + j)
    (h : ∀ out : Array Value, out.toList.Perm vs → out.toList.Pairwise (fun u v => r u ≤ r v) → P (.done (.ret .none)) { s with heap := sortedHeap s.heap a vs out }) :
    wpAny (model prog w) A (Builtin.«list.sort» ⟨[.ref a], []⟩) P E s := by
  have keep : ∀ b o, s.heap.get? b = some o → o.cls = .type "tuple" → (midHeap s.heap a vs).get? b = some o := fun b o e hc => by
    refine midHeap_old ?_ e
    rintro rfl
    rw [ho] at e
    have e' : seqObj "list" vs.toArray n = o := Option.some.inj e
    rw [← e'] at hc
    have c' : Value.type "list" = Value.type "tuple" := hc
    injection c' with c''
    exact absurd c'' (by decide)
  refine SK.plain_sort (r := r) ho h64 (fun h2 Q hQ => ?_) fun ps out h1 h2 h3 => ?_
  · refine kind3 (s := { s with heap := midHeap s.heap a vs }) h2 (x.keeps keep) r (fun v hv i j y t => ?_) Q hQ
    obtain ⟨j0, t0, _⟩ := x.at_ v hv
    obtain ⟨e1, e2, e3⟩ := t.uniq (t0.keeps keep)
    rw [e1, e2]
    exact hr v hv _ _ _ t0
  · obtain ⟨p, o⟩ := out_rank h1 h2 h3
    exact h out p o
theorem sorted3 {l : Addr} {vs : List Value} {f : Int → Int} {g : Int → Str} {Q : Value → Shared → Prop} (hl : s.heap.IsList l vs.toArray) (h64 : vs.length < 64) (x : TrisOk s.heap vs f g)
    (h : ∀ out : Array Value, out.toList.Perm vs → out.toList.Pairwise (fun u v => rankOf s.heap u ≤ rankOf s.heap v) → Q (.ref (s.heap.objs.size + 1)) { s with heap := sortedAll s.heap vs out }) :
    wpAny (model prog w) A (call (.builtin "sorted") [.ref l]) Q E s := by
  refine Calls.call_function_entry kind_sorted plain_sorted entry_sorted (args_sorted1 _) ?_
  unfold Builtin.«sorted»
  refine wpAny_bind (m := checkCount "sorted" 1 1 _) (wpAny_pure ?_)
  refine wpAny_bind (collect_list hl ?_ (by rw [sizeLine_eq]; omega))
  refine wpAny_bind (wpAny_newList ?_ (by rw [sizeLine_eq]; omega))
  have hsz : ((s.heap.push (seqObj "list" #[] 0)).update s.heap.objs.size (Obj.mapSeq (· ++ vs.toArray))).objs.size = s.heap.objs.size + 1 := by
    rw [Heap.size_update, size_push']
  have hoL : (((s.heap.push (seqObj "list" #[] 0)).update s.heap.objs.size (Obj.mapSeq (· ++ vs.toArray))).push (seqObj "list" vs.toArray 0)).get? (s.heap.objs.size + 1) = some (seqObj "list" vs.toArray 0) := by
    rw [← hsz]; exact Heap.get?_push_size _ rfl
  have keep : ∀ b o, s.heap.get? b = some o → o.cls = .type "tuple" → (((s.heap.push (seqObj "list" #[] 0)).update s.heap.objs.size (Obj.mapSeq (· ++ vs.toArray))).push (seqObj "list" vs.toArray 0)).get? b = some o := fun b o q _ => by
    have hlt : b < s.heap.objs.size := Heap.lt_size q
    rw [Heap.get?_push_ne _ _ _ (by rw [hsz]; exact Nat.ne_of_lt (Nat.lt_succ_of_lt hlt)), Heap.get?_update_ne _ _ _ _ (Nat.ne_of_lt hlt), Heap.get?_push_ne _ _ _ (Nat.ne_of_lt hlt)]
    exact q
  show wpAny _ _ _ _ _ { s with heap := ((s.heap.push (seqObj "list" #[] 0)).update s.heap.objs.size (Obj.mapSeq (· ++ vs.toArray))).push (seqObj "list" vs.toArray 0) }
  rw [hsz]
  refine wpAny_bind (wpAny_holding (wpAny_call_entry slot_list_sort ⟨_, hoL, rfl⟩ entry_list_sort (sort3 hoL h64 (x.keeps keep) (rankOf s.heap) (fun v hv i j y t => ?_) fun out a1 a2 => ⟨_, rfl, ?_⟩) (args_list_sort _)))
  · obtain ⟨j0, t0, _⟩ := x.at_ v hv
    obtain ⟨e1, e2, _⟩ := t.uniq (t0.keeps keep)
    rw [e1, e2]
    exact rankOf_eq t0
  · exact wpAny_pure ⟨_, rfl, h out a1 a2⟩
end
end TS3
namespace L2
open PySem PySem.Spec PyProof.Rows
/-- sorted(xs), xs a list of fewer than 64 tuples of two ints and a text, the second ints unlike: some arrangement -/
def k0_rSorted3 (K : PySem.W.Frag) : List V → Hp → VK → Prop := fun vs H Q => ∃ (a : Addr) (xs : List V) (f : Int → Int) (g : Int → Str), vs = [V.ref a] ∧ SqL K H a xs ∧ xs.length < 64 ∧ (∀ x ∈ xs, ∃ t j, x = V.ref t ∧ H t = some (.tup [.int (f j), .int j, .str (g j)]) ∧ 0 ≤ j ∧ j < 100) ∧
  ∀ (ys : List V) (p : Addr), ys.Perm xs → (ys.Pairwise fun x y => ∀ t t' j j', x = V.ref t → y = V.ref t' → H t = some (.tup [.int (f j), .int j, .str (g j)]) → H t' = some (.tup [.int (f j'), .int j', .str (g j')]) → f j * 100 + j ≤ f j' * 100 + j') → H p = none → Q (.ref p) (upd H p (.lst ys))
theorem k0_sorted3 {X : Cx} : CallR X (.builtin "sorted") (k0_rSorted3 X.K) := by
  intro pins s σ H vs us Q I r h
  obtain ⟨a, xs, f, g, rfl, hs, h64, hx, q⟩ := h
  obtain ⟨its, rv, hl, hz⟩ := I.list hs
  rw [Vals.ref1 r]
  obtain ⟨e1, e2⟩ := bkV_refs rv fun x m => by
    obtain ⟨t, j, e, _⟩ := hx x m
    exact ⟨t, e⟩
  have tri : ∀ t j, H t = some (.tup [.int (f j), .int j, .str (g j)]) → TS3.Tri s.heap (.ref t) (f j) j (g j) := fun t j ht => by
    obtain ⟨_, its2, r2, o, ho, hc, n, hd⟩ := I.hok _ _ ht
    cases r2 with
    | cons ra r2 =>
      cases r2 with
      | cons rb r2 =>
        cases r2 with
        | cons rc r2 =>
          cases r2
          obtain ⟨ta, rfl⟩ := ra
          obtain ⟨tb, rfl⟩ := rb
          obtain ⟨tc, rfl⟩ := rc
          exact ⟨t, o, _, n, ta, tb, tc, rfl, ho, hc, hd, rfl⟩
  refine TS3.sorted3 (f := f) (g := g) hl.isList (by rw [← rv.length]; exact h64) ⟨fun v hv => ?_⟩ fun out h1 h2 => ?_
  · obtain ⟨t, rfl⟩ := e2 v hv
    have hm : V.ref t ∈ xs := by
      rw [e1]
      exact List.mem_map.mpr ⟨_, hv, rfl⟩
    obtain ⟨t', j, e, ht, hj0, hj1⟩ := hx _ hm
    cases e
    exact ⟨j, tri _ _ ht, hj0, hj1⟩
  · obtain ⟨ep, he'⟩ := PyProof.Rows.sortedAll_at s.heap its out
    have h3 : ∀ u ∈ out.toList, ∃ a, u = Value.ref a := fun u hu => e2 u (h1.mem_iff.mp hu)
    have hp : (out.toList.map bkV).Perm xs := by
      rw [e1]
      exact h1.map bkV
    have ho : ((out.toList.map bkV).Pairwise fun x y => ∀ t t' j j', x = V.ref t → y = V.ref t' → H t = some (.tup [.int (f j), .int j, .str (g j)]) → H t' = some (.tup [.int (f j'), .int j', .str (g j')]) → f j * 100 + j ≤ f j' * 100 + j') := by
      rw [List.pairwise_map]
      refine List.Pairwise.imp_of_mem (fun {u v} hu hv hle t t' j j' ex ey ht ht' => ?_) h2
      obtain ⟨a1, rfl⟩ := h3 u hu
      obtain ⟨a2, rfl⟩ := h3 v hv
      have ex : V.ref a1 = V.ref t := ex
      have ey : V.ref a2 = V.ref t' := ey
      cases ex
      cases ey
      rw [TS3.rankOf_eq (tri _ _ ht), TS3.rankOf_eq (tri _ _ ht')] at hle
      exact hle
    have hlen : (out.toList.map bkV).length ≤ sizeLine := by
      rw [hp.length_eq]
      exact hz
    exact ⟨.ref _, upd H (s.heap.objs.size + 1) (.lst (out.toList.map bkV)), I.laid (t' := s.toks) (fun _ _ => PyProof.Rows.sortedAll_old) (Nat.le_succ _) ⟨hlen, out.toList, ep, bkV_vals h3, he'⟩, rfl, q _ _ hp ho (I.hok.fresh (Nat.le_succ _))⟩
end L2
end
section
end
section
set_option Elab.async false
set_option linter.all false
set_option maxRecDepth 100000
namespace K0
open PySem PySem.Spec PyProof.Rows L2
def aboveR (R : List Row) (y : Str) : List Str := (nmsOf R).filter fun x => decide (lowR R x = y)
def upR (R : List Row) (y : Str) : List Str := (nmsOf R).filter fun x => decide (y ∈ course R x)
/-! ### the deepest first -/
theorem list_getD (l : List Str) : l = (List.range l.length).map fun k => l.getD k "" := List.ext_getElem (by rw [List.length_map, List.length_range]) fun k h1 h2 => by
  rw [List.getElem_map, List.getElem_range, List.getD_eq_getElem?_getD, List.getElem?_eq_getElem h1]
  rfl
def deepR (R : List Row) : List Str := (List.range R.length).flatMap fun i => (nmsOf R).filter fun x => decide ((course R x).length = R.length - i)
/-- places, the deepest first -/
def deepP (n : Nat) (d : Nat → Nat) : List Nat := (List.range n).flatMap fun i => (List.range n).filter fun j => decide (d j = n - i)
theorem deepP_lt {n : Nat} {d : Nat → Nat} (h100 : n ≤ 100) : (deepP n d).Pairwise fun a b => -(d a : Int) * 100 + (a : Int) < -(d b : Int) * 100 + (b : Int) := by
  unfold deepP
  rw [List.pairwise_flatMap]
  refine ⟨fun i hi => ?_, ?_⟩
  · rw [List.pairwise_filter]
    refine List.Pairwise.imp (fun {a b} hab h1 h2 => ?_) (List.pairwise_lt_range (n := n))
    have h1 := of_decide_eq_true h1
    have h2 := of_decide_eq_true h2
    rw [h1, h2]
    omega
  · refine List.Pairwise.imp_of_mem (fun {i k} hi hk hik a ha b hb => ?_) (List.pairwise_lt_range (n := n))
    have hi := List.mem_range.mp hi
    have hk := List.mem_range.mp hk
    obtain ⟨a1, a2⟩ := List.mem_filter.mp ha
    obtain ⟨b1, b2⟩ := List.mem_filter.mp hb
    have a1 := List.mem_range.mp a1
    have b1 := List.mem_range.mp b1
    have a2 := of_decide_eq_true a2
    have b2 := of_decide_eq_true b2
    rw [a2, b2]
    omega
theorem deepP_perm {n : Nat} {d : Nat → Nat} (h100 : n ≤ 100) (hd : ∀ j, j < n → 1 ≤ d j ∧ d j ≤ n) : (deepP n d).Perm (List.range n) := by
  have nd : (deepP n d).Nodup := List.Pairwise.imp (fun {a b} h e => by
    subst e
    omega) (deepP_lt (d := d) h100)
  refine (List.perm_ext_iff_of_nodup nd List.nodup_range).mpr fun a => ⟨fun h => ?_, fun h => ?_⟩
  · obtain ⟨i, _, hm⟩ := List.mem_flatMap.mp h
    exact (List.mem_filter.mp hm).1
  · have ha := List.mem_range.mp h
    obtain ⟨h1, h2⟩ := hd a ha
    refine List.mem_flatMap.mpr ⟨n - d a, List.mem_range.mpr (by omega), List.mem_filter.mpr ⟨h, decide_eq_true (by omega)⟩⟩
theorem deep_eq {n : Nat} {d : Nat → Nat} {js : List Nat} (h100 : n ≤ 100) (hd : ∀ j, j < n → 1 ≤ d j ∧ d j ≤ n) (hp : js.Perm (List.range n)) (hs : js.Pairwise fun a b => -(d a : Int) * 100 + (a : Int) ≤ -(d b : Int) * 100 + (b : Int)) : js = deepP n d := by
  refine List.Perm.eq_of_pairwise (le := fun a b => -(d a : Int) * 100 + (a : Int) ≤ -(d b : Int) * 100 + (b : Int)) (fun a b ha hb h1 h2 => ?_) hs ((deepP_lt h100).imp fun h => Int.le_of_lt h) (hp.trans (deepP_perm h100 hd).symm)
  have ha := List.mem_range.mp (hp.mem_iff.mp ha)
  have hb := List.mem_range.mp ((deepP_perm h100 hd).mem_iff.mp hb)
  omega
theorem deep_names {R : List Row} {nm : Nat → Str} (hn : nmsOf R = (List.range R.length).map nm) : (deepP R.length fun j => (course R (nm j)).length).map nm = deepR R := by
  unfold deepP deepR
  rw [List.map_flatMap]
  congr 1
  funext i
  rw [hn, List.filter_map]
  rfl
abbrev scAbove_N : List Str := ["below", "low", "weir"]
abbrev scAbove_S : Stmt := sAbove
theorem scAbove : FnScope scAbove_N ["below", "low"] (defScope sAbove) := ⟨rfl, rfl, rfl, by decide +kernel, rfl, by decide +kernel, by decide +kernel⟩
abbrev scUp_N : List Str := ["courses", "low", "weir"]
abbrev scUp_S : Stmt := sUp
theorem scUp : FnScope scUp_N ["courses", "low"] (defScope sUp) := ⟨rfl, rfl, rfl, by decide +kernel, rfl, by decide +kernel, by decide +kernel⟩
abbrev scOrder_N : List Str := ["courses", "rows", "place", "weir", "row"]
abbrev scOrder_S : Stmt := sOrder
theorem scOrder : FnScope scOrder_N ["courses"] (defScope sOrder) := ⟨rfl, rfl, rfl, by decide +kernel, rfl, by decide +kernel, by decide +kernel⟩
def spAbove : Sp := fun vs H Q _ => ∃ (d : Addr) (R : List Row) (y : Str), vs = [.ref d, .str y] ∧ H d = some (.dK (belowK R)) ∧ GoodRows R ∧
  ∀ (H' : Hp) (t : Addr), Same H H' → H t = none → FT H' t (aboveR R y) → Q (.ref t) H'
def spUp : Sp := fun vs H Q _ => ∃ (c : Addr) (R : List Row) (y : Str), vs = [.ref c, .str y] ∧ TupsAt H c (nmsOf R) (course R) ∧ GoodRows R ∧
  ∀ (H' : Hp) (t : Addr), Same H H' → H t = none → FT H' t (upR R y) → Q (.ref t) H'
def spOrder : Sp := fun vs H Q _ => ∃ (c : Addr) (R : List Row), vs = [.ref c] ∧ TupsAt H c (nmsOf R) (course R) ∧ GoodRows R ∧
  ∀ (H' : Hp) (t : Addr), Same H H' → H t = none → H' t = some (.tup ((deepR R).map V.str)) → Q (.ref t) H'
/-- the place that a row tells -/
def plAt (H : Hp) (t : Addr) : Nat := match H t with | some (.tup [_, .int j, _]) => j.toNat | _ => 0
theorem inV_str (y : Str) (l : List Str) : inV (.str y) (l.map V.str) = decide (y ∈ l) := by
  unfold inV
  rw [List.any_map]
  by_cases h : y ∈ l
  · rw [decide_eq_true h]
    exact List.any_eq_true.mpr ⟨y, h, beq_self_eq_true y⟩
  · rw [decide_eq_false h, List.any_eq_false]
    intro x hx e
    have e : (x == y) = true := e
    rw [eq_of_beq e] at hx
    exact h hx
theorem flat_strs (l : List Str) : (l.map V.str).all flatV = true := by
  rw [List.all_map]
  exact List.all_eq_true.mpr fun _ _ => rfl
theorem filter_take {p : Str → Bool} {ns : List Str} {i : Nat} {x : Str} (h : ns[i]? = some x) : (ns.take (i + 1)).filter p = (ns.take i).filter p ++ (if p x = true then [x] else []) := by
  rw [List.take_add_one, h, List.filter_append]
  show _ ++ [x].filter p = _
  by_cases e : p x = true
  · rw [List.filter_cons_of_pos e, if_pos e]
    rfl
  · rw [List.filter_cons_of_neg e, if_neg e]
    rfl
section
variable {P : Program} {w : World} {K : PySem.W.Frag} {mg : Str → Option Value} {base : Heap} {tS tM tL : Tok}
theorem ok_above {f : Addr} {fd : FuncData} (F : FnP K "_directly_above" sAbove f fd) (B : Bl mg) : FnOk P w K mg base CX0 1 f fd ["below", "low"] spAbove := by
  refine F.ok scAbove (fun vs H Q E h => ?_) (fun cdv A outer s H vs Q E hr h => ?_)
  · obtain ⟨d, R, y, rfl, _⟩ := h
    rfl
  · obtain ⟨d, R, y, rfl, hd, hG, k⟩ := h
    have hu := hu_of hr
    refine ⟨_, PSs.nox (pss_one
      (ps_ret (pe_callTy (tupleF (K := K)) (by rfl) B.tuple (by decide +kernel) (pa_cons (pe_lock (pe_lc (own := [("weir", 2)]) (g := gName 2) (by rfl) scAbove.nd (pi_keys (pv 0)) (blkOk_by (own := [("weir", 2)]) (N := scAbove_N) (sc := defScope scAbove_S) (by decide +kernel)) (fun _ _ _ _ _ => (pg_name (i := 2) scAbove.nd rfl (Or.inl rfl))) (fun _ _ _ _ _ => (pts_one (pt_cmpR op_eq (pe_dget hu (pv 0) (pv 2) (fun _ _ => rfl)) (pv 1) (nomark _)))) (fun _ _ _ _ _ => (pv 2)))) pa_nil)))), ?_⟩
    have hnd := hG.nm.nd
    have hRm := hG.most
    have hnl : (nmsOf R).length = R.length := List.length_map _
    refine ⟨d, _, hd, trivial, fun od => ?_⟩
    refine ⟨_, rfl, d, od, rfl, .inl ⟨_, upd_same, fun D hD => ?_⟩⟩
    have s0 : Same (upd H d (.frz od (.dK (belowK R)))) (upd (upd H d (.frz od (.dK (belowK R)))) D (.lst [])) := same_upd hD
    have ndD : d ≠ D := ne_of_none upd_same hD
    have hfz : ∀ H2, Same (upd H d (.frz od (.dK (belowK R)))) H2 → H2 d = some (.frz od (.dK (belowK R))) := fun H2 s => s _ _ upd_same
    refine lc_it (walk_keys (kvs := belowK R)) (fun i H2 => Same (upd H d (.frz od (.dK (belowK R)))) H2 ∧ H2 D = some (.lst ((((nmsOf R).take i).filter fun x => decide (lowR R x = y)).map V.str))) ⟨s0, by rw [upd_same, List.take_zero]; rfl⟩ (fun i H2 hi h => hfz _ h.1) ?_ ?_
    · rintro i x H2 H3 hi ⟨s2, hl⟩ ⟨e, k0, v0, hkv, ev⟩
      subst e
      subst ev
      obtain ⟨x, hx, rfl, rfl⟩ := kmap_get hkv
      have hxm : x ∈ nmsOf R := List.mem_of_getElem? hx
      refine ⟨rfl, ?_⟩
      refine ⟨_, rfl, _, rfl, d, _, rfl, dget_rn (.inr ⟨od, hfz _ s2⟩) hxm, _, rfl, rfl, _, rfl, ?_⟩
      have hft := filter_take (p := fun x => decide (lowR R x = y)) hx
      refine ite2 (fun h => ?_) (fun h => ?_)
      · have h := V.str.inj (of_decide_eq_true h)
        rw [if_pos (decide_eq_true h)] at hft
        refine ⟨_, rfl, _, hl, ?_, fun b o hb => ?_, ?_⟩
        · rw [List.length_map]
          have := List.length_filter_le (fun x => decide (lowR R x = y)) ((nmsOf R).take i)
          rw [List.length_take] at this
          exact small1000 (by omega)
        · rw [upd_ne (ne_of_none hb hD)]
          exact s2 b o hb
        · rw [upd_same, hft, List.map_append]
          rfl
      · have h : ¬ lowR R x = y := fun z => h (decide_eq_true (congrArg V.str z))
        rw [if_neg (by rw [decide_eq_false h]; exact Bool.false_ne_true), List.append_nil] at hft
        refine ⟨s2, ?_⟩
        rw [hft]
        exact hl
    · rintro H2 ⟨s2, hl⟩
      rw [kmap_len, List.take_length] at hl
      refine ⟨hfz _ s2, ?_⟩
      have s3 : Same H (upd H2 d (.dK (belowK R))) := same_unlock hd s2
      have hl3 : (upd H2 d (.dK (belowK R))) D = some (.lst ((aboveR R y).map V.str)) := by
        rw [upd_ne ndD.symm]
        exact hl
      refine ⟨D, _, rfl, .inl (.inl hl3), fun t ot nt pt => ?_⟩
      exact k _ t (s3.trans (same_upd nt)) (s3.free nt) ⟨ot, pt, upd_same⟩
theorem ok_up {f : Addr} {fd : FuncData} (F : FnP K "_find_upstream" sUp f fd) (B : Bl mg) : FnOk P w K mg base CX0 1 f fd ["courses", "low"] spUp := by
  refine F.ok scUp (fun vs H Q E h => ?_) (fun cdv A outer s H vs Q E hr h => ?_)
  · obtain ⟨d, R, y, rfl, _⟩ := h
    rfl
  · obtain ⟨d, R, y, rfl, hT, hG, k⟩ := h
    have hu := hu_of hr
    obtain ⟨ta, hd, ht⟩ := hT.ex
    refine ⟨_, PSs.nox (pss_one
      (ps_ret (pe_callTy (tupleF (K := K)) (by rfl) B.tuple (by decide +kernel) (pa_cons (pe_lock (pe_lc (own := [("weir", 2)]) (g := gName 2) (by rfl) scUp.nd (pi_keys (pv 0)) (blkOk_by (own := [("weir", 2)]) (N := scUp_N) (sc := defScope scUp_S) (by decide +kernel)) (fun _ _ _ _ _ => (pg_name (i := 2) scUp.nd rfl (Or.inl rfl))) (fun _ _ _ _ _ => (pts_one (pt_cmpR (inK (K := K)) (pv 1) (pe_dget hu (pv 0) (pv 2) (fun _ _ => rfl)) (by rfl)))) (fun _ _ _ _ _ => (pv 2)))) pa_nil)))), ?_⟩
    have hnd := hG.nm.nd
    have hRm := hG.most
    have hnl : (nmsOf R).length = R.length := List.length_map _
    refine ⟨d, _, hd, trivial, fun od => ?_⟩
    refine ⟨_, rfl, d, od, rfl, .inl ⟨_, upd_same, fun D hD => ?_⟩⟩
    have s0 : Same (upd H d (.frz od (.dK (kmap (fun x => .ref (ta x)) (nmsOf R))))) (upd (upd H d (.frz od (.dK (kmap (fun x => .ref (ta x)) (nmsOf R))))) D (.lst [])) := same_upd hD
    have ndD : d ≠ D := ne_of_none upd_same hD
    have hfz : ∀ H2, Same (upd H d (.frz od (.dK (kmap (fun x => .ref (ta x)) (nmsOf R))))) H2 → H2 d = some (.frz od (.dK (kmap (fun x => .ref (ta x)) (nmsOf R)))) := fun H2 s => s _ _ upd_same
    have htf : ∀ x ∈ nmsOf R, FT (upd H d (.frz od (.dK (kmap (fun x => .ref (ta x)) (nmsOf R))))) (ta x) (course R x) := fun x hx => (ht x hx).upd ((ht x hx).ne hd (fun _ _ z => by cases z))
    refine lc_it walk_keys (fun i H2 => Same (upd H d (.frz od (.dK (kmap (fun x => .ref (ta x)) (nmsOf R))))) H2 ∧ H2 D = some (.lst ((((nmsOf R).take i).filter fun x => decide (y ∈ course R x)).map V.str))) ⟨s0, by rw [upd_same, List.take_zero]; rfl⟩ (fun i H2 hi h => hfz _ h.1) ?_ ?_
    · rintro i x H2 H3 hi ⟨s2, hl⟩ ⟨e, k0, v0, hkv, ev⟩
      subst e
      subst ev
      obtain ⟨x, hx, rfl, rfl⟩ := kmap_get hkv
      have hxm : x ∈ nmsOf R := List.mem_of_getElem? hx
      refine ⟨rfl, ?_⟩
      refine ⟨_, rfl, _, rfl, _, rfl, d, _, rfl, dget_rn (.inr ⟨od, hfz _ s2⟩) hxm, ta x, _, rfl, .inr (.inl ((htf x hxm).same s2).rd), rfl, flat_strs _, _, rfl, ?_⟩
      have hft := filter_take (p := fun x => decide (y ∈ course R x)) hx
      rw [inV_str]
      refine ite2 (fun h => ?_) (fun h => ?_)
      · have h : decide (y ∈ course R x) = true := h
        rw [if_pos h] at hft
        refine ⟨_, rfl, _, hl, ?_, fun b o hb => ?_, ?_⟩
        · rw [List.length_map]
          have := List.length_filter_le (fun x => decide (y ∈ course R x)) ((nmsOf R).take i)
          rw [List.length_take] at this
          exact small1000 (by omega)
        · rw [upd_ne (ne_of_none hb hD)]
          exact s2 b o hb
        · rw [upd_same, hft, List.map_append]
          rfl
      · have h : ¬ decide (y ∈ course R x) = true := h
        rw [if_neg h, List.append_nil] at hft
        refine ⟨s2, ?_⟩
        rw [hft]
        exact hl
    · rintro H2 ⟨s2, hl⟩
      rw [kmap_len, List.take_length] at hl
      refine ⟨hfz _ s2, ?_⟩
      have s3 : Same H (upd H2 d (.dK (kmap (fun x => .ref (ta x)) (nmsOf R)))) := same_unlock hd s2
      have hl3 : (upd H2 d (.dK (kmap (fun x => .ref (ta x)) (nmsOf R)))) D = some (.lst ((upR R y).map V.str)) := by
        rw [upd_ne ndD.symm]
        exact hl
      refine ⟨D, _, rfl, .inl (.inl hl3), fun t ot nt pt => ?_⟩
      exact k _ t (s3.trans (same_upd nt)) (s3.free nt) ⟨ot, pt, upd_same⟩
theorem ok_order {f : Addr} {fd : FuncData} (F : FnP K "_order_by_depth" sOrder f fd) (B : Bl mg) : FnOk P w K mg base CX0 1 f fd ["courses"] spOrder := by
  refine F.ok scOrder (fun vs H Q E h => ?_) (fun cdv A outer s H vs Q E hr h => ?_)
  · obtain ⟨d, R, rfl, _⟩ := h
    rfl
  · obtain ⟨d, R, rfl, hT, hG, k⟩ := h
    have hu := hu_of hr
    obtain ⟨ta, hd, ht⟩ := hT.ex
    refine ⟨_, PSs.nox (pss_cons
      (ps_set (i := 1) scOrder.nd rfl (Or.inl rfl) (pe_callB k0_sorted3 (by rfl) B.sorted (by decide +kernel) (pa_cons (pe_lock (pe_lc (own := [("place", 2), ("weir", 3)]) (tt := tYes) (by rfl) scOrder.nd (pi_enumD (by rfl) B.enumerate (pa_cons (pv 0) pa_nil)) (blkOk_by (own := [("place", 2), ("weir", 3)]) (N := scOrder_N) (sc := defScope scOrder_S) (by decide +kernel)) (fun _ _ _ _ _ => (tgK (K := K) (n := 2) (by rfl) (pgs_cons (pg_name (i := 2) scOrder.nd rfl (Or.inl rfl)) (pgs_cons (pg_name (i := 3) scOrder.nd rfl (Or.inl rfl)) pgs_nil)))) (fun _ _ _ _ _ => pts_nil) (fun _ _ _ _ _ => (pe_tup (pa_cons (pe_un un_neg (pe_callB (lenK (K := K)) (by rfl) B.len PySem.boot_len (pa_cons (pe_dget hu (pv 0) (pv 3) (fun _ _ => rfl)) pa_nil))) (pa_cons (pv 2) (pa_cons (pv 3) pa_nil))))))) pa_nil)))
      (pss_one
      (ps_ret (pe_callTy (tupleK (K := K)) (by rfl) B.tuple (by decide +kernel) (pa_cons (pe_lc (own := [("row", 4)]) (g := gName 4) (tt := tYes) (by rfl) scOrder.nd (pi_list (pv 1)) (blkOk_by (own := [("row", 4)]) (N := scOrder_N) (sc := defScope scOrder_S) (by decide +kernel)) (fun _ _ _ _ _ => (pg_name (i := 4) scOrder.nd rfl (Or.inl rfl))) (fun _ _ _ _ _ => pts_nil) (fun _ _ _ _ _ => (pe_ix (ixTK (K := K)) (pv 4) pe_int (fun _ _ => rfl)))) pa_nil))))), ?_⟩
    have hnd := hG.nm.nd
    have hRm := hG.most
    have hnl : (nmsOf R).length = R.length := List.length_map _
    refine ⟨d, _, hd, trivial, fun od => ?_⟩
    refine ⟨_, rfl, d, od, _, rfl, upd_same, fun D hD => ?_⟩
    have s0 : Same (upd H d (.frz od (.dK (kmap (fun x => .ref (ta x)) (nmsOf R))))) (upd (upd H d (.frz od (.dK (kmap (fun x => .ref (ta x)) (nmsOf R))))) D (.lst [])) := same_upd hD
    have ndD : d ≠ D := ne_of_none upd_same hD
    have hfz : ∀ H2, Same (upd H d (.frz od (.dK (kmap (fun x => .ref (ta x)) (nmsOf R))))) H2 → H2 d = some (.frz od (.dK (kmap (fun x => .ref (ta x)) (nmsOf R)))) := fun H2 s => s _ _ upd_same
    have htf : ∀ x ∈ nmsOf R, FT (upd H d (.frz od (.dK (kmap (fun x => .ref (ta x)) (nmsOf R))))) (ta x) (course R x) := fun x hx => (ht x hx).upd ((ht x hx).ne hd (fun _ _ z => by cases z))
    refine lc_it walk_enumD (fun i H2 => Same (upd H d (.frz od (.dK (kmap (fun x => .ref (ta x)) (nmsOf R))))) H2 ∧ ∃ ts : List Addr, H2 D = some (.lst (ts.map V.ref)) ∧ ts.length = i ∧ ∀ k t, ts[k]? = some t → H2 t = some (.tup [.int (-((course R ((nmsOf R).getD k "")).length : Int)), .int (k : Int), .str ((nmsOf R).getD k "")])) ⟨s0, [], upd_same, rfl, fun k t hk => by cases hk⟩ (fun i H2 hi h => hfz _ h.1) ?_ ?_
    · rintro i x H2 H3 hi ⟨s2, ts, hl, hxl, hxs⟩ ⟨T, x1, x2, rfl, hT, rfl, e1, e2⟩
      rw [kmap_len] at hi
      have e1 : x1 = .int (i : Int) := (Option.some.inj e1).symm
      subst e1
      obtain ⟨x, hx, rfl⟩ : ∃ x, (nmsOf R)[i]? = some x ∧ x2 = .str x := by
        refine ⟨(nmsOf R)[i], List.getElem?_eq_getElem hi, ?_⟩
        have e2 : ((kmap (fun x => V.ref (ta x)) (nmsOf R))[i]?.map fun kv => kV kv.1) = some x2 := e2
        unfold kmap at e2
        rw [List.getElem?_map, List.getElem?_eq_getElem hi] at e2
        exact (Option.some.inj e2).symm
      have hxm : x ∈ nmsOf R := List.mem_of_getElem? hx
      have s3 : Same (upd H d (.frz od (.dK (kmap (fun x => .ref (ta x)) (nmsOf R))))) (upd H2 T (.tup [.int (i : Int), .str x])) := s2.trans (same_upd hT)
      refine ⟨T, _, rfl, .inl (.inl upd_same), rfl, _, _, rfl, _, _, rfl, rfl, rfl, ?_⟩
      unfold tYes
      refine iteT ?_
      refine ⟨_, rfl, _, rfl, d, _, rfl, dget_rn (.inr ⟨od, hfz _ s3⟩) hxm, ta x, _, rfl, .inr (.inl ((htf x hxm).same s3).rd), _, rfl, _, rfl, _, rfl, by show 3 ≤ sizeLine; decide, fun p np => ?_⟩
      have hlD : (upd H2 T (.tup [.int (i : Int), .str x])) D = some (.lst (ts.map V.ref)) := by
        rw [upd_ne (ne_of_none hl hT)]
        exact hl
      have npD : D ≠ p := ne_of_none hlD np
      have eg : (nmsOf R).getD i "" = x := by
        rw [List.getD_eq_getElem?_getD, hx]
        rfl
      refine ⟨ts.map V.ref, by rw [upd_ne npD]; exact hlD, small1000 (by rw [List.length_map]; omega), fun b o hb => ?_, ts ++ [p], by rw [upd_same, List.map_append]; rfl, by rw [List.length_append, hxl]; rfl, fun k t hk => ?_⟩
      · have h3 := s3 b o hb
        rw [upd_ne (ne_of_none hb hD), upd_ne (ne_of_none h3 np)]
        exact h3
      · rcases Nat.lt_or_ge k ts.length with hkl | hkl
        · rw [List.getElem?_append_left hkl] at hk
          have h1 := hxs k t hk
          have h1' : (upd H2 T (.tup [.int (i : Int), .str x])) t = some (.tup [.int (-((course R ((nmsOf R).getD k "")).length : Int)), .int (k : Int), .str ((nmsOf R).getD k "")]) := by
            rw [upd_ne (ne_of_none h1 hT)]
            exact h1
          rw [upd_ne (ne_of h1 hl (fun z => by cases z)), upd_ne (ne_of_none h1' np)]
          exact h1'
        · rw [List.getElem?_append_right hkl] at hk
          have hk0 : k - ts.length = 0 := by
            have := (List.getElem?_eq_some_iff.mp hk).1
            rw [List.length_singleton] at this
            omega
          rw [hk0] at hk
          have e : p = t := Option.some.inj hk
          have ek : k = i := by omega
          rw [← e, ek, upd_ne npD.symm, upd_same, eg, List.length_map]
    · rintro H2 ⟨s2, ts, hl, hxl, hxs⟩
      rw [kmap_len] at hxl
      refine ⟨hfz _ s2, ?_⟩
      have s3 : Same H (upd H2 d (.dK (kmap (fun x => .ref (ta x)) (nmsOf R)))) := same_unlock hd s2
      have hl3 : (upd H2 d (.dK (kmap (fun x => .ref (ta x)) (nmsOf R)))) D = some (.lst (ts.map V.ref)) := by
        rw [upd_ne ndD.symm]
        exact hl
      have hxs3 : ∀ k t, ts[k]? = some t → (upd H2 d (.dK (kmap (fun x => .ref (ta x)) (nmsOf R)))) t = some (.tup [.int (-((course R ((nmsOf R).getD k "")).length : Int)), .int (k : Int), .str ((nmsOf R).getD k "")]) := fun k t hk => by
        have h1 := hxs k t hk
        rw [upd_ne (ne_of h1 (hfz _ s2) (fun z => by cases z))]
        exact h1
      generalize upd H2 d (.dK (kmap (fun x => .ref (ta x)) (nmsOf R))) = H3 at s3 hl3 hxs3
      have hn : ts.length = R.length := by rw [hxl, hnl]
      refine ⟨D, ts.map V.ref, fun j => -((course R ((nmsOf R).getD j.toNat "")).length : Int), fun j => (nmsOf R).getD j.toNat "", rfl, .inl (.inl hl3), by rw [List.length_map]; omega, fun x hx => ?_, fun ys p hp hord np => ?_⟩
      · obtain ⟨t, ht, rfl⟩ := List.mem_map.mp hx
        obtain ⟨k, hk⟩ := List.getElem?_of_mem ht
        have hkl := (List.getElem?_eq_some_iff.mp hk).1
        exact ⟨t, (k : Int), rfl, hxs3 k t hk, by omega, by omega⟩
      obtain ⟨ts', eys, hp'⟩ := perm_lift hp ts rfl
      subst eys
      have hpl : ∀ k t, ts[k]? = some t → plAt H3 t = k := fun k t hk => by
        unfold plAt
        rw [hxs3 k t hk]
        rfl
      have hmap : ts.map (plAt H3) = List.range R.length := List.ext_getElem (by rw [List.length_map, List.length_range, hn]) fun k h1 h2 => by
        rw [List.getElem_map, List.getElem_range]
        rw [List.length_map] at h1
        exact hpl k _ (List.getElem?_eq_getElem h1)
      have hjp : (ts'.map (plAt H3)).Perm (List.range R.length) := by
        rw [← hmap]
        exact hp'.map _
      have hH : ∀ t ∈ ts', H3 t = some (.tup [.int (-((course R ((nmsOf R).getD (plAt H3 t) "")).length : Int)), .int (plAt H3 t : Int), .str ((nmsOf R).getD (plAt H3 t) "")]) := fun t ht => by
        obtain ⟨k, hk⟩ := List.getElem?_of_mem (hp'.mem_iff.mp ht)
        rw [hpl k t hk]
        exact hxs3 k t hk
      have hjs : (ts'.map (plAt H3)).Pairwise fun a b => -((course R ((nmsOf R).getD a "")).length : Int) * 100 + (a : Int) ≤ -((course R ((nmsOf R).getD b "")).length : Int) * 100 + (b : Int) := by
        rw [List.pairwise_map] at hord ⊢
        refine List.Pairwise.imp_of_mem (fun {t t'} ht ht' h => ?_) hord
        exact h t t' (plAt H3 t : Int) (plAt H3 t' : Int) rfl rfl (hH t ht) (hH t' ht')
      have hnm : nmsOf R = (List.range R.length).map fun k => (nmsOf R).getD k "" := by
        have := list_getD (nmsOf R)
        rw [hnl] at this
        exact this
      have hd : ∀ j, j < R.length → 1 ≤ (course R ((nmsOf R).getD j "")).length ∧ (course R ((nmsOf R).getD j "")).length ≤ R.length := fun j hj => by
        have hm : (nmsOf R).getD j "" ∈ nmsOf R := by
          rw [List.getD_eq_getElem?_getD, List.getElem?_eq_getElem (by rw [hnl]; exact hj)]
          exact List.getElem_mem _
        obtain ⟨m, c⟩ := course_is hG hm
        rw [c.eq, List.length_map, List.length_range]
        exact ⟨c.one, c.most⟩
      have hjeq := deep_eq (n := R.length) (d := fun j => (course R ((nmsOf R).getD j "")).length) (by omega) hd hjp hjs
      have hz : ts'.map (fun t => V.str ((nmsOf R).getD (plAt H3 t) "")) = (deepR R).map V.str := by
        rw [← deep_names (nm := fun k => (nmsOf R).getD k "") hnm, ← hjeq, List.map_map, List.map_map]
        rfl
      have s4 : Same H3 (upd H3 p (.lst (ts'.map V.ref))) := same_upd np
      refine ⟨_, rfl, p, rfl, ⟨ts'.map V.ref, .inl (.inl upd_same)⟩, fun L hL => ?_⟩
      have s5 : Same (upd H3 p (.lst (ts'.map V.ref))) (upd (upd H3 p (.lst (ts'.map V.ref))) L (.lst [])) := same_upd hL
      have hlen' : ts'.length = R.length := by rw [hp'.length_eq, hn]
      refine lc_list (K := K) (a := p) (xs := ts'.map V.ref) (fun i H4 => Same (upd H3 p (.lst (ts'.map V.ref))) H4 ∧ H4 L = some (.lst ((ts'.take i).map fun t => V.str ((nmsOf R).getD (plAt H3 t) "")))) ⟨s5, by rw [upd_same, List.take_zero]; rfl⟩ (fun i H4 hi h => .inl (.inl (h.1 _ _ upd_same))) ?_ ?_
      · rintro i x H4 hx ⟨s6, hz4⟩
        rw [List.getElem?_map] at hx
        obtain ⟨t, ht, rfl⟩ := Option.map_eq_some_iff.mp hx
        have h1 := hH t (List.mem_of_getElem? ht)
        have hi : i < ts'.length := (List.getElem?_eq_some_iff.mp ht).1
        refine ⟨rfl, ?_⟩
        unfold tYes
        refine iteT ?_
        refine ⟨_, rfl, t, _, _, _, rfl, rfl, .inl (.inl (s6 _ _ (s4 _ _ h1))), atI_nat (j := 2) rfl, _, hz4, small1000 (by rw [List.length_map, List.length_take]; omega), fun b o hb => ?_, ?_⟩
        · rw [upd_ne (ne_of_none hb hL)]
          exact s6 b o hb
        · rw [upd_same, List.take_add_one, ht, List.map_append]
          rfl
      · rintro H4 ⟨s6, hz4⟩
        rw [List.length_map, List.take_length, hz] at hz4
        refine ⟨L, _, rfl, .inl ⟨.inl (.inl hz4), fun t nt => ?_⟩⟩
        have s7 : Same H (upd H4 t (.tup ((deepR R).map V.str))) := ((s3.trans s4).trans s6).trans (same_upd nt)
        exact k _ t s7 (((s3.trans s4).trans s6).free nt) upd_same
end
end K0
end
section
set_option Elab.async false
set_option linter.all false
set_option maxRecDepth 100000
namespace K0
open PySem PySem.Spec PyProof.Rows L2
abbrev sInit : Stmt := inClass sRiver 0
abbrev sEq : Stmt := inClass sRiver 1
abbrev sLen : Stmt := inClass sRiver 2
abbrev sIter : Stmt := inClass sRiver 3
abbrev sContains : Stmt := inClass sRiver 4
abbrev sRows : Stmt := inClass sRiver 5
abbrev sBelow : Stmt := inClass sRiver 6
abbrev sAboveM : Stmt := inClass sRiver 7
abbrev sCourseM : Stmt := inClass sRiver 8
abbrev sDepth : Stmt := inClass sRiver 9
abbrev sUpM : Stmt := inClass sRiver 10
/-- the class, as the top has made it -/
structure Rv (K : PySem.W.Frag) (mg : Str → Option Value) (C : Addr) : Prop where
  cl : Cls K C
  weirs : NoAttr K C "weirs"
  _rows : NoAttr K C "_rows"
  _below : NoAttr K C "_below"
  _courses : NoAttr K C "_courses"
  _above : NoAttr K C "_above"
  _upstream : NoAttr K C "_upstream"
  _deepest_first : NoAttr K C "_deepest_first"
  mgC : mg "River" = some (.ref C)
/-- the fields, in the order in which they are stored -/
def f1 (a : V) : List (Str × V) := putF "weirs" a []
def f2 (a b : V) : List (Str × V) := putF "_rows" b (f1 a)
def f3 (a b c : V) : List (Str × V) := putF "_below" c (f2 a b)
def f4 (a b c d : V) : List (Str × V) := putF "_courses" d (f3 a b c)
def f5 (a b c d e : V) : List (Str × V) := putF "_above" e (f4 a b c d)
def f6 (a b c d e g : V) : List (Str × V) := putF "_upstream" g (f5 a b c d e)
def f7 (a b c d e g h : V) : List (Str × V) := putF "_deepest_first" h (f6 a b c d e g)
theorem putF_len (n : Str) (v : V) : ∀ fs : List (Str × V), (putF n v fs).length ≤ fs.length + 1
  | [] => Nat.le_refl _
  | q :: r => by
    have ih := putF_len n v r
    show (if q.1 = n then (q.1, v) :: r else q :: putF n v r).length ≤ _
    split
    · simp
    · simp only [List.length_cons]; omega
section
variable (a b c d e g h : V)
theorem l1 : (f1 a).length ≤ 1 := putF_len _ _ _
theorem l2 : (f2 a b).length ≤ 2 := Nat.le_trans (putF_len _ _ _) (Nat.succ_le_succ (l1 a))
theorem l3 : (f3 a b c).length ≤ 3 := Nat.le_trans (putF_len _ _ _) (Nat.succ_le_succ (l2 a b))
theorem l4 : (f4 a b c d).length ≤ 4 := Nat.le_trans (putF_len _ _ _) (Nat.succ_le_succ (l3 a b c))
theorem l5 : (f5 a b c d e).length ≤ 5 := Nat.le_trans (putF_len _ _ _) (Nat.succ_le_succ (l4 a b c d))
theorem l6 : (f6 a b c d e g).length ≤ 6 := Nat.le_trans (putF_len _ _ _) (Nat.succ_le_succ (l5 a b c d e))
theorem g3b : (f3 a b c).lookup ("_below" : Str) = some c := by rw [f3, lookup_putF, if_pos rfl]
theorem g4b : (f4 a b c d).lookup ("_below" : Str) = some c := by rw [f4, lookup_putF, if_neg (by decide +kernel), g3b]
theorem g4w : (f4 a b c d).lookup ("weirs" : Str) = some a := by
  rw [f4, lookup_putF, if_neg (by decide +kernel), f3, lookup_putF, if_neg (by decide +kernel), f2, lookup_putF, if_neg (by decide +kernel), f1, lookup_putF, if_pos rfl]
theorem g4c : (f4 a b c d).lookup ("_courses" : Str) = some d := by rw [f4, lookup_putF, if_pos rfl]
theorem g5w : (f5 a b c d e).lookup ("weirs" : Str) = some a := by rw [f5, lookup_putF, if_neg (by decide +kernel), g4w]
theorem g5c : (f5 a b c d e).lookup ("_courses" : Str) = some d := by rw [f5, lookup_putF, if_neg (by decide +kernel), g4c]
theorem g6c : (f6 a b c d e g).lookup ("_courses" : Str) = some d := by rw [f6, lookup_putF, if_neg (by decide +kernel), g5c]
theorem g7w : (f7 a b c d e g h).lookup ("weirs" : Str) = some a := by rw [f7, lookup_putF, if_neg (by decide +kernel), f6, lookup_putF, if_neg (by decide +kernel), g5w]
theorem g7r : (f7 a b c d e g h).lookup ("_rows" : Str) = some b := by
  rw [f7, lookup_putF, if_neg (by decide +kernel), f6, lookup_putF, if_neg (by decide +kernel), f5, lookup_putF, if_neg (by decide +kernel), f4, lookup_putF, if_neg (by decide +kernel), f3, lookup_putF, if_neg (by decide +kernel), f2, lookup_putF, if_pos rfl]
theorem g7b : (f7 a b c d e g h).lookup ("_below" : Str) = some c := by
  rw [f7, lookup_putF, if_neg (by decide +kernel), f6, lookup_putF, if_neg (by decide +kernel), f5, lookup_putF, if_neg (by decide +kernel), g4b]
theorem g7c : (f7 a b c d e g h).lookup ("_courses" : Str) = some d := by rw [f7, lookup_putF, if_neg (by decide +kernel), g6c]
theorem g7a : (f7 a b c d e g h).lookup ("_above" : Str) = some e := by
  rw [f7, lookup_putF, if_neg (by decide +kernel), f6, lookup_putF, if_neg (by decide +kernel), f5, lookup_putF, if_pos rfl]
theorem g7u : (f7 a b c d e g h).lookup ("_upstream" : Str) = some g := by
  rw [f7, lookup_putF, if_neg (by decide +kernel), f6, lookup_putF, if_pos rfl]
theorem g7no {m : Str} (h1 : ¬ m = "weirs") (h2 : ¬ m = "_rows") (h3 : ¬ m = "_below") (h4 : ¬ m = "_courses") (h5 : ¬ m = "_above") (h6 : ¬ m = "_upstream") (h7 : ¬ m = "_deepest_first") : (f7 a b c d e g h).lookup m = none := by
  rw [f7, lookup_putF, if_neg h7, f6, lookup_putF, if_neg h6, f5, lookup_putF, if_neg h5, f4, lookup_putF, if_neg h4, f3, lookup_putF, if_neg h3, f2, lookup_putF, if_neg h2, f1, lookup_putF, if_neg h1]
  rfl
end
abbrev namesOf (AR : List (Addr × Row)) : List Str := nmsOf (rowsOf AR)
/-- a tuple of the weirs, the deepest first -/
def DeepAt (H : Hp) (o : V) (R : List Row) : Prop := ∃ t, o = .ref t ∧ H t = some (.tup ((deepR R).map V.str))
theorem DeepAt.to {H H' : Hp} {o : V} {R : List Row} (d : DeepAt H o R) (h : ∀ t, H t = some (.tup ((deepR R).map V.str)) → H' t = some (.tup ((deepR R).map V.str))) : DeepAt H' o R := by
  obtain ⟨t, e, q⟩ := d
  exact ⟨t, e, h t q⟩
/-- a river of these rows stands at p -/
structure RivAt (C : Addr) (H : Hp) (p : Addr) (AR : List (Addr × Row)) : Prop where
  ex : ∃ (dx tw tr db dc da du : Addr) (o : V), H p = some (.ins C dx (f7 (.ref tw) (.ref tr) (.ref db) (.ref dc) (.ref da) (.ref du) o)) ∧
    H tw = some (.tup ((namesOf AR).map V.str)) ∧ H tr = some (.tup (AR.map fun q => V.ref q.1)) ∧ (∀ q ∈ AR, H q.1 = some (.tup [.str q.2.1, .str q.2.2])) ∧ H db = some (.dK (belowK (rowsOf AR))) ∧
    TupsAt H dc (namesOf AR) (course (rowsOf AR)) ∧ TupsAt H da (namesOf AR ++ [("sea" : Str)]) (aboveR (rowsOf AR)) ∧ TupsAt H du (namesOf AR) (upR (rowsOf AR)) ∧ DeepAt H o (rowsOf AR)
theorem Same.riv {C : Addr} {H H' : Hp} {p : Addr} {AR : List (Addr × Row)} (s : Same H H') (r : RivAt C H p AR) : RivAt C H' p AR := by
  obtain ⟨dx, tw, tr, db, dc, da, du, o, h1, h2, h3, h4, h5, h6, h7, h8, h9⟩ := r.ex
  exact ⟨dx, tw, tr, db, dc, da, du, o, s _ _ h1, s _ _ h2, s _ _ h3, fun q hq => s _ _ (h4 q hq), s _ _ h5, h6.same s, h7.same s, h8.same s, h9.to fun _ e => s _ _ e⟩
abbrev scInit_N : List Str := ["self", "rows", "row", "weir", "low"]
abbrev scInit_S : Stmt := sInit
theorem scInit : FnScope scInit_N ["self", "rows"] (defScope sInit) := ⟨rfl, rfl, rfl, by decide +kernel, rfl, by decide +kernel, by decide +kernel⟩
def spInit (C : Addr) : Sp := fun vs H Q _ => ∃ (p l dx : Addr) (AR : List (Addr × Row)), vs = [.ref p, .ref l] ∧ H p = some (.ins C dx []) ∧ RowsAt H l AR ∧ GoodRows (rowsOf AR) ∧
  ∀ H', Upto p H H' → RivAt C H' p AR → Q .non H'
section
variable {P : Program} {w : World} {K : PySem.W.Frag} {mg : Str → Option Value} {base : Heap} {tS tM tL : Tok}
/-- the functions that a river's making calls -/
structure Mf (K : PySem.W.Frag) (mg : Str → Option Value) : Prop where
  isName : ∃ f fd, FnP K "is_name" sIsName f fd ∧ mg "is_name" = some (.ref f)
  isRow : ∃ f fd, FnP K "_is_row" sIsRow f fd ∧ mg "is_row_rivers" = some (.ref f)
  needRows : ∃ f fd, FnP K "_need_rows" sNeedRows f fd ∧ mg "need_rows_rivers" = some (.ref f)
  course : ∃ f fd, FnP K "_course" sCourse f fd ∧ mg "_course" = some (.ref f)
  find : ∃ f fd, FnP K "_find_courses" sFind f fd ∧ mg "_find_courses" = some (.ref f)
  above : ∃ f fd, FnP K "_directly_above" sAbove f fd ∧ mg "_directly_above" = some (.ref f)
  up : ∃ f fd, FnP K "_find_upstream" sUp f fd ∧ mg "_find_upstream" = some (.ref f)
  order : ∃ f fd, FnP K "_order_by_depth" sOrder f fd ∧ mg "_order_by_depth" = some (.ref f)
theorem ok_init {f Cr : Addr} {fd : FuncData} (F : FnM K "__init__" "River.__init__" sInit f fd) (M : Mf K mg) (T : Rv K mg Cr) (B : Bl mg) (C : Gc mg tS tM tL) : FnOk P w K mg base CX0 4 f fd ["self", "rows"] (spInit Cr) := by
  obtain ⟨a1, d1, F1, m1⟩ := M.isName
  obtain ⟨a2, d2, F2, m2⟩ := M.isRow
  obtain ⟨a3, d3, F_need_rows, g_need_rows⟩ := M.needRows
  obtain ⟨a4, d4, F4, m4⟩ := M.course
  obtain ⟨a5, d5, F_find_courses, g_find_courses⟩ := M.find
  obtain ⟨a6, d6, F_directly_above, g_directly_above⟩ := M.above
  obtain ⟨a7, d7, F_find_upstream, g_find_upstream⟩ := M.up
  obtain ⟨a8, d8, F_order_by_depth, g_order_by_depth⟩ := M.order
  have G_need_rows : FnOk P w K mg base CX0 3 a3 d3 ["rows"] (spNeedRows K) := ok_needrows F_need_rows F1 m1 F2 m2 B C
  have b_need_rows : Binds K d3 ["rows"] [] := F_need_rows.bindsN fun _ _ _ _ _ _ us hl => match us, hl with | [_], _ => rfl
  have G_find_courses : FnOk P w K mg base CX0 2 a5 d5 ["below"] (spFind K) := ok_find F_find_courses F4 m4 B C
  have b_find_courses : Binds K d5 ["below"] [] := F_find_courses.bindsN fun _ _ _ _ _ _ us hl => match us, hl with | [_], _ => rfl
  have G_directly_above : FnOk P w K mg base CX0 1 a6 d6 ["below", "low"] spAbove := ok_above F_directly_above B
  have b_directly_above : Binds K d6 ["below", "low"] [] := F_directly_above.bindsN fun _ _ _ _ _ _ us hl => match us, hl with | [_, _], _ => rfl
  have G_find_upstream : FnOk P w K mg base CX0 1 a7 d7 ["courses", "low"] spUp := ok_up F_find_upstream B
  have b_find_upstream : Binds K d7 ["courses", "low"] [] := F_find_upstream.bindsN fun _ _ _ _ _ _ us hl => match us, hl with | [_, _], _ => rfl
  have G_order_by_depth : FnOk P w K mg base CX0 1 a8 d8 ["courses"] spOrder := ok_order F_order_by_depth B
  have b_order_by_depth : Binds K d8 ["courses"] [] := F_order_by_depth.bindsN fun _ _ _ _ _ _ us hl => match us, hl with | [_], _ => rfl
  refine F.ok scInit (fun vs H Q E h => ?_) (fun cdv A outer s H vs Q E hr h => ?_)
  · obtain ⟨p, l, dx, AR, rfl, _⟩ := h
    rfl
  · obtain ⟨p, l, dx, AR, rfl, hp, hR, hG, k⟩ := h
    have hu := hu_of hr
    have hr_need_rows : Room 3 _ := hr.mono (by decide)
    have hr_find_courses : Room 2 _ := hr.mono (by decide)
    have hr_directly_above : Room 1 _ := hr.mono (by decide)
    have hr_find_upstream : Room 1 _ := hr.mono (by decide)
    have hr_order_by_depth : Room 1 _ := hr.mono (by decide)
    refine ⟨_, PSs.nox (pss_cons
      (ps_expr (pe_call G_need_rows hr_need_rows (by rfl) g_need_rows F_need_rows.kp b_need_rows .nil pass0 (pa_cons (pv 1) pa_nil)))
      (pss_cons
      (ps_fld (pv 0) (pe_callTy (tupleK (K := K)) (by rfl) B.tuple (by decide +kernel) (pa_cons (pe_lc (own := [("row", 2)]) (g := gName 2) (tt := tYes) (by rfl) scInit.nd (pi_list (pv 1)) (blkOk_by (own := [("row", 2)]) (N := scInit_N) (sc := defScope scInit_S) (by decide +kernel)) (fun _ _ _ _ _ => (pg_name (i := 2) scInit.nd rfl (Or.inl rfl))) (fun _ _ _ _ _ => pts_nil) (fun _ _ _ _ _ => (pe_ix (ixTK (K := K)) (pv 2) pe_int (fun _ _ => rfl)))) pa_nil)) rfl)
      (pss_cons
      (ps_fld (pv 0) (pe_callTy (tupleK (K := K)) (by rfl) B.tuple (by decide +kernel) (pa_cons (pv 1) pa_nil)) rfl)
      (pss_cons
      (ps_fld (pv 0) (pe_dc (own := [("weir", 3), ("low", 4)]) (tt := tYes) (by rfl) scInit.nd (pi_list (pv 1)) (blkOk_by (own := [("weir", 3), ("low", 4)]) (N := scInit_N) (sc := defScope scInit_S) (by decide +kernel)) (fun _ _ _ _ _ => (tgK (K := K) (n := 2) (by rfl) (pgs_cons (pg_name (i := 3) scInit.nd rfl (Or.inl rfl)) (pgs_cons (pg_name (i := 4) scInit.nd rfl (Or.inl rfl)) pgs_nil)))) (fun _ _ _ _ _ => pts_nil) (fun _ _ _ _ _ => (pv 3)) (fun _ _ _ _ _ => (pv 4))) rfl)
      (pss_cons
      (ps_fld (pv 0) (pe_call G_find_courses hr_find_courses (by rfl) g_find_courses F_find_courses.kp b_find_courses .nil pass0 (pa_cons (fldK (K := K) (pv 0) rfl) pa_nil)) rfl)
      (pss_cons
      (ps_fld (pv 0) (pe_dc (own := [("low", 4)]) (g := gName 4) (tt := tYes) (by rfl) scInit.nd (pi_tup (pe_op op_catT (fldK (K := K) (pv 0) rfl) (pe_tup (pa_cons (pe_glob (v := .str "sea") (by rfl) C.SEA ⟨_, rfl⟩) pa_nil)))) (blkOk_by (own := [("low", 4)]) (N := scInit_N) (sc := defScope scInit_S) (by decide +kernel)) (fun _ _ _ _ _ => (pg_name (i := 4) scInit.nd rfl (Or.inl rfl))) (fun _ _ _ _ _ => pts_nil) (fun _ _ _ _ _ => (pv 4)) (fun _ _ _ _ _ => (pe_call G_directly_above hr_directly_above (by rfl) g_directly_above F_directly_above.kp b_directly_above .nil pass0 (pa_cons (fldK (K := K) (pv 0) rfl) (pa_cons (pv 4) pa_nil))))) rfl)
      (pss_cons
      (ps_fld (pv 0) (pe_dc (own := [("weir", 3)]) (g := gName 3) (tt := tYes) (by rfl) scInit.nd (pi_tup (fldK (K := K) (pv 0) rfl)) (blkOk_by (own := [("weir", 3)]) (N := scInit_N) (sc := defScope scInit_S) (by decide +kernel)) (fun _ _ _ _ _ => (pg_name (i := 3) scInit.nd rfl (Or.inl rfl))) (fun _ _ _ _ _ => pts_nil) (fun _ _ _ _ _ => (pv 3)) (fun _ _ _ _ _ => (pe_call G_find_upstream hr_find_upstream (by rfl) g_find_upstream F_find_upstream.kp b_find_upstream .nil pass0 (pa_cons (fldK (K := K) (pv 0) rfl) (pa_cons (pv 3) pa_nil))))) rfl)
      (pss_one
      (ps_fld (pv 0) (pe_call G_order_by_depth hr_order_by_depth (by rfl) g_order_by_depth F_order_by_depth.kp b_order_by_depth .nil pass0 (pa_cons (fldK (K := K) (pv 0) rfl) pa_nil)) rfl))))))))), ?_⟩
    have hins : ∀ {o : HO} {a : Addr} {H' : Hp} {fs : List (Str × V)}, H' p = some (.ins Cr dx fs) → H' a = some o → (∀ z1 z2 z3, o ≠ .ins z1 z2 z3) → a ≠ p := fun h1 h2 n => ne_of h2 h1 (n _ _ _)
    have tupsU : ∀ {H1 H2 : Hp} {fs : List (Str × V)} {c : Addr} {ns : List Str} {g : Str → List Str}, H1 p = some (.ins Cr dx fs) → Upto p H1 H2 → TupsAt H1 c ns g → TupsAt H2 c ns g := fun h1 u t => by
      obtain ⟨ta, q1, q2⟩ := t.ex
      exact ⟨ta, u _ _ q1 (hins h1 q1 (fun _ _ _ z => by cases z)), fun x hx => (q2 x hx).to fun v e _ _ _ n4 _ => u _ _ e (ne_of e h1 (n4 _ _ _))⟩
    have hRm := hG.most
    have hAl : (rowsOf AR).length = AR.length := List.length_map _
    have hnl : (namesOf AR).length = AR.length := nmlen AR
    have hnd := hG.nm.nd
    have rowat : ∀ {i : Nat} (hi : i < AR.length), (namesOf AR)[i]? = some AR[i].2.1 ∧ lowR (rowsOf AR) AR[i].2.1 = AR[i].2.2 := fun {i} hi => by
      refine ⟨?_, low_at hnd (List.mem_map.mpr ⟨_, List.getElem_mem hi, rfl⟩)⟩
      show (((AR.map (·.2)).map (·.1)))[i]? = _
      rw [List.getElem?_map, List.getElem?_map, List.getElem?_eq_getElem hi]
      rfl
    -- _need_rows(rows)
    refine ⟨_, rfl, l, AR, rfl, hR, hG, fun H1 s1 => ?_⟩
    have p1 := s1 _ _ hp
    have R1 := hR.same s1
    -- self.weirs
    refine ⟨_, rfl, l, rfl, ⟨_, .inl (.inl R1.lst)⟩, fun D hD => ?_⟩
    have sD : Same H1 (upd H1 D (.lst [])) := same_upd hD
    refine lc_list (K := K) (a := l) (xs := AR.map fun q => V.ref q.1) (fun i H2 => Same H1 H2 ∧ H2 D = some (.lst (((namesOf AR).take i).map V.str))) ⟨sD, by rw [upd_same, List.take_zero]; rfl⟩ (fun i H2 hi h => .inl (.inl (h.1 _ _ R1.lst))) ?_ ?_
    · rintro i x H2 hx ⟨s2, hl⟩
      have hi : i < AR.length := by
        have := (List.getElem?_eq_some_iff.mp hx).1
        rw [List.length_map] at this
        exact this
      have ex := row_at hx hi
      subst ex
      refine ⟨rfl, ?_⟩
      unfold tYes
      refine iteT ?_
      refine ⟨_, rfl, AR[i].1, _, _, _, rfl, rfl, .inl (.inl (s2 _ _ (R1.tup _ (List.getElem_mem hi)))), atI_nat (j := 0) rfl, _, hl, ?_, fun b o hb => ?_, ?_⟩
      · rw [List.length_map, List.length_take]
        exact small1000 (by omega)
      · rw [upd_ne (ne_of_none hb hD)]
        exact s2 b o hb
      · rw [upd_same, List.take_add_one, (rowat hi).1, List.map_append]
        rfl
    rintro H2 ⟨s2, hl⟩
    rw [List.take_of_length_le (by rw [hnl, List.length_map]; exact Nat.le_refl _)] at hl
    refine ⟨D, _, rfl, .inl ⟨.inl (.inl hl), fun tw nw => ?_⟩⟩
    have s3 : Same H (upd H2 tw (.tup ((namesOf AR).map V.str))) := (s1.trans s2).trans (same_upd nw)
    have w3 : (upd H2 tw (.tup ((namesOf AR).map V.str))) tw = some (.tup ((namesOf AR).map V.str)) := upd_same
    generalize upd H2 tw (.tup ((namesOf AR).map V.str)) = H3 at s3 w3
    have p3 := s3 _ _ hp
    refine ⟨_, rfl, p, Cr, dx, _, rfl, p3, T.cl, T.weirs, by show 0 < 1000; decide, ?_⟩
    have u4 : Upto p H (upd H3 p (.ins Cr dx (f1 (.ref tw)))) := (Upto.of s3).trans Upto.at_
    have w4 : (upd H3 p (.ins Cr dx (f1 (.ref tw)))) tw = some (.tup ((namesOf AR).map V.str)) := by
      rw [upd_ne (hins p3 w3 (fun _ _ _ z => by cases z))]
      exact w3
    have p4 : (upd H3 p (.ins Cr dx (f1 (.ref tw)))) p = some (.ins Cr dx (f1 (.ref tw))) := upd_same
    show tSeq _ _ _ _ (upd H3 p (.ins Cr dx (f1 (.ref tw))))
    generalize upd H3 p (.ins Cr dx (f1 (.ref tw))) = H4 at u4 w4 p4
    have R4 : RowsAt H4 l AR := ⟨u4 _ _ hR.lst (hins hp hR.lst (fun _ _ _ z => by cases z)), fun q hq => u4 _ _ (hR.tup q hq) (hins hp (hR.tup q hq) (fun _ _ _ z => by cases z))⟩
    -- self._rows
    refine ⟨_, rfl, l, _, rfl, .inl ⟨.inl (.inl R4.lst), fun tr nr => ?_⟩⟩
    have keepP : ∀ {Hk : Hp} {fs : List (Str × V)} {o X : HO} {a : Addr}, Hk p = some (.ins Cr dx fs) → Hk a = some o → (∀ z1 z2 z3, o ≠ .ins z1 z2 z3) → (upd Hk p X) a = some o := fun h1 h2 n => by
      rw [upd_ne (hins h1 h2 n)]
      exact h2
    have rowsU : ∀ {H1 H2 : Hp}, Upto p H H2 → RowsAt H2 l AR := fun u => ⟨u _ _ hR.lst (hins hp hR.lst (fun _ _ _ z => by cases z)), fun q hq => u _ _ (hR.tup q hq) (hins hp (hR.tup q hq) (fun _ _ _ z => by cases z))⟩
    have s5 : Same H4 (upd H4 tr (.tup (AR.map fun q => V.ref q.1))) := same_upd nr
    have r5 : (upd H4 tr (.tup (AR.map fun q => V.ref q.1))) tr = some (.tup (AR.map fun q => V.ref q.1)) := upd_same
    generalize upd H4 tr (.tup (AR.map fun q => V.ref q.1)) = H5 at s5 r5
    have p5 := s5 _ _ p4
    have w5 := s5 _ _ w4
    refine ⟨_, rfl, p, Cr, dx, _, rfl, p5, T.cl, T._rows, by have := l1 (.ref tw); omega, ?_⟩
    have u6 : Upto p H (upd H5 p (.ins Cr dx (f2 (.ref tw) (.ref tr)))) := (u4.trans (Upto.of s5)).trans Upto.at_
    have w6 : (upd H5 p (.ins Cr dx (f2 (.ref tw) (.ref tr)))) tw = _ := keepP p5 w5 (fun _ _ _ z => by cases z)
    have r6 : (upd H5 p (.ins Cr dx (f2 (.ref tw) (.ref tr)))) tr = _ := keepP p5 r5 (fun _ _ _ z => by cases z)
    have p6 : (upd H5 p (.ins Cr dx (f2 (.ref tw) (.ref tr)))) p = some (.ins Cr dx (f2 (.ref tw) (.ref tr))) := upd_same
    show tSeq _ _ _ _ (upd H5 p (.ins Cr dx (f2 (.ref tw) (.ref tr))))
    generalize upd H5 p (.ins Cr dx (f2 (.ref tw) (.ref tr))) = H6 at u6 w6 r6 p6
    have R6 : RowsAt H6 l AR := rowsU (H1 := H6) u6
    -- self._below
    refine ⟨_, rfl, l, rfl, ⟨_, .inl (.inl R6.lst)⟩, fun db ndb => ?_⟩
    refine dc_it (walk_list (K := K) (a := l) (xs := AR.map fun q => V.ref q.1)) (fun i H7 => Same H6 H7 ∧ H7 db = some (.dK (kmap (fun y => .str (lowR (rowsOf AR) y)) ((namesOf AR).take i)))) ⟨same_upd ndb, by rw [upd_same, List.take_zero]; rfl⟩ (fun i H7 hi h => .inl (.inl (h.1 _ _ R6.lst))) ?_ ?_
    · rintro i x H7 H7' hi ⟨s7, hb7⟩ ⟨e, hx⟩
      subst e
      rw [List.length_map] at hi
      have ex := row_at hx hi
      subst ex
      obtain ⟨hn, hlow⟩ := rowat hi
      refine ⟨AR[i].1, _, rfl, .inl (.inl (s7 _ _ (R6.tup _ (List.getElem_mem hi)))), rfl, _, _, rfl, _, _, rfl, rfl, rfl, ?_⟩
      unfold tYes
      refine iteT ?_
      refine ⟨_, rfl, _, rfl, _, Sum.inr AR[i].2.1, rfl, hb7, ?_, fun b o hb => ?_, ?_⟩
      · rw [kmap_len, List.length_take]
        exact small1000 (by omega)
      · rw [upd_ne (ne_of_none hb ndb)]
        exact s7 b o hb
      · have hput := kmap_put (f := fun y => V.str (lowR (rowsOf AR) y)) (nodup_take hnd hn)
        rw [hlow] at hput
        rw [upd_same, hput, List.take_add_one, hn]
        rfl
    rintro H7 ⟨s7, hb7⟩
    rw [List.take_of_length_le (by rw [hnl, List.length_map]; exact Nat.le_refl _)] at hb7
    have p7 := s7 _ _ p6
    have w7 := s7 _ _ w6
    have r7 := s7 _ _ r6
    refine ⟨_, rfl, p, Cr, dx, _, rfl, p7, T.cl, T._below, by have := l2 (.ref tw) (.ref tr); omega, ?_⟩
    have u8 : Upto p H (upd H7 p (.ins Cr dx (f3 (.ref tw) (.ref tr) (.ref db)))) := (u6.trans (Upto.of s7)).trans Upto.at_
    have w8 : (upd H7 p (.ins Cr dx (f3 (.ref tw) (.ref tr) (.ref db)))) tw = _ := keepP p7 w7 (fun _ _ _ z => by cases z)
    have r8 : (upd H7 p (.ins Cr dx (f3 (.ref tw) (.ref tr) (.ref db)))) tr = _ := keepP p7 r7 (fun _ _ _ z => by cases z)
    have b8 : (upd H7 p (.ins Cr dx (f3 (.ref tw) (.ref tr) (.ref db)))) db = _ := keepP p7 hb7 (fun _ _ _ z => by cases z)
    have p8 : (upd H7 p (.ins Cr dx (f3 (.ref tw) (.ref tr) (.ref db)))) p = some (.ins Cr dx (f3 (.ref tw) (.ref tr) (.ref db))) := upd_same
    show tSeq _ _ _ _ (upd H7 p (.ins Cr dx (f3 (.ref tw) (.ref tr) (.ref db))))
    generalize upd H7 p (.ins Cr dx (f3 (.ref tw) (.ref tr) (.ref db))) = H8 at u8 w8 r8 b8 p8
    -- self._courses
    refine ⟨_, rfl, p, Cr, dx, _, _, rfl, p8, T.cl, T._below, g3b _ _ _, db, rowsOf AR, rfl, b8, hG, fun H9 dc s9 ndc c9 => ?_⟩
    have p9 := s9 _ _ p8
    refine ⟨_, rfl, p, Cr, dx, _, rfl, p9, T.cl, T._courses, by have := l3 (.ref tw) (.ref tr) (.ref db); omega, ?_⟩
    have ua : Upto p H (upd H9 p (.ins Cr dx (f4 (.ref tw) (.ref tr) (.ref db) (.ref dc)))) := (u8.trans (Upto.of s9)).trans Upto.at_
    have wa : (upd H9 p (.ins Cr dx (f4 (.ref tw) (.ref tr) (.ref db) (.ref dc)))) tw = _ := keepP p9 (s9 _ _ w8) (fun _ _ _ z => by cases z)
    have ra : (upd H9 p (.ins Cr dx (f4 (.ref tw) (.ref tr) (.ref db) (.ref dc)))) tr = _ := keepP p9 (s9 _ _ r8) (fun _ _ _ z => by cases z)
    have ba : (upd H9 p (.ins Cr dx (f4 (.ref tw) (.ref tr) (.ref db) (.ref dc)))) db = _ := keepP p9 (s9 _ _ b8) (fun _ _ _ z => by cases z)
    have ca : TupsAt (upd H9 p (.ins Cr dx (f4 (.ref tw) (.ref tr) (.ref db) (.ref dc)))) dc (namesOf AR) (course (rowsOf AR)) := tupsU p9 Upto.at_ c9
    have pa : (upd H9 p (.ins Cr dx (f4 (.ref tw) (.ref tr) (.ref db) (.ref dc)))) p = some (.ins Cr dx (f4 (.ref tw) (.ref tr) (.ref db) (.ref dc))) := upd_same
    show tSeq _ _ _ _ (upd H9 p (.ins Cr dx (f4 (.ref tw) (.ref tr) (.ref db) (.ref dc))))
    generalize upd H9 p (.ins Cr dx (f4 (.ref tw) (.ref tr) (.ref db) (.ref dc))) = Ha at ua wa ra ba ca pa
    -- self._above
    refine ⟨_, rfl, p, Cr, dx, _, _, rfl, pa, T.cl, T.weirs, g4w _ _ _ _, by show 1 ≤ sizeLine; decide, fun q nq => ?_⟩
    have sq : Same Ha (upd Ha q (.tup [.str "sea"])) := same_upd nq
    have hq1 : (upd Ha q (.tup [.str "sea"])) q = some (.tup [.str "sea"]) := upd_same
    generalize upd Ha q (.tup [.str "sea"]) = Hb at sq hq1
    have hne : (namesOf AR).map V.str ≠ [] := fun z => by
      have z2 := congrArg List.length z
      rw [List.length_map, hnl] at z2
      have := hG.one
      have z3 : AR.length = 0 := z2
      omega
    refine ⟨tw, q, _, _, rfl, rfl, .inl (.inl (sq _ _ wa)), .inl (.inl hq1), hne, ?_, (fun z => nomatch z), fun _ tz nz => ?_⟩
    · rw [List.length_map, hnl]
      exact Nat.le_of_lt (small1000 (by show AR.length + 1 ≤ 1000; omega))
    have sz : Same Ha (upd Hb tz (.tup ((namesOf AR).map V.str ++ [.str "sea"]))) := sq.trans (same_upd nz)
    have hz1 : (upd Hb tz (.tup ((namesOf AR).map V.str ++ [.str "sea"]))) tz = some (.tup ((namesOf AR ++ [("sea" : Str)]).map V.str)) := by
      rw [upd_same, List.map_append]
      rfl
    have ezz : (namesOf AR).map V.str ++ [.str "sea"] = (namesOf AR ++ [("sea" : Str)]).map V.str := by
      rw [List.map_append]
      rfl
    generalize upd Hb tz (.tup ((namesOf AR).map V.str ++ [.str "sea"])) = Hc at sz hz1
    refine ⟨tz, rfl, ⟨_, .inl (.inl hz1)⟩, fun da nda => ?_⟩
    have nsea : (namesOf AR ++ [("sea" : Str)]).Nodup := nd_snoc hnd fun z => hG.nm.sea _ z rfl
    refine dc_it (walk_tup (K := K) (a := tz) (xs := (namesOf AR ++ [("sea" : Str)]).map V.str)) (fun i Hd => Same Hc Hd ∧ TupsAt Hd da ((namesOf AR ++ [("sea" : Str)]).take i) (aboveR (rowsOf AR))) ⟨same_upd nda, ⟨fun _ => 0, by rw [upd_same, List.take_zero]; rfl, fun x hx => by rw [List.take_zero] at hx; cases hx⟩⟩ (fun i Hd hi h => .inl (.inl (h.1 _ _ hz1))) ?_ ?_
    · rintro i x Hd Hd' hi ⟨sd, Td⟩ ⟨e, hx⟩
      subst e
      rw [List.length_map] at hi
      obtain ⟨y, hy, rfl⟩ : ∃ y, (namesOf AR ++ [("sea" : Str)])[i]? = some y ∧ x = .str y := by
        rw [List.getElem?_map, List.getElem?_eq_getElem hi] at hx
        exact ⟨_, List.getElem?_eq_getElem hi, (Option.some.inj hx).symm⟩
      refine ⟨rfl, ?_⟩
      unfold tYes
      refine iteT ?_
      refine ⟨_, rfl, _, rfl, p, Cr, dx, _, _, rfl, sd _ _ (sz _ _ pa), T.cl, T._below, g4b _ _ _ _, _, rfl, db, rowsOf AR, y, rfl, sd _ _ (sz _ _ ba), hG, fun He t se nt ht => ?_⟩
      obtain ⟨ta, q1, q2⟩ := (Td.same se).ex
      refine ⟨_, Sum.inr y, rfl, q1, ?_, fun b o hb => ?_, ?_⟩
      · rw [kmap_len, List.length_take, List.length_append, hnl]
        exact small1000 (by show min i (AR.length + 1) ≤ 1000; omega)
      · rw [upd_ne (ne_of_none hb nda)]
        exact se _ _ (sd b o hb)
      · have hm := tups_more q1 q2 (nodup_take nsea hy) ht
        rw [List.take_add_one, hy]
        exact hm
    rintro Hd ⟨sd, Td⟩
    rw [List.length_map, List.take_length] at Td
    have pd := sd _ _ (sz _ _ pa)
    refine ⟨_, rfl, p, Cr, dx, _, rfl, pd, T.cl, T._above, by have := l4 (.ref tw) (.ref tr) (.ref db) (.ref dc); omega, ?_⟩
    have scd : Same Ha Hd := sz.trans sd
    have ue : Upto p H (upd Hd p (.ins Cr dx (f5 (.ref tw) (.ref tr) (.ref db) (.ref dc) (.ref da)))) := (ua.trans (Upto.of scd)).trans Upto.at_
    have we : (upd Hd p (.ins Cr dx (f5 (.ref tw) (.ref tr) (.ref db) (.ref dc) (.ref da)))) tw = _ := keepP pd (scd _ _ wa) (fun _ _ _ z => by cases z)
    have re : (upd Hd p (.ins Cr dx (f5 (.ref tw) (.ref tr) (.ref db) (.ref dc) (.ref da)))) tr = _ := keepP pd (scd _ _ ra) (fun _ _ _ z => by cases z)
    have be : (upd Hd p (.ins Cr dx (f5 (.ref tw) (.ref tr) (.ref db) (.ref dc) (.ref da)))) db = _ := keepP pd (scd _ _ ba) (fun _ _ _ z => by cases z)
    have ce := tupsU (H2 := upd Hd p (.ins Cr dx (f5 (.ref tw) (.ref tr) (.ref db) (.ref dc) (.ref da)))) pd Upto.at_ (ca.same scd)
    have ae := tupsU (H2 := upd Hd p (.ins Cr dx (f5 (.ref tw) (.ref tr) (.ref db) (.ref dc) (.ref da)))) pd Upto.at_ Td
    have pe' : (upd Hd p (.ins Cr dx (f5 (.ref tw) (.ref tr) (.ref db) (.ref dc) (.ref da)))) p = some (.ins Cr dx (f5 (.ref tw) (.ref tr) (.ref db) (.ref dc) (.ref da))) := upd_same
    show tSeq _ _ _ _ (upd Hd p (.ins Cr dx (f5 (.ref tw) (.ref tr) (.ref db) (.ref dc) (.ref da))))
    generalize upd Hd p (.ins Cr dx (f5 (.ref tw) (.ref tr) (.ref db) (.ref dc) (.ref da))) = Hf at ue we re be ce ae pe'
    -- self._upstream
    refine ⟨_, rfl, p, Cr, dx, _, _, rfl, pe', T.cl, T.weirs, g5w _ _ _ _ _, tw, rfl, ⟨_, .inl (.inl we)⟩, fun du ndu => ?_⟩
    refine dc_it (walk_tup (K := K) (a := tw) (xs := (namesOf AR).map V.str)) (fun i Hg => Same Hf Hg ∧ TupsAt Hg du ((namesOf AR).take i) (upR (rowsOf AR))) ⟨same_upd ndu, ⟨fun _ => 0, by rw [upd_same, List.take_zero]; rfl, fun x hx => by rw [List.take_zero] at hx; cases hx⟩⟩ (fun i Hg hi h => .inl (.inl (h.1 _ _ we))) ?_ ?_
    · rintro i x Hg Hg' hi ⟨sg, Tg⟩ ⟨e, hx⟩
      subst e
      rw [List.length_map] at hi
      obtain ⟨y, hy, rfl⟩ : ∃ y, (namesOf AR)[i]? = some y ∧ x = .str y := by
        rw [List.getElem?_map, List.getElem?_eq_getElem hi] at hx
        exact ⟨_, List.getElem?_eq_getElem hi, (Option.some.inj hx).symm⟩
      refine ⟨rfl, ?_⟩
      unfold tYes
      refine iteT ?_
      refine ⟨_, rfl, _, rfl, p, Cr, dx, _, _, rfl, sg _ _ pe', T.cl, T._courses, g5c _ _ _ _ _, _, rfl, dc, rowsOf AR, y, rfl, ce.same sg, hG, fun He t se nt ht => ?_⟩
      obtain ⟨ta, q1, q2⟩ := (Tg.same se).ex
      refine ⟨_, Sum.inr y, rfl, q1, ?_, fun b o hb => ?_, ?_⟩
      · rw [kmap_len, List.length_take, hnl]
        exact small1000 (by omega)
      · rw [upd_ne (ne_of_none hb ndu)]
        exact se _ _ (sg b o hb)
      · have hm := tups_more q1 q2 (nodup_take hnd hy) ht
        rw [List.take_add_one, hy]
        exact hm
    rintro Hg ⟨sg, Tg⟩
    rw [List.length_map, List.take_length] at Tg
    have pg := sg _ _ pe'
    refine ⟨_, rfl, p, Cr, dx, _, rfl, pg, T.cl, T._upstream, by have := l5 (.ref tw) (.ref tr) (.ref db) (.ref dc) (.ref da); omega, ?_⟩
    have uh : Upto p H (upd Hg p (.ins Cr dx (f6 (.ref tw) (.ref tr) (.ref db) (.ref dc) (.ref da) (.ref du)))) := (ue.trans (Upto.of sg)).trans Upto.at_
    have wh : (upd Hg p (.ins Cr dx (f6 (.ref tw) (.ref tr) (.ref db) (.ref dc) (.ref da) (.ref du)))) tw = _ := keepP pg (sg _ _ we) (fun _ _ _ z => by cases z)
    have rh : (upd Hg p (.ins Cr dx (f6 (.ref tw) (.ref tr) (.ref db) (.ref dc) (.ref da) (.ref du)))) tr = _ := keepP pg (sg _ _ re) (fun _ _ _ z => by cases z)
    have bh : (upd Hg p (.ins Cr dx (f6 (.ref tw) (.ref tr) (.ref db) (.ref dc) (.ref da) (.ref du)))) db = _ := keepP pg (sg _ _ be) (fun _ _ _ z => by cases z)
    have ch := tupsU (H2 := upd Hg p (.ins Cr dx (f6 (.ref tw) (.ref tr) (.ref db) (.ref dc) (.ref da) (.ref du)))) pg Upto.at_ (ce.same sg)
    have ah := tupsU (H2 := upd Hg p (.ins Cr dx (f6 (.ref tw) (.ref tr) (.ref db) (.ref dc) (.ref da) (.ref du)))) pg Upto.at_ (ae.same sg)
    have uph := tupsU (H2 := upd Hg p (.ins Cr dx (f6 (.ref tw) (.ref tr) (.ref db) (.ref dc) (.ref da) (.ref du)))) pg Upto.at_ Tg
    have ph : (upd Hg p (.ins Cr dx (f6 (.ref tw) (.ref tr) (.ref db) (.ref dc) (.ref da) (.ref du)))) p = some (.ins Cr dx (f6 (.ref tw) (.ref tr) (.ref db) (.ref dc) (.ref da) (.ref du))) := upd_same
    refine ⟨_, rfl, p, Cr, dx, _, _, rfl, ph, T.cl, T._courses, g6c _ _ _ _ _ _, dc, rowsOf AR, rfl, ch, hG, fun Hi t si nt hti => ?_⟩
    have pi := si _ _ ph
    refine ⟨_, rfl, p, Cr, dx, _, rfl, pi, T.cl, T._deepest_first, by have := l6 (.ref tw) (.ref tr) (.ref db) (.ref dc) (.ref da) (.ref du); omega, ?_⟩
    have R0 : RowsAt Hi l AR := rowsU (H1 := Hi) (uh.trans (Upto.of si))
    refine k _ ((uh.trans (Upto.of si)).trans Upto.at_) ⟨dx, tw, tr, db, dc, da, du, .ref t, upd_same, keepP pi (si _ _ wh) (fun _ _ _ z => by cases z), keepP pi (si _ _ rh) (fun _ _ _ z => by cases z), fun q hq => keepP pi (R0.tup q hq) (fun _ _ _ z => by cases z), keepP pi (si _ _ bh) (fun _ _ _ z => by cases z),
      tupsU pi Upto.at_ (ch.same si), tupsU pi Upto.at_ (ah.same si), tupsU pi Upto.at_ (uph.same si), ⟨t, rfl, keepP pi hti (fun _ _ _ z => by cases z)⟩⟩
end
end K0
end
section
set_option Elab.async false
set_option linter.all false
set_option maxRecDepth 100000
namespace L2
open PySem PySem.Spec PyProof.Rows
/-! ### a def whose promise may speak of how large the heap is at its call -/
structure FnOkN (P : Program) (w : World) (K : PySem.W.Frag) (mg : Str → Option Value) (base : Heap) (CX : CXT) (k : Nat) (f : Addr) (fd : FuncData) (ps : List Str) (sp : Nat → Sp) : Prop where
  len : ∀ n vs H Q E, sp n vs H Q E → vs.length = ps.length
  run : ∀ (A : Around) (outer : List Env) (s : Shared) (H : Hp) (args : Args) (us : List Value) (vs : List V) (Q : VK) (E : XK), Room k A → Env0 P w K mg base A outer s H → BindsTo s fd args (ps.zip us) → Vals vs us → sp s.heap.objs.size vs H Q E →
    codeAny (model P w) A (.call (.ref f) args) (CR CX outer P w H s Q E) s
theorem k0_fn_ofN {CX : CXT} {P : Program} {w : World} {K : PySem.W.Frag} {mg : Str → Option Value} {base : Heap} {k : Nat} {f : Addr} {name qual : Str} {params : Arguments} {body : List Stmt} {scope : Scope} {dV kV doc pm cdv ct oc : Value} {an od : Option Addr}
    {osl : Array (Option Value)} {N ps : List Str} {sp : Nat → Sp} (lk : K.lookup f = some ⟨oc, od, .func (PySem.W.fnOf name qual params body scope dV kV doc pm an cdv ct), osl⟩) (hcd : PySem.W.codeIn K cdv qual = true) (S : FnScope N ps scope)
    (len : ∀ n vs H Q E, sp n vs H Q E → vs.length = ps.length)
    (hbody : ∀ (A : Around) (outer : List Env) (s : Shared) (H : Hp) (vs : List V) (Q : VK) (E : XK), Room k (A.deeper (envOfC qual scope s.heap.objs.size f cdv)) → sp s.heap.objs.size vs H Q E →
      ∃ t, PSs (cxOf CX P w K mg base N qual scope f cdv A outer s H E) body t ∧ t { nx := fun _ H' => Q .non H', rt := Q } (start N vs) H) :
    FnOkN P w K mg base CX (k + 1) f (PySem.W.fnOf name qual params body scope dV kV doc pm an cdv ct) ps sp := by
  refine ⟨len, fun A outer s H args us vs Q E hr e0 hb r hsp => ?_⟩
  have hl := len _ _ _ _ _ hsp
  have KX : K.In s.heap := e0.mod.kin.keeps fun b o e => (e0.bs b o e).1
  have lim : s.heap.NoLimit := e0.mod.nolimit.keeps fun b o e => (e0.bs b o e).1
  have hkind : ∀ y ∈ ps.zip us, scope.names.lookup y.1 = some .local ∨ (scope.names.lookup y.1 = some .cell ∧ ((cellsFrom (s.heap.objs.size + 1) scope.names []).lookup y.1).isSome = true) := fun ⟨n, v⟩ hy => by
    rcases S.par n (List.of_mem_zip hy).1 with q | q
    · exact .inl q
    · exact .inr ⟨q, PySem.W.cellsFrom_some _ _ _ (.inl q)⟩
  refine codeAny_call_function hr.depth (KX _ _ lk) rfl S.co S.gen rfl (PySem.W.codeRec_of KX hcd) (hb _ _ _ _ ?_)
  refine wpAny_newFunctionEnv_cells S.kind hkind fun env he s1 x => ?_
  subst he
  refine ⟨lim.keeps x.toInCall.keep, codeAny_func ?_⟩
  obtain ⟨t, ht, hq⟩ := hbody A outer s H vs Q E (hr.deeper _) hsp
  have I : Inv (cxOf CX P w K mg base N qual scope f cdv A outer s H E) [] (start N vs) H s1 := inv_start S hr.hd e0 hl r x
  refine wpAny_mono (ht.run [] s1 (start N vs) H _ I hq) (fun fl s' hs => ?_) fun e s' hs => hs
  have fin : ∀ {σ' : St} {H' : Hp} {v : V} {u : Value}, Inv (cxOf CX P w K mg base N qual scope f cdv A outer s H E) [] σ' H' s' → RelV v u → Q v H' → CE outer P w H s Q u s' :=
    fun {σ' H' v u} J rv q => ⟨v, H', J.os, J.bare, J.base, J.hok, rv, q⟩
  cases fl with
  | ret u =>
    obtain ⟨v, σ', H', J, rv, q⟩ := hs
    exact fin J rv q
  | next =>
    obtain ⟨σ', H', J, q⟩ := hs
    exact fin (v := V.non) (u := Value.none) J rfl q
  | brk =>
    obtain ⟨_, _, _, q⟩ := hs
    exact False.elim q
  | cont =>
    obtain ⟨_, _, _, q⟩ := hs
    exact False.elim q
/-! ### iter of a tuple -/
def k0_itObj (t : Addr) : Obj := { cls := .type "tuple_iterator", data := .fields #[.ref t, .int 0 0] }
def K0It (t it : Addr) : HO := .ext fun h => h.get? it = some (k0_itObj t)
theorem k0_it_ok {P : Program} {w : World} {H : Hp} {h : Heap} {t it : Addr} (e : h.get? it = some (k0_itObj t)) : ObjOk P w H h it (K0It t it) := ⟨e, ⟨_, e⟩, fun h1 h2 q k => k _ q⟩
theorem k0_call_iter {prog : Program} {w : World} {A : Around} {E : Value → Shared → Prop} {s : Shared} {t : Addr} {items : Array Value} {Q : Value → Shared → Prop} (ht : s.heap.IsTuple t items) (h : Q (.ref s.heap.objs.size) { s with heap := s.heap.push (k0_itObj t) }) :
    wpAny (model prog w) A (call (.builtin "iter") [.ref t]) Q E s := by
  refine Calls.call_function_entry (by decide +kernel) (by decide +kernel) PySem.W.kdk_entry_iter (PySem.W.kdk_args_iter _) ?_
  unfold Builtin.«iter»
  refine wpAny_bind (m := someArgs "iter" 1 2 _) (wpAny_of_eq (a := [Value.ref t]) (by first | rfl | kernel_rfl!) ?_)
  show wpAny _ _ (pyIter (.ref t) >>= _) _ _ _
  refine wpAny_bind (wpAny_pyIter_tuple ht ?_)
  exact wpAny_pure ⟨_, rfl, h⟩
def k0_rIter (K : PySem.W.Frag) (n : Nat) : List V → Hp → VK → Prop := fun xs H Q => ∃ (t : Addr) (zs : List V), xs = [.ref t] ∧ SqT K H t zs ∧ ∀ it, H it = Option.none → n ≤ it → Q (.ref it) (upd H it (K0It t it))
section
variable {X : Cx}
theorem k0_cr_iter : CallR X (.builtin "iter") (k0_rIter X.K X.s_0.heap.objs.size) := by
  intro pins s σ H xs us Q I r h
  obtain ⟨t, zs, rfl, hq, q⟩ := h
  obtain ⟨u, rfl, ru⟩ := vals1 r
  cases ru
  obtain ⟨its, rv, pl, hz⟩ := I.tuple hq
  refine k0_call_iter pl ?_
  exact ⟨.ref s.heap.objs.size, _, I.laid (t' := s.toks) (fun b u e => Heap.get?_push_of_some _ e) (Nat.le_refl _) (k0_it_ok (Heap.get?_push_size _ rfl)), rfl, q _ (I.hok.fresh (Nat.le_refl _)) I.sz⟩
end
/-! ### for x in o, o of a class of the text with an __iter__ that gives a tuple's iterator -/
/-- what such an __iter__ promises -/
def spIterT (K : PySem.W.Frag) (G : Hp → Addr → Addr → Prop) (n : Nat) : Sp := fun vs H Q _ => ∃ (p t : Addr) (zs : List V), vs = [.ref p] ∧ G H p t ∧ SqT K H t zs ∧ ∀ it, H it = Option.none → n ≤ it → Q (.ref it) (upd H it (K0It t it))
def iOwn (K : PySem.W.Frag) (C : Addr) (G : Hp → Addr → Addr → Prop) (te : TE) : TI := fun σ H R => te σ H fun x H1 => ∃ (p dx t : Addr) (fs : List (Str × V)) (zs : List V), x = .ref p ∧ H1 p = some (.ins C dx fs) ∧ G H1 p t ∧ SqT K H1 t zs ∧ R (Itt K t) H1
theorem pi_own {X : Cx} {k : Nat} {C f : Addr} {fd : FuncData} {G : Hp → Addr → Addr → Prop} {tg e : Expr} {te : TE} (F : FnOkN X.prog X.w X.K X.mg X.base CX0 k f fd ["self"] (spIterT X.K G)) (hr : Room k X.A)
    (hs : PySem.W.findIn X.K (.ref C) "__iter__" = some (some (.ref f))) (hf : PySem.W.isFn X.K (.ref f) = true) (hb : Binds X.K fd ["self"] []) (he : PE X e te) : PI X tg e (iOwn X.K C G te) := by
  refine ⟨fun pins s σ H R I h => ?_⟩
  refine thn (he.run pins s σ H _ I h) fun u s1 ⟨x, H1, I1, rx, p, dx, t, fs, zs, ex, hp, hG, ht, q⟩ => ?_
  subst ex
  cases rx
  obtain ⟨mA, J, _⟩ := ins_get I1.hok hp
  obtain ⟨od, J, _⟩ := J.look
  obtain ⟨m, hF⟩ := I1.fr
  refine PySem.W.owit_iter hF I1.ok.mod.kin J hs hf ?_
  have hsp : spIterT X.K G s1.heap.objs.size [.ref p] H1 (fun v H' => ∃ it, v = .ref it ∧ H1 it = Option.none ∧ s1.heap.objs.size ≤ it ∧ H' = upd H1 it (K0It t it)) E0 := ⟨p, t, zs, rfl, hG, ht, fun it n1 n2 => ⟨it, rfl, n1, n2, rfl⟩⟩
  have r2 : Vals [V.ref p] [Value.ref p] := .cons rfl .nil
  refine wpAny_call (codeAny_mono (F.run X.A X.stack s1 H1 ⟨[.ref p], []⟩ [.ref p] [.ref p] _ E0 hr I1.env0 (by
    have := hb s1 [.ref p] I1.kIn (by rfl)
    simpa using this) r2 hsp) fun r s' hq => ?_)
  cases r with
  | error e => exact hq.elim
  | ok fl =>
    cases fl with
    | ret w =>
      obtain ⟨z, H', I', rz, it, ez, n1, n2, eH⟩ := I1.after hq
      subst ez
      cases rz
      subst eH
      have hit : (upd H1 it (K0It t it)) it = some (K0It t it) := upd_same
      have hobj : s'.heap.get? it = some (k0_itObj t) := (I'.hok it _ hit).1
      have st : s'.heap.IsTupleIter it t 0 := ⟨_, hobj, rfl, rfl⟩
      show PySem.W.OwitIt _ _ _ _ (.ref it) s'
      unfold PySem.W.OwitIt
      refine wpAny_specialOf (T := "tuple_iterator") ⟨_, hobj, rfl⟩ PySem.F.slot_tuple_iterator_next.lookup ?_
      have hit' := hit
      unfold K0It at hit'
      have I2 := ItX.inv_drop I' hit'
      rw [ItX.dropH_upd n1] at I2
      have fp := ItX.inv_fp I' hit (Nat.le_trans I1.sz n2)
      rw [ItX.dropH_upd n1] at fp
      refine ⟨it, [it], _, _, H1, rfl, I2, turn_tuple t it, st, fun b hb => ?_, q⟩
      have e : b = it := by simpa using hb
      rw [e]
      exact fp
    | next => exact hq.elim
    | brk => exact hq.elim
    | cont => exact hq.elim
/-! ### len(o), x in o, x not in o by the text's own methods -/
section
variable {X : Cx} {k : Nat} {C f : Addr} {fd : FuncData}
/-- what such a __len__ promises -/
def spLenG (G : Hp → Addr → Nat → Prop) : Sp := fun vs H Q _ => ∃ (p : Addr) (n : Nat), vs = [.ref p] ∧ G H p n ∧ n ≤ 100000 ∧ Q (.int (n : Int)) H
theorem k0_len_own {G : Hp → Addr → Nat → Prop} (F : FnOk X.prog X.w X.K X.mg X.base CX0 k f fd ["self"] (spLenG G)) (hr : Room (k + 1) X.A)
    (hs : PySem.W.findIn X.K (.ref C) "__len__" = some (some (.ref f))) (hf : PySem.W.isFn X.K (.ref f) = true) (hb : Binds X.K fd ["self"] []) :
    CallR X (.builtin "len") (fun xs H Q => ∃ (p dx : Addr) (fs : List (Str × V)) (n : Nat), xs = [.ref p] ∧ H p = some (.ins C dx fs) ∧ G H p n ∧ n ≤ 100000 ∧ Q (.int (n : Int)) H) := by
  intro pins s σ H xs us Q I r h
  obtain ⟨p, dx, fs, n, rfl, hp, hG, hn, q⟩ := h
  obtain ⟨u, rfl, ru⟩ := vals1 r
  cases ru
  obtain ⟨mA, J, _⟩ := ins_get I.hok hp
  obtain ⟨od, J, _⟩ := J.look
  obtain ⟨m, hF⟩ := I.fr
  refine PySem.W.len_K hF I.ok.mod.kin J hs hf ?_
  have hsp : spLenG G [.ref p] H (fun v H' => v = .int (n : Int) ∧ H' = H) E0 := ⟨p, n, rfl, hG, hn, rfl, rfl⟩
  have r2 : Vals [V.ref p] [Value.ref p] := .cons rfl .nil
  have e0 : Env0 X.prog X.w X.K X.mg X.base X.A.in1 X.stack s H := I.env0.in1
  refine wpAny_call (codeAny_mono (F.run X.A.in1 X.stack s H ⟨[.ref p], []⟩ [.ref p] [.ref p] _ E0 (hr.in1) e0 (by
    have := hb s [.ref p] I.kIn (by rfl)
    simpa using this) r2 hsp) fun r s' hq => ?_)
  cases r with
  | error e => exact hq.elim
  | ok fl =>
    cases fl with
    | ret w =>
      obtain ⟨z, H', I', rz, ez, eH⟩ := I.after hq
      subst ez
      subst eH
      obtain ⟨t, rfl⟩ := rz
      exact ⟨⟨by omega, by omega⟩, .int (n : Int), H', I'.tok _, ⟨_, rfl⟩, q⟩
    | next => exact hq.elim
    | brk => exact hq.elim
    | cont => exact hq.elim
/-- what such a __contains__ promises: true or false -/
def spHas (G : Hp → Addr → V → Bool → Prop) : Sp := fun vs H Q _ => ∃ (p : Addr) (x : V) (b : Bool), vs = [.ref p, x] ∧ G H p x b ∧ Q (.bl b) H
def rHas (C : Addr) (neg : Bool) (G : Hp → Addr → V → Bool → Prop) : R2 := fun x y H Q => ∃ (p dx : Addr) (fs : List (Str × V)) (b : Bool), y = .ref p ∧ H p = some (.ins C dx fs) ∧ G H p x b ∧ Q (.bl (if neg then !b else b)) H
theorem k0_has_run {G : Hp → Addr → V → Bool → Prop} (F : FnOk X.prog X.w X.K X.mg X.base CX0 k f fd ["self", "x"] (spHas G)) (hr : Room k X.A) (hb : Binds X.K fd ["self", "x"] []) {pins : List (Addr × Obj)} {σ : St} {H : Hp} {s : Shared} (I : Inv X pins σ H s) {p : Addr} {x : V} {u : Value} {b : Bool} (rx : RelV x u) (hG : G H p x b)
    {R : Value → Shared → Prop} (h : ∀ s', Inv X pins σ H s' → R (.bool b) s') : wpAny (model X.prog X.w) X.A (call (.ref f) [.ref p, u]) R X.xe s := by
  have hsp : spHas G [.ref p, x] H (fun v H' => v = .bl b ∧ H' = H) E0 := ⟨p, x, b, rfl, hG, rfl, rfl⟩
  have r2 : Vals [V.ref p, x] [Value.ref p, u] := .cons rfl (.cons rx .nil)
  refine wpAny_call (codeAny_mono (F.run X.A X.stack s H ⟨[.ref p, u], []⟩ [.ref p, u] [.ref p, x] _ E0 hr I.env0 (by
    have := hb s [.ref p, u] I.kIn (by rfl)
    simpa using this) r2 hsp) fun r s' hq => ?_)
  cases r with
  | error e => exact hq.elim
  | ok fl =>
    cases fl with
    | ret w =>
      obtain ⟨z, H', I', rz, ez, eH⟩ := I.after hq
      subst ez
      subst eH
      cases rz
      exact h s' I'
    | next => exact hq.elim
    | brk => exact hq.elim
    | cont => exact hq.elim
theorem k0_in_own {K : PySem.W.Frag} {G : Hp → Addr → V → Bool → Prop} (F : FnOk X.prog X.w X.K X.mg X.base CX0 k f fd ["self", "x"] (spHas G)) (hr : Room k X.A)
    (hs : PySem.W.findIn X.K (.ref C) "__contains__" = some (some (.ref f))) (hf : PySem.W.isFn X.K (.ref f) = true) (hb : Binds X.K fd ["self", "x"] []) : OpR X (compareOp .In) (rHas C false G) := by
  intro pins s σ H x y v u Q I rx ry h
  obtain ⟨p, dx, fs, b, rfl, hp, hG, q⟩ := h
  cases ry
  obtain ⟨mA, J, _⟩ := ins_get I.hok hp
  obtain ⟨od, J, _⟩ := J.look
  obtain ⟨m, hF⟩ := I.fr
  refine PySem.W.in_K hF I.ok.mod.kin J hs hf (k0_has_run F hr hb I rx hG fun s' I' => ?_)
  exact wpAny_truthy_bool ⟨.bl b, H, I', rfl, q⟩
theorem k0_notIn_own {K : PySem.W.Frag} {G : Hp → Addr → V → Bool → Prop} (F : FnOk X.prog X.w X.K X.mg X.base CX0 k f fd ["self", "x"] (spHas G)) (hr : Room k X.A)
    (hs : PySem.W.findIn X.K (.ref C) "__contains__" = some (some (.ref f))) (hf : PySem.W.isFn X.K (.ref f) = true) (hb : Binds X.K fd ["self", "x"] []) : OpR X (compareOp .NotIn) (rHas C true G) := by
  intro pins s σ H x y v u Q I rx ry h
  obtain ⟨p, dx, fs, b, rfl, hp, hG, q⟩ := h
  cases ry
  obtain ⟨mA, J, _⟩ := ins_get I.hok hp
  obtain ⟨od, J, _⟩ := J.look
  obtain ⟨m, hF⟩ := I.fr
  refine PySem.W.notIn_K hF I.ok.mod.kin J hs hf (k0_has_run F hr hb I rx hG fun s' I' => ?_)
  exact wpAny_truthy_bool ⟨.bl (!b), H, I', rfl, q⟩
end
end L2
end
section
set_option linter.all false
namespace RM
variable {α : Type} [DecidableEq α]
/-! ### the first group in which nothing is met -/
def put (m : α → α → Bool) (n : α) : List (List α) → List (List α)
  | [] => [[n]]
  | g :: gs => if g.any (m n) = true then g :: put m n gs else (g ++ [n]) :: gs
def greedy (m : α → α → Bool) (l : List α) : List (List α) := l.foldl (fun gs n => put m n gs) []
theorem greedy_snoc (m : α → α → Bool) (l : List α) (n : α) : greedy m (l ++ [n]) = put m n (greedy m l) := by
  unfold greedy
  rw [List.foldl_append]
  rfl
theorem put_flat (m : α → α → Bool) (n : α) : ∀ gs : List (List α), (put m n gs).flatten.Perm (n :: gs.flatten)
  | [] => by simp [put]
  | g :: gs => by
    unfold put
    split
    · rw [List.flatten_cons, List.flatten_cons]
      exact ((put_flat m n gs).append_left g).trans List.perm_middle
    · rw [List.flatten_cons, List.flatten_cons, List.append_assoc]
      exact List.perm_middle
theorem snoc_rec {P : List α → Prop} (h0 : P []) (h1 : ∀ l n, P l → P (l ++ [n])) (l : List α) : P l := by
  have key : ∀ k, ∀ l : List α, l.length = k → P l := by
    intro k
    induction k with
    | zero =>
      intro l h
      rw [List.length_eq_zero_iff.mp h]
      exact h0
    | succ k ih =>
      intro l h
      rcases List.eq_nil_or_concat l with e | ⟨t, n, e⟩
      · rw [e] at h
        cases h
      · rw [List.concat_eq_append] at e
        subst e
        refine h1 t n (ih t ?_)
        rw [List.length_append] at h
        simpa using h
  exact key _ l rfl
theorem greedy_flat (m : α → α → Bool) (l : List α) : (greedy m l).flatten.Perm l := by
  refine snoc_rec (P := fun l => (greedy m l).flatten.Perm l) (List.Perm.refl _) (fun l n ih => ?_) l
  rw [greedy_snoc]
  exact (put_flat m n _).trans ((ih.cons n).trans (List.perm_append_comm (l₁ := [n])))
theorem put_mem {m : α → α → Bool} {n : α} {h : List α} : ∀ {gs : List (List α)}, h ∈ put m n gs → h ∈ gs ∨ h = [n] ∨ ∃ g ∈ gs, h = g ++ [n] ∧ g.any (m n) = false
  | [], hh => .inr (.inl (by simpa [put] using hh))
  | g :: gs, hh => by
    unfold put at hh
    split at hh
    · rcases List.mem_cons.mp hh with e | hh
      · exact .inl (e ▸ List.mem_cons_self)
      · rcases put_mem hh with e | e | ⟨g', h1, h2⟩
        · exact .inl (List.mem_cons_of_mem _ e)
        · exact .inr (.inl e)
        · exact .inr (.inr ⟨g', List.mem_cons_of_mem _ h1, h2⟩)
    · rename_i hn
      rcases List.mem_cons.mp hh with e | hh
      · exact .inr (.inr ⟨g, List.mem_cons_self, e, by simpa using hn⟩)
      · exact .inl (List.mem_cons_of_mem _ hh)
/-- no two of a group meet, no group is empty -/
theorem greedy_grp (m : α → α → Bool) (l : List α) : ∀ g ∈ greedy m l, g ≠ [] ∧ g.Pairwise fun a b => m b a = false := by
  refine snoc_rec (P := fun l => ∀ g ∈ greedy m l, g ≠ [] ∧ g.Pairwise fun a b => m b a = false) (fun g hg => by cases hg) (fun l n ih g hg => ?_) l
  rw [greedy_snoc] at hg
  rcases put_mem hg with e | e | ⟨g', h1, h2, h3⟩
  · exact ih g e
  · rw [e]
    exact ⟨by simp, List.pairwise_singleton _ _⟩
  · rw [h2]
    refine ⟨by simp, List.pairwise_append.mpr ⟨(ih g' h1).2, List.pairwise_singleton _ _, fun a ha b hb => ?_⟩⟩
    rw [List.mem_singleton.mp hb]
    have := List.any_eq_false.mp h3 a ha
    simpa using this
theorem put_len (m : α → α → Bool) (n : α) : ∀ gs : List (List α), (put m n gs).length = gs.length ∨ ((∀ g ∈ gs, g.any (m n) = true) ∧ (put m n gs).length = gs.length + 1)
  | [] => .inr ⟨(fun _ h => by cases h), rfl⟩
  | g :: gs => by
    unfold put
    split
    · rename_i hg
      rcases put_len m n gs with e | ⟨h, e⟩
      · exact .inl (by rw [List.length_cons, e, List.length_cons])
      · refine .inr ⟨fun g' hg' => ?_, by rw [List.length_cons, e, List.length_cons]⟩
        rcases List.mem_cons.mp hg' with q | q
        · rw [q]
          exact hg
        · exact h g' q
    · exact .inl rfl
theorem any_count {p : α → Bool} : ∀ {gs : List (List α)}, (∀ g ∈ gs, g.any p = true) → gs.length ≤ gs.flatten.countP p
  | [], _ => Nat.zero_le _
  | g :: gs, h => by
    have ih := any_count fun g' hg' => h g' (List.mem_cons_of_mem _ hg')
    have h1 := h g List.mem_cons_self
    rw [List.flatten_cons, List.countP_append, List.length_cons]
    have : 0 < g.countP p := by
      rw [List.countP_pos_iff]
      obtain ⟨x, hx, px⟩ := List.any_eq_true.mp h1
      exact ⟨x, hx, px⟩
    omega
/-- as few groups as the most that meet -/
theorem greedy_len {m : α → α → Bool} {K : Nat} (l : List α) (h : ∀ d n r, l = d ++ n :: r → d.countP (m n) + 1 ≤ K) : (greedy m l).length ≤ K := by
  refine snoc_rec (P := fun l => (∀ d n r, l = d ++ n :: r → d.countP (m n) + 1 ≤ K) → (greedy m l).length ≤ K) (fun _ => Nat.zero_le _) (fun l n ih h => ?_) l h
  have h1 := ih fun d n' r e => h d n' (r ++ [n]) (by rw [e, List.append_assoc]; rfl)
  rw [greedy_snoc]
  rcases put_len m n (greedy m l) with e | ⟨hall, e⟩
  · rw [e]
    exact h1
  · rw [e]
    have h2 := any_count hall
    rw [(greedy_flat m l).countP_eq] at h2
    have h3 := h l n [] rfl
    omega
theorem one_of {l : List α} (hn : l.Nodup) (h : ∀ a ∈ l, ∀ b ∈ l, a = b) : l.length ≤ 1 := by
  match l, hn, h with
  | [], _, _ => exact Nat.zero_le _
  | [a], _, _ => exact Nat.le_refl _
  | a :: b :: r, hn, h =>
    have e := h a List.mem_cons_self b (List.mem_cons_of_mem _ List.mem_cons_self)
    obtain ⟨h1, _⟩ := List.nodup_cons.mp hn
    exact absurd (e ▸ List.mem_cons_self) h1
/-- those that all meet stand in groups of their own -/
theorem many_groups {S : List α} : ∀ {gs : List (List α)}, S.Nodup → (∀ s ∈ S, s ∈ gs.flatten) → (∀ g ∈ gs, ∀ a ∈ g, ∀ b ∈ g, a ∈ S → b ∈ S → a = b) → S.length ≤ gs.length := by
  intro gs
  induction gs generalizing S with
  | nil =>
    intro _ h _
    match S, h with
    | [], _ => exact Nat.le_refl _
    | s :: r, h => cases h s List.mem_cons_self
  | cons g gs ih =>
    intro hn hs hg
    have e := List.length_eq_countP_add_countP (fun s => decide (s ∈ g)) (l := S)
    rw [List.countP_eq_length_filter, List.countP_eq_length_filter] at e
    have h1 : (S.filter fun s => decide (s ∈ g)).length ≤ 1 := by
      refine one_of (hn.filter _) fun a ha b hb => ?_
      obtain ⟨a1, a2⟩ := List.mem_filter.mp ha
      obtain ⟨b1, b2⟩ := List.mem_filter.mp hb
      exact hg g List.mem_cons_self a (of_decide_eq_true a2) b (of_decide_eq_true b2) a1 b1
    have h2 := ih (S := S.filter fun s => decide ¬decide (s ∈ g) = true) (hn.filter _) (fun s h => by
      obtain ⟨s1, s2⟩ := List.mem_filter.mp h
      have s3 : s ∉ g := by simpa using s2
      have := hs s s1
      rw [List.flatten_cons] at this
      exact (List.mem_append.mp this).resolve_left s3) (fun g' hg' a ha b hb sa sb => hg g' (List.mem_cons_of_mem _ hg') a ha b hb (List.mem_filter.mp sa).1 (List.mem_filter.mp sb).1)
    rw [List.length_cons]
    omega
/-! ### those that do not meet -/
def free (m : α → α → Bool) (l : List α) : List α := l.foldl (fun t n => if t.any (m n) = true then t else t ++ [n]) []
theorem free_snoc (m : α → α → Bool) (l : List α) (n : α) : free m (l ++ [n]) = if (free m l).any (m n) = true then free m l else free m l ++ [n] := by
  unfold free
  rw [List.foldl_append]
  rfl
theorem free_sub (m : α → α → Bool) (l : List α) : (free m l).Sublist l := by
  refine snoc_rec (P := fun l => (free m l).Sublist l) (List.Sublist.refl _) (fun l n ih => ?_) l
  rw [free_snoc]
  split
  · exact ih.trans (List.sublist_append_left l [n])
  · exact ih.append (List.Sublist.refl [n])
theorem free_pw (m : α → α → Bool) (l : List α) : (free m l).Pairwise fun a b => m b a = false := by
  refine snoc_rec (P := fun l => (free m l).Pairwise fun a b => m b a = false) List.Pairwise.nil (fun l n ih => ?_) l
  rw [free_snoc]
  split
  · exact ih
  · rename_i h
    refine List.pairwise_append.mpr ⟨ih, List.pairwise_singleton _ _, fun a ha b hb => ?_⟩
    rw [List.mem_singleton.mp hb]
    have h3 : (free m l).any (m n) = false := by simpa using h
    have := List.any_eq_false.mp h3 a ha
    simpa using this
/-- whoever is not taken meets one that stands ahead and is taken -/
theorem free_all (m : α → α → Bool) (l : List α) : ∀ n ∈ l, n ∈ free m l ∨ ∃ d r, l = d ++ n :: r ∧ ∃ t ∈ d, t ∈ free m l ∧ m n t = true := by
  refine snoc_rec (P := fun l => ∀ n ∈ l, n ∈ free m l ∨ ∃ d r, l = d ++ n :: r ∧ ∃ t ∈ d, t ∈ free m l ∧ m n t = true) (fun n h => by cases h) (fun l n ih x hx => ?_) l
  have keep : ∀ y ∈ free m l, y ∈ free m (l ++ [n]) := fun y hy => by
    rw [free_snoc]
    split
    · exact hy
    · exact List.mem_append_left _ hy
  rcases List.mem_append.mp hx with h | h
  · rcases ih x h with e | ⟨d, r, e, t, t1, t2, t3⟩
    · exact .inl (keep x e)
    · exact .inr ⟨d, r ++ [n], by rw [e, List.append_assoc]; rfl, t, t1, keep t t2, t3⟩
  · rw [List.mem_singleton.mp h]
    by_cases c : (free m l).any (m n) = true
    · obtain ⟨t, t1, t2⟩ := List.any_eq_true.mp c
      exact .inr ⟨l, [], rfl, t, (free_sub m l).subset t1, keep t t1, t2⟩
    · refine .inl ?_
      rw [free_snoc, if_neg c]
      exact List.mem_append_right _ List.mem_cons_self
/-! ### the law's own way -/
/-- the places of the groups in which nothing is met -/
def places (m : α → α → Bool) (n : α) (gs : List (List α)) (k : Nat) : List Nat := match gs with
  | [] => []
  | g :: r => (if g.any (m n) = true then [] else [k]) ++ places m n r (k + 1)
theorem places_none {m : α → α → Bool} {n : α} : ∀ {gs : List (List α)} {k : Nat}, places m n gs k = [] → put m n gs = gs ++ [[n]]
  | [], _, _ => rfl
  | g :: gs, k, h => by
    unfold places at h
    obtain ⟨h1, h2⟩ := List.append_eq_nil_iff.mp h
    unfold put
    split
    · rw [places_none h2]
      rfl
    · rename_i hn
      rw [if_neg hn] at h1
      cases h1
theorem places_some {m : α → α → Bool} {n : α} : ∀ {gs : List (List α)} {k j : Nat} {r : List Nat}, places m n gs k = j :: r → ∃ i g, j = k + i ∧ gs[i]? = some g ∧ put m n gs = gs.set i (g ++ [n])
  | [], _, _, _, h => by cases h
  | g :: gs, k, j, r, h => by
    unfold places at h
    by_cases hn : g.any (m n) = true
    · rw [if_pos hn, List.nil_append] at h
      obtain ⟨i, g', e, h1, h2⟩ := places_some h
      refine ⟨i + 1, g', by omega, h1, ?_⟩
      unfold put
      rw [if_pos hn, h2]
      rfl
    · rw [if_neg hn] at h
      injection h with h1 h2
      refine ⟨0, g, by omega, rfl, ?_⟩
      unfold put
      rw [if_neg hn]
      rfl
/-- the place of the first group in which nothing is met, or how many groups there are -/
theorem put_at {m : α → α → Bool} {n : α} : ∀ {gs : List (List α)} {i : Nat} {g : List α}, (∀ (j : Nat) (h : List α), j < i → gs[j]? = some h → h.any (m n) = true) → gs[i]? = some g → g.any (m n) = false → put m n gs = gs.set i (g ++ [n])
  | [], _, _, _, h, _ => by simp at h
  | g0 :: gs, 0, g, _, h, hn => by
    obtain rfl : g0 = g := Option.some.inj h
    unfold put
    rw [if_neg (by rw [hn]; exact Bool.false_ne_true)]
    rfl
  | g0 :: gs, i + 1, g, hb, h, hn => by
    have h0 := hb 0 g0 (by omega) rfl
    unfold put
    rw [if_pos h0, put_at (i := i) (fun j h hj e => hb (j + 1) h (by omega) e) h hn]
    rfl
theorem put_end {m : α → α → Bool} {n : α} : ∀ {gs : List (List α)}, (∀ (j : Nat) (h : List α), gs[j]? = some h → h.any (m n) = true) → put m n gs = gs ++ [[n]]
  | [], _ => rfl
  | g0 :: gs, hb => by
    have h0 := hb 0 g0 rfl
    unfold put
    rw [if_pos h0, put_end fun j h e => hb (j + 1) h e]
    rfl
theorem put_congr {m m' : α → α → Bool} {n : α} : ∀ {gs : List (List α)}, (∀ g ∈ gs, ∀ a ∈ g, m n a = m' n a) → put m n gs = put m' n gs
  | [], _ => rfl
  | g :: gs, h => by
    have e : g.any (m n) = g.any (m' n) := by
      rw [Bool.eq_iff_iff, List.any_eq_true, List.any_eq_true]
      constructor
      · rintro ⟨x, hx, px⟩
        exact ⟨x, hx, by rw [← h g List.mem_cons_self x hx]; exact px⟩
      · rintro ⟨x, hx, px⟩
        exact ⟨x, hx, by rw [h g List.mem_cons_self x hx]; exact px⟩
    unfold put
    rw [e, put_congr fun g' hg' => h g' (List.mem_cons_of_mem _ hg')]
end RM
end
section
set_option Elab.async false
set_option linter.all false
set_option maxRecDepth 100000
namespace K0
open PySem PySem.Spec PyProof.Rows L2
/-! ### shapes of texts -/
def Plain (y : Str) : Prop := ∀ c ∈ y.cps.toList, c < 1114112
theorem plain_ok {y : Str} (h : Plain y) : PyData.strOk y = true := by
  unfold PyData.strOk
  rw [← Array.all_toList, List.all_eq_true]
  intro c hc
  exact decide_eq_true (h c hc)
theorem canLay_strs : ∀ {l : List Str}, (∀ y ∈ l, Plain y) → PyData.canLayAll0 (l.map PyData.str) = true
  | [], _ => by simp only [List.map_nil, PyData.canLayAll0]
  | y :: l, h => by
    simp only [List.map_cons, PyData.canLayAll0, PyData.canLay0, plain_ok (h y List.mem_cons_self), canLay_strs fun z hz => h z (List.mem_cons_of_mem _ hz), Bool.and_self]
theorem depth_strs : ∀ l : List Str, PyData.depthAll (l.map PyData.str) = 0
  | [] => by simp only [List.map_nil, PyData.depthAll]
  | y :: l => by
    simp only [List.map_cons, PyData.depthAll, PyData.depth, depth_strs l]
    rfl
theorem dp_strs {K : PySem.W.Frag} {H : Hp} : ∀ l : List Str, DpAll K H (l.map V.str) (l.map PyData.str)
  | [] => .nil
  | y :: l => .cons (.str y) (dp_strs l)
theorem shaped_lst {l : List Str} (h : ∀ y ∈ l, Plain y) : SeqAt.shaped (.list (l.map PyData.str)) = true := by
  unfold SeqAt.shaped
  simp only [PyData.canLay0, PyData.depth, canLay_strs h, depth_strs]
  decide
theorem shaped_tup {l : List Str} (h : ∀ y ∈ l, Plain y) : SeqAt.shaped (.tuple (l.map PyData.str)) = true := by
  unfold SeqAt.shaped
  simp only [PyData.canLay0, PyData.depth, canLay_strs h, depth_strs]
  decide
theorem shaped_str {y : Str} (h : Plain y) : SeqAt.shaped (.str y) = true := by
  unfold SeqAt.shaped
  simp only [PyData.canLay0, PyData.depth, plain_ok h]
  rfl
theorem eqv_strs : ∀ l : List Str, PyData.eqvAll (l.map PyData.str) (l.map PyData.str) = true
  | [] => by simp only [List.map_nil, PyData.eqvAll]
  | y :: l => by simp only [List.map_cons, PyData.eqvAll, PyData.eqv, eqv_strs l, beq_self_eq_true, Bool.and_self]
theorem eqv_tups (l : List Str) : PyData.eqv (.tuple (l.map PyData.str)) (.tuple (l.map PyData.str)) = true := by
  simp only [PyData.eqv]
  exact eqv_strs _
theorem eqv_lsts (l : List Str) : PyData.eqv (.list (l.map PyData.str)) (.list (l.map PyData.str)) = true := by
  simp only [PyData.eqv]
  exact eqv_strs _
theorem name_plain {x : Str} (h : NameOk x) : Plain x := fun c hc => by
  have := (h.low c hc).2
  omega
theorem plain_name {R : List Row} (g : GoodRows R) {y : Str} (hy : y ∈ nmsOf R) : Plain y := name_plain (g.nm.ok y hy)
theorem sea_plain : Plain ("sea" : Str) := by
  intro c hc
  have : c = 115 ∨ c = 101 ∨ c = 97 := by simpa [sea_list, seaL] using hc
  omega
theorem course_sub {R : List Row} (g : GoodRows R) {y : Str} (hy : y ∈ nmsOf R) : ∀ z ∈ course R y, z ∈ nmsOf R := fun z hz => by
  obtain ⟨m, c⟩ := course_is g hy
  rw [c.eq] at hz
  obtain ⟨i, hi, e⟩ := List.mem_map.mp hz
  rw [← e]
  exact c.mem i (List.mem_range.mp hi)
/-! ### rights -/
abbrev RRow := Str × Str × Str
structure RtOk (R : List Row) (B : List RRow) : Prop where
  nd : (B.map (·.1)).Nodup
  ok : ∀ r ∈ B, NameOk r.1
  inn : ∀ r ∈ B, r.2.1 ∈ nmsOf R
  last : ∀ r ∈ B, r.2.2 = "sea" ∨ r.2.2 ∈ course R r.2.1
  most : B.length ≤ 40
abbrev rnm (B : List RRow) : List Str := B.map (·.1)
def wayB (R : List Row) (r : RRow) : List Str := if r.2.2 = "sea" then course R r.2.1 else (course R r.2.1).take ((course R r.2.1).idxOf r.2.2 + 1)
def rowB (B : List RRow) (n : Str) : RRow := (B.find? fun r => decide (r.1 = n)).getD ("", "", "sea")
def wayN (R : List Row) (B : List RRow) (n : Str) : List Str := wayB R (rowB B n)
theorem row_of {B : List RRow} (hd : (rnm B).Nodup) {r : RRow} (h : r ∈ B) : rowB B r.1 = r := by
  unfold rowB
  cases e : B.find? (fun q => decide (q.1 = r.1)) with
  | none => exact absurd (decide_eq_true rfl) (List.find?_eq_none.mp e r h)
  | some q =>
    have h1 := List.mem_of_find?_eq_some e
    have h2 : q.1 = r.1 := by
      have h3 := List.find?_some e
      exact of_decide_eq_true h3
    obtain ⟨i, hi⟩ := List.getElem?_of_mem h
    obtain ⟨j, hj⟩ := List.getElem?_of_mem h1
    have g1 : (rnm B)[i]? = some r.1 := by rw [List.getElem?_map, hi]; rfl
    have g2 : (rnm B)[j]? = some r.1 := by rw [List.getElem?_map, hj, ← h2]; rfl
    have : i = j := nd_ix hd g1 g2
    subst this
    rw [hi] at hj
    exact (Option.some.inj hj).symm
theorem way_of {R : List Row} {B : List RRow} (hd : (rnm B).Nodup) {r : RRow} (h : r ∈ B) : wayN R B r.1 = wayB R r := by
  unfold wayN
  rw [row_of hd h]
theorem itr_add (low : Str → Str) : ∀ (i j : Nat) (x : Str), itr low j (itr low i x) = itr low (i + j) x
  | i, 0, x => rfl
  | i, j + 1, x => by
    show low (itr low j (itr low i x)) = low (itr low (i + j) x)
    rw [itr_add low i j x]
/-- further down, the course is what is left of it -/
theorem CourseIs.tail {R : List Row} (g : GoodRows R) {x : Str} {m i : Nat} (c : CourseIs R x m) (hi : i < m) : CourseIs R (itr (lowR R) i x) (m - i) := by
  have hm := c.most
  refine ⟨by omega, by omega, ?_, fun j hj => ?_, ?_⟩
  · refine crs_full _ _ _ _ (by omega) (fun j hj => ?_) ?_
    · rw [itr_add]
      exact g.nm.sea _ (c.mem _ (by omega))
    · rw [itr_add, show i + (m - i) = m by omega]
      exact c.sea
  · rw [itr_add]
    exact c.mem _ (by omega)
  · rw [itr_add, show i + (m - i) = m by omega]
    exact c.sea
/-- a way: the first k of the course -/
structure WayIs (R : List Row) (r : RRow) (m k : Nat) : Prop where
  c : CourseIs R r.2.1 m
  one : 1 ≤ k
  most : k ≤ m
  eq : wayB R r = (List.range k).map fun i => itr (lowR R) i r.2.1
theorem way_is {R : List Row} (g : GoodRows R) {r : RRow} (h1 : r.2.1 ∈ nmsOf R) (h2 : r.2.2 = "sea" ∨ r.2.2 ∈ course R r.2.1) : ∃ m k, WayIs R r m k := by
  obtain ⟨m, c⟩ := course_is g h1
  by_cases hs : r.2.2 = "sea"
  · refine ⟨m, m, c, c.one, Nat.le_refl _, ?_⟩
    unfold wayB
    rw [if_pos hs]
    exact c.eq
  · have h3 := h2.resolve_left hs
    have hl := List.idxOf_lt_length_iff.mpr h3
    rw [c.len] at hl
    refine ⟨m, (course R r.2.1).idxOf r.2.2 + 1, c, by omega, by omega, ?_⟩
    unfold wayB
    rw [if_neg hs]
    generalize (course R r.2.1).idxOf r.2.2 = k at hl ⊢
    rw [c.eq, ← List.map_take, List.take_range, Nat.min_eq_left (by omega)]
def lastW (l : List Str) : Str := l.getLast?.getD ""
theorem WayIs.last {R : List Row} {r : RRow} {m k : Nat} (h : WayIs R r m k) : lastW (wayB R r) = itr (lowR R) (k - 1) r.2.1 := by
  have h1 := h.one
  unfold lastW
  rw [h.eq, List.getLast?_eq_getElem?, List.length_map, List.length_range, List.getElem?_map, List.getElem?_range (by omega)]
  rfl
theorem WayIs.mem {R : List Row} {r : RRow} {m k : Nat} (h : WayIs R r m k) {y : Str} : y ∈ wayB R r ↔ ∃ i, i < k ∧ itr (lowR R) i r.2.1 = y := by
  rw [h.eq, List.mem_map]
  constructor
  · rintro ⟨i, hi, e⟩
    exact ⟨i, List.mem_range.mp hi, e⟩
  · rintro ⟨i, hi, e⟩
    exact ⟨i, List.mem_range.mpr hi, e⟩
theorem WayIs.depth {R : List Row} (g : GoodRows R) {r : RRow} {m k i : Nat} (h : WayIs R r m k) (hi : i < m) : (course R (itr (lowR R) i r.2.1)).length = m - i := (h.c.tail g hi).len
theorem WayIs.sub {R : List Row} {r : RRow} {m k : Nat} (h : WayIs R r m k) : ∀ y ∈ wayB R r, y ∈ nmsOf R := fun y hy => by
  obtain ⟨i, hi, e⟩ := h.mem.mp hy
  rw [← e]
  exact h.c.mem i (by have := h.most; omega)
theorem WayIs.lastIn {R : List Row} {r : RRow} {m k : Nat} (h : WayIs R r m k) : lastW (wayB R r) ∈ wayB R r := by
  rw [h.last]
  exact h.mem.mpr ⟨k - 1, by have := h.one; omega, rfl⟩
/-- rights that meet: the one whose last weir is not deeper passes the last weir of the other -/
theorem meet_last {R : List Row} (g : GoodRows R) {r1 r2 : RRow} {m1 k1 m2 k2 : Nat} (w1 : WayIs R r1 m1 k1) (w2 : WayIs R r2 m2 k2) {y : Str} (h1 : y ∈ wayB R r1) (h2 : y ∈ wayB R r2)
    (hd : (course R (lastW (wayB R r2))).length ≤ (course R (lastW (wayB R r1))).length) : lastW (wayB R r1) ∈ wayB R r2 := by
  obtain ⟨i, hi, ei⟩ := w1.mem.mp h1
  obtain ⟨j, hj, ej⟩ := w2.mem.mp h2
  have a1 := w1.one; have a2 := w1.most; have b1 := w2.one; have b2 := w2.most
  rw [w1.last, w2.last, w1.depth g (by omega), w2.depth g (by omega)] at hd
  have d1 := w1.depth g (i := i) (by omega)
  have d2 := w2.depth g (i := j) (by omega)
  rw [ei] at d1
  rw [ej, d1] at d2
  rw [w1.last]
  refine w2.mem.mpr ⟨j + (k1 - 1 - i), by omega, ?_⟩
  rw [← itr_add, ej, ← ei, itr_add]
  congr 1
  omega
/-! ### the order in which rights are taken away -/
def depthN (R : List Row) (B : List RRow) (n : Str) : Nat := (course R (lastW (wayN R B n))).length
def remR (R : List Row) (B : List RRow) : List Str := (List.range R.length).flatMap fun i => (rnm B).filter fun n => decide (depthN R B n = R.length - i)
theorem WayIs.depthL {R : List Row} (g : GoodRows R) {r : RRow} {m k : Nat} (h : WayIs R r m k) : 1 ≤ (course R (lastW (wayB R r))).length ∧ (course R (lastW (wayB R r))).length ≤ R.length := by
  have a1 := h.one; have a2 := h.most; have a3 := h.c.most
  rw [h.last, h.depth g (by omega)]
  omega
theorem depth_ok {R : List Row} (g : GoodRows R) {B : List RRow} (b : RtOk R B) {n : Str} (hn : n ∈ rnm B) : 1 ≤ depthN R B n ∧ depthN R B n ≤ R.length := by
  obtain ⟨r, hr, rfl⟩ := List.mem_map.mp hn
  obtain ⟨m, k, w⟩ := way_is g (b.inn r hr) (b.last r hr)
  unfold depthN
  rw [way_of b.nd hr]
  exact w.depthL g
theorem rem_pw {R : List Row} {B : List RRow} : (remR R B).Pairwise fun x y => depthN R B y ≤ depthN R B x := by
  unfold remR
  rw [List.pairwise_flatMap]
  refine ⟨fun i hi => ?_, ?_⟩
  · rw [List.pairwise_filter]
    refine List.pairwise_of_forall fun x y h1 h2 => ?_
    rw [of_decide_eq_true h1, of_decide_eq_true h2]
    exact Nat.le_refl _
  · refine List.Pairwise.imp_of_mem (fun {i k} hi hk hik a ha b hb => ?_) (List.pairwise_lt_range (n := R.length))
    rw [of_decide_eq_true (List.mem_filter.mp ha).2, of_decide_eq_true (List.mem_filter.mp hb).2]
    omega
theorem rem_mem {R : List Row} (g : GoodRows R) {B : List RRow} (b : RtOk R B) {n : Str} : n ∈ remR R B ↔ n ∈ rnm B := by
  unfold remR
  rw [List.mem_flatMap]
  constructor
  · rintro ⟨i, _, h⟩
    exact (List.mem_filter.mp h).1
  · intro h
    obtain ⟨h1, h2⟩ := depth_ok g b h
    exact ⟨R.length - depthN R B n, List.mem_range.mpr (by omega), List.mem_filter.mpr ⟨h, decide_eq_true (by omega)⟩⟩
theorem rem_nd {R : List Row} (g : GoodRows R) {B : List RRow} (b : RtOk R B) : (remR R B).Nodup := by
  unfold remR List.Nodup
  rw [List.pairwise_flatMap]
  refine ⟨fun i hi => List.Pairwise.filter _ b.nd, ?_⟩
  refine List.Pairwise.imp_of_mem (fun {i k} hi hk hik a ha c hc e => ?_) (List.pairwise_lt_range (n := R.length))
  have h1 := of_decide_eq_true (List.mem_filter.mp ha).2
  have h2 := of_decide_eq_true (List.mem_filter.mp hc).2
  rw [e, h2] at h1
  have hi := List.mem_range.mp hi
  have hk := List.mem_range.mp hk
  omega
theorem rem_perm {R : List Row} (g : GoodRows R) {B : List RRow} (b : RtOk R B) : (remR R B).Perm (rnm B) :=
  (List.perm_ext_iff_of_nodup (rem_nd g b) b.nd).mpr fun _ => rem_mem g b
/-! ### meeting -/
def meetL (R : List Row) (B : List RRow) (a b : Str) : List Str := (wayN R B a).filter fun y => decide (y ∈ wayN R B b)
def meetB (R : List Row) (B : List RRow) (a b : Str) : Bool := (wayN R B a).any fun y => decide (y ∈ wayN R B b)
theorem meet_iff {R : List Row} {B : List RRow} {a b : Str} : meetB R B a b = true ↔ ∃ y, y ∈ wayN R B a ∧ y ∈ wayN R B b := by
  unfold meetB
  rw [List.any_eq_true]
  constructor
  · rintro ⟨y, h1, h2⟩
    exact ⟨y, h1, of_decide_eq_true h2⟩
  · rintro ⟨y, h1, h2⟩
    exact ⟨y, h1, decide_eq_true h2⟩
theorem meet_symm {R : List Row} {B : List RRow} (a b : Str) : meetB R B a b = meetB R B b a := by
  rw [Bool.eq_iff_iff, meet_iff, meet_iff]
  exact ⟨fun ⟨y, h1, h2⟩ => ⟨y, h2, h1⟩, fun ⟨y, h1, h2⟩ => ⟨y, h2, h1⟩⟩
theorem meetL_any {R : List Row} {B : List RRow} {a b : Str} : (meetL R B a b ≠ []) ↔ meetB R B a b = true := by
  rw [meet_iff]
  unfold meetL
  constructor
  · intro h
    obtain ⟨y, hy⟩ := List.exists_mem_of_ne_nil _ h
    obtain ⟨h1, h2⟩ := List.mem_filter.mp hy
    exact ⟨y, h1, of_decide_eq_true h2⟩
  · rintro ⟨y, h1, h2⟩ e
    have : y ∈ (wayN R B a).filter fun y => decide (y ∈ wayN R B b) := List.mem_filter.mpr ⟨h1, decide_eq_true h2⟩
    rw [e] at this
    cases this
/-- taken away earlier and met: the later one passes the last weir of the earlier -/
theorem meet_rem {R : List Row} (g : GoodRows R) {B : List RRow} (b : RtOk R B) {x y : Str} (hx : x ∈ rnm B) (hy : y ∈ rnm B) (hd : depthN R B y ≤ depthN R B x) (h : meetB R B x y = true) : lastW (wayN R B x) ∈ wayN R B y := by
  obtain ⟨z, h1, h2⟩ := meet_iff.mp h
  obtain ⟨r, hr, rfl⟩ := List.mem_map.mp hx
  obtain ⟨q, hq, rfl⟩ := List.mem_map.mp hy
  obtain ⟨m1, k1, w1⟩ := way_is g (b.inn r hr) (b.last r hr)
  obtain ⟨m2, k2, w2⟩ := way_is g (b.inn q hq) (b.last q hq)
  unfold depthN at hd
  rw [way_of b.nd hr] at hd h1 ⊢
  rw [way_of b.nd hq] at hd h2 ⊢
  exact meet_last g w1 w2 h1 h2 hd
theorem last_in {R : List Row} (g : GoodRows R) {B : List RRow} (b : RtOk R B) {x : Str} (hx : x ∈ rnm B) : lastW (wayN R B x) ∈ wayN R B x ∧ lastW (wayN R B x) ∈ nmsOf R := by
  obtain ⟨r, hr, rfl⟩ := List.mem_map.mp hx
  obtain ⟨m1, k1, w1⟩ := way_is g (b.inn r hr) (b.last r hr)
  rw [way_of b.nd hr]
  exact ⟨w1.lastIn, w1.sub _ w1.lastIn⟩
theorem way_sub {R : List Row} (g : GoodRows R) {B : List RRow} (b : RtOk R B) {x : Str} (hx : x ∈ rnm B) : ∀ y ∈ wayN R B x, y ∈ nmsOf R := by
  obtain ⟨r, hr, rfl⟩ := List.mem_map.mp hx
  obtain ⟨m1, k1, w1⟩ := way_is g (b.inn r hr) (b.last r hr)
  rw [way_of b.nd hr]
  exact w1.sub
def passR (R : List Row) (B : List RRow) (y : Str) : List Str := (rnm B).filter fun n => decide (y ∈ wayN R B n)
end K0
end
section
set_option Elab.async false
set_option linter.all false
set_option maxRecDepth 100000
namespace K0
open PySem PySem.Spec PyProof.Rows L2
/-! ### what a river is asked, for weirs that there are -/
abbrev sIsDown : Stmt := inClass sRiver 11
abbrev sWay : Stmt := inClass sRiver 13
/-- River's own special method -/
structure Sc (K : PySem.W.Frag) (Cr : Addr) : Prop where
  has : ∃ f fd, FnM K "__contains__" "River.__contains__" sContains f fd ∧ PySem.W.findIn K (.ref Cr) "__contains__" = some (some (.ref f)) ∧ PySem.W.isFn K (.ref f) = true
abbrev GHasS (Cr : Addr) : Hp → Addr → V → Bool → Prop := fun H p x b => ∃ AR y, RivAt Cr H p AR ∧ x = .str y ∧ b = decide (y ∈ namesOf AR)
theorem scContains : FnScope ["self", "x"] ["self", "x"] (defScope sContains) := ⟨rfl, rfl, rfl, by decide +kernel, rfl, by decide +kernel, by decide +kernel⟩
theorem scNeed : FnScope ["river", "weir"] ["river", "weir"] (defScope sNeed) := ⟨rfl, rfl, rfl, by decide +kernel, rfl, by decide +kernel, by decide +kernel⟩
theorem scCourseM : FnScope ["self", "weir"] ["self", "weir"] (defScope sCourseM) := ⟨rfl, rfl, rfl, by decide +kernel, rfl, by decide +kernel, by decide +kernel⟩
theorem scDepth : FnScope ["self", "weir"] ["self", "weir"] (defScope sDepth) := ⟨rfl, rfl, rfl, by decide +kernel, rfl, by decide +kernel, by decide +kernel⟩
theorem scIsDown : FnScope ["self", "high", "low"] ["self", "high", "low"] (defScope sIsDown) := ⟨rfl, rfl, rfl, by decide +kernel, rfl, by decide +kernel, by decide +kernel⟩
theorem scWay : FnScope ["self", "intake", "last", "course"] ["self", "intake", "last"] (defScope sWay) := ⟨rfl, rfl, rfl, by decide +kernel, rfl, by decide +kernel, by decide +kernel⟩
theorem scRows : FnScope ["self"] ["self"] (defScope sRows) := ⟨rfl, rfl, rfl, by decide +kernel, rfl, by decide +kernel, by decide +kernel⟩
/-- a tuple of texts -/
def TxR (H : Hp) (t : Addr) (l : List Str) : Prop := Rd H t (.tup (l.map V.str))
theorem TxR.same {H H' : Hp} {t : Addr} {l : List Str} (h : TxR H t l) (s : Same H H') : TxR H' t l := same_rd s h
def spNeedS (Cr : Addr) : Sp := fun vs H Q _ => ∃ (p : Addr) (y : Str) (AR : List (Addr × Row)), vs = [.ref p, .str y] ∧ RivAt Cr H p AR ∧ y ∈ namesOf AR ∧ Q .non H
def spCourseS (Cr : Addr) : Sp := fun vs H Q _ => ∃ (p : Addr) (y : Str) (AR : List (Addr × Row)), vs = [.ref p, .str y] ∧ RivAt Cr H p AR ∧ y ∈ namesOf AR ∧ ∀ t, TxR H t (course (rowsOf AR) y) → Q (.ref t) H
def spDepthS (Cr : Addr) : Sp := fun vs H Q _ => ∃ (p : Addr) (y : Str) (AR : List (Addr × Row)), vs = [.ref p, .str y] ∧ RivAt Cr H p AR ∧ y ∈ namesOf AR ∧ Q (.int ((course (rowsOf AR) y).length : Int)) H
def spDownS (Cr : Addr) : Sp := fun vs H Q _ => ∃ (p : Addr) (a b : Str) (AR : List (Addr × Row)), vs = [.ref p, .str a, .str b] ∧ RivAt Cr H p AR ∧ a ∈ namesOf AR ∧ b ∈ namesOf AR ∧ Q (.bl (decide (b ∈ course (rowsOf AR) a))) H
def spWayS (Cr : Addr) : Sp := fun vs H Q _ => ∃ (p : Addr) (r : RRow) (AR : List (Addr × Row)), vs = [.ref p, .str r.2.1, .str r.2.2] ∧ RivAt Cr H p AR ∧ GoodRows (rowsOf AR) ∧ r.2.1 ∈ namesOf AR ∧ (r.2.2 = "sea" ∨ r.2.2 ∈ course (rowsOf AR) r.2.1) ∧ ∀ t H', Same H H' → TxR H' t (wayB (rowsOf AR) r) → Q (.ref t) H'
def spRows (Cr : Addr) : Sp := fun vs H Q _ => ∃ (p : Addr) (AR : List (Addr × Row)), vs = [.ref p] ∧ RivAt Cr H p AR ∧ ∀ l, H l = none → Q (.ref l) (upd H l (.lst (AR.map fun q => .ref q.1)))
section
variable {P : Program} {w : World} {K : PySem.W.Frag} {mg : Str → Option Value} {base : Heap} {tS tM tL : Tok}
theorem ok_containsS {f Cr : Addr} {fd : FuncData} (F : FnM K "__contains__" "River.__contains__" sContains f fd) (T : Rv K mg Cr) (B : Bl mg) : FnOk P w K mg base CX0 1 f fd ["self", "x"] (spHas (GHasS Cr)) := by
  refine F.ok scContains (fun vs H Q E h => ?_) (fun cdv A outer s H vs Q E hr h => ?_)
  · obtain ⟨p, x, b, rfl, _⟩ := h
    rfl
  · obtain ⟨p, x, b, rfl, ⟨AR, y, R, rfl, rfl⟩, k⟩ := h
    have hu := hu_of hr
    refine ⟨_, PSs.nox (pss_one
      (ps_ret (pe_and (pe_callB call_isi (by rfl) B.isinstance (by decide +kernel) (pa_cons (pv 1) (pa_cons (pe_bltn (v := .ty "str") (by rfl) B.str (by decide +kernel) rfl) pa_nil))) (pe_one (pe_cmp (pc_din hu (pv 1) (fldK (K := K) (pv 0) rfl)) rfl))))), ?_⟩
    obtain ⟨dx, tw, tr, db, dc, da, du, o, h1, h2, h3, h4, h5, h6, h7, h8, h9⟩ := R.ex
    refine ⟨_, rfl, .str y, .ty "str", _, _, true, rfl, .ty "str", .base (.str y), kit_ty (by decide +kernel), true, rfl, iteT ?_⟩
    refine ⟨_, rfl, _, rfl, p, Cr, dx, _, _, rfl, h1, T.cl, T._below, g7b _ _ _ _ _ _ _, ?_⟩
    by_cases hy : y ∈ namesOf AR
    · refine ⟨db, some (.str (lowR (rowsOf AR) y)), rfl, dget_rn (.inl h5) hy, ?_⟩
      rw [decide_eq_true hy] at k
      exact k
    · refine ⟨db, none, rfl, .inl ⟨_, Sum.inr y, .inl h5, rfl, (kmap_not hy).symm⟩, ?_⟩
      rw [decide_eq_false hy] at k
      exact k
theorem ok_needS {f Cr : Addr} {fd : FuncData} (F : FnP K "need_weir" sNeed f fd) (M : Sc K Cr) (T : Rv K mg Cr) (B : Bl mg) : FnOk P w K mg base CX0 2 f fd ["river", "weir"] (spNeedS Cr) := by
  obtain ⟨fC, fdC, FC, hs, hf⟩ := M.has
  have GC : FnOk P w K mg base CX0 1 fC fdC ["self", "x"] (spHas (GHasS Cr)) := ok_containsS FC T B
  have bC : Binds K fdC ["self", "x"] [] := FC.bindsN fun _ _ _ _ _ _ us hl => match us, hl with | [_, _], _ => rfl
  refine F.ok scNeed (fun vs H Q E h => ?_) (fun cdv A outer s H vs Q E hr h => ?_)
  · obtain ⟨p, y, AR, rfl, _⟩ := h
    rfl
  · obtain ⟨p, y, AR, rfl, R, hy, k⟩ := h
    refine ⟨_, PSs.nox (pss_one
      (ps_if (pt_cmpR (k0_notIn_own (K := K) GC hr hs hf bC) (pv 1) (pv 0) (by rfl)) (pss_one
      ps_never) pss_nil)), ?_⟩
    obtain ⟨dx, tw, tr, db, dc, da, du, o, h1, _⟩ := id R.ex
    refine ⟨_, rfl, _, rfl, p, dx, _, true, rfl, h1, ⟨AR, y, R, rfl, (decide_eq_true hy).symm⟩, _, rfl, ?_⟩
    exact iteF k
/-- need_weir and what it promises -/
structure NdS (P : Program) (w : World) (K : PySem.W.Frag) (mg : Str → Option Value) (base : Heap) (Cr : Addr) : Prop where
  ex : ∃ f fd, FnP K "need_weir" sNeed f fd ∧ mg "need_weir" = some (.ref f) ∧ FnOk P w K mg base CX0 2 f fd ["river", "weir"] (spNeedS Cr)
theorem ok_courseS {f Cr : Addr} {fd : FuncData} (F : FnM K "course" "River.course" sCourseM f fd) (D : NdS P w K mg base Cr) (T : Rv K mg Cr) : FnOk P w K mg base CX0 3 f fd ["self", "weir"] (spCourseS Cr) := by
  obtain ⟨fN, fdN, Fneed_weir, gneed_weir, Gneed_weir⟩ := D.ex
  have bneed_weir : Binds K fdN ["river", "weir"] [] := Fneed_weir.bindsN fun _ _ _ _ _ _ us hl => match us, hl with | [_, _], _ => rfl
  refine F.ok scCourseM (fun vs H Q E h => ?_) (fun cdv A outer s H vs Q E hr h => ?_)
  · obtain ⟨p, y, AR, rfl, _⟩ := h
    rfl
  · obtain ⟨p, y, AR, rfl, R, hy, k⟩ := h
    have hu := hu_of hr
    have hrneed_weir : Room 2 _ := hr
    refine ⟨_, PSs.nox (pss_cons
      (ps_expr (pe_call Gneed_weir hrneed_weir (by rfl) gneed_weir Fneed_weir.kp bneed_weir .nil pass0 (pa_cons (pv 0) (pa_cons (pv 1) pa_nil))))
      (pss_one
      (ps_ret (pe_dget hu (fldK (K := K) (pv 0) rfl) (pv 1) (fun _ _ => rfl))))), ?_⟩
    obtain ⟨dx, tw, tr, db, dc, da, du, o, h1, h2, h3, h4, h5, h6, h7, h8, h9⟩ := id R.ex
    obtain ⟨ta, q1, q2⟩ := h6.ex
    refine ⟨_, rfl, _, rfl, p, y, AR, rfl, R, hy, ?_⟩
    exact ⟨_, rfl, p, Cr, dx, _, _, rfl, h1, T.cl, T._courses, g7c _ _ _ _ _ _ _, _, rfl, dc, _, rfl, dget_rn (.inl q1) hy, k _ (q2 y hy).rd⟩
theorem ok_depthS {f fC Cr : Addr} {fd fdC : FuncData} (F : FnM K "depth" "River.depth" sDepth f fd) (FC : FnM K "course" "River.course" sCourseM fC fdC) (Mcourse : Meth K Cr "course" fC) (D : NdS P w K mg base Cr) (T : Rv K mg Cr) (B : Bl mg) : FnOk P w K mg base CX0 4 f fd ["self", "weir"] (spDepthS Cr) := by
  have Gcourse : FnOk P w K mg base CX0 3 fC fdC ["self", "weir"] (spCourseS Cr) := ok_courseS FC D T
  have bcourse : Binds K fdC ["self", "weir"] [] := FC.bindsN fun _ _ _ _ _ _ us hl => match us, hl with | [_, _], _ => rfl
  refine F.ok scDepth (fun vs H Q E h => ?_) (fun cdv A outer s H vs Q E hr h => ?_)
  · obtain ⟨p, y, AR, rfl, _⟩ := h
    rfl
  · obtain ⟨p, y, AR, rfl, R, hy, k⟩ := h
    have hrcourse : Room 3 _ := hr
    refine ⟨_, PSs.nox (pss_one
      (ps_ret (pe_callB (lenK (K := K)) (by rfl) B.len PySem.boot_len (pa_cons (pe_meth (pv 0) T.cl Mcourse Gcourse hrcourse bcourse .nil pass0 (pa_cons (pv 1) pa_nil)) pa_nil)))), ?_⟩
    obtain ⟨dx, tw, tr, db, dc, da, du, o, h1, h2, h3, h4, h5, h6, h7, h8, h9⟩ := id R.ex
    refine ⟨_, rfl, p, dx, _, rfl, h1, g7no _ _ _ _ _ _ _ (by decide +kernel) (by decide +kernel) (by decide +kernel) (by decide +kernel) (by decide +kernel) (by decide +kernel) (by decide +kernel), _, rfl, p, y, AR, rfl, R, hy, fun t ht => ?_⟩
    refine ⟨t, _, rfl, .inr (.inl ht), ?_⟩
    rw [List.length_map]
    exact k
theorem ok_isdownS {f Cr : Addr} {fd : FuncData} (F : FnM K "is_down" "River.is_down" sIsDown f fd) (D : NdS P w K mg base Cr) (T : Rv K mg Cr) : FnOk P w K mg base CX0 3 f fd ["self", "high", "low"] (spDownS Cr) := by
  obtain ⟨fN, fdN, Fneed_weir, gneed_weir, Gneed_weir⟩ := D.ex
  have bneed_weir : Binds K fdN ["river", "weir"] [] := Fneed_weir.bindsN fun _ _ _ _ _ _ us hl => match us, hl with | [_, _], _ => rfl
  refine F.ok scIsDown (fun vs H Q E h => ?_) (fun cdv A outer s H vs Q E hr h => ?_)
  · obtain ⟨p, a, b, AR, rfl, _⟩ := h
    rfl
  · obtain ⟨p, a, b, AR, rfl, R, ha, hb, k⟩ := h
    have hu := hu_of hr
    have hrneed_weir : Room 2 _ := hr
    refine ⟨_, PSs.nox (pss_cons
      (ps_expr (pe_call Gneed_weir hrneed_weir (by rfl) gneed_weir Fneed_weir.kp bneed_weir .nil pass0 (pa_cons (pv 0) (pa_cons (pv 1) pa_nil))))
      (pss_cons
      (ps_expr (pe_call Gneed_weir hrneed_weir (by rfl) gneed_weir Fneed_weir.kp bneed_weir .nil pass0 (pa_cons (pv 0) (pa_cons (pv 2) pa_nil))))
      (pss_one
      (ps_ret (pe_cmpR (inK (K := K)) (pv 2) (pe_dget hu (fldK (K := K) (pv 0) rfl) (pv 1) (fun _ _ => rfl)) (by rfl)))))), ?_⟩
    obtain ⟨dx, tw, tr, db, dc, da, du, o, h1, h2, h3, h4, h5, h6, h7, h8, h9⟩ := id R.ex
    obtain ⟨ta, q1, q2⟩ := h6.ex
    refine ⟨_, rfl, _, rfl, p, a, AR, rfl, R, ha, ?_⟩
    refine ⟨_, rfl, _, rfl, p, b, AR, rfl, R, hb, ?_⟩
    refine ⟨_, rfl, _, rfl, p, Cr, dx, _, _, rfl, h1, T.cl, T._courses, g7c _ _ _ _ _ _ _, _, rfl, dc, _, rfl, dget_rn (.inl q1) ha, ta a, _, rfl, .inr (.inl (q2 a ha).rd), rfl, flat_strs _, ?_⟩
    rw [inV_str]
    exact k
theorem ok_wayS {f Cr : Addr} {fd : FuncData} (F : FnM K "way" "River.way" sWay f fd) (D : NdS P w K mg base Cr) (T : Rv K mg Cr) (C : Gc mg tS tM tL) : FnOk P w K mg base CX0 3 f fd ["self", "intake", "last"] (spWayS Cr) := by
  obtain ⟨fN, fdN, Fneed_weir, gneed_weir, Gneed_weir⟩ := D.ex
  have bneed_weir : Binds K fdN ["river", "weir"] [] := Fneed_weir.bindsN fun _ _ _ _ _ _ us hl => match us, hl with | [_, _], _ => rfl
  refine F.ok scWay (fun vs H Q E h => ?_) (fun cdv A outer s H vs Q E hr h => ?_)
  · obtain ⟨p, r, AR, rfl, _⟩ := h
    rfl
  · obtain ⟨p, r, AR, rfl, R, hG, ha, hl0, k⟩ := h
    have hu := hu_of hr
    have hrneed_weir : Room 2 _ := hr
    refine ⟨_, PSs.nox (pss_cons
      (ps_expr (pe_call Gneed_weir hrneed_weir (by rfl) gneed_weir Fneed_weir.kp bneed_weir .nil pass0 (pa_cons (pv 0) (pa_cons (pv 1) pa_nil))))
      (pss_cons
      (ps_set (i := 3) scWay.nd rfl (Or.inl rfl) (pe_dget hu (fldK (K := K) (pv 0) rfl) (pv 1) (fun _ _ => rfl)))
      (pss_cons
      (ps_if (pt_cmpR op_eq (pv 2) (pe_glob (v := .str "sea") (by rfl) C.SEA ⟨_, rfl⟩) (nomark _)) (pss_one
      (ps_ret (pv 3))) pss_nil)
      (pss_cons
      (ps_expr (pe_call Gneed_weir hrneed_weir (by rfl) gneed_weir Fneed_weir.kp bneed_weir .nil pass0 (pa_cons (pv 0) (pa_cons (pv 2) pa_nil))))
      (pss_cons
      (ps_if (pt_cmpR (notInK (K := K)) (pv 2) (pv 3) (by rfl)) (pss_one
      ps_never) pss_nil)
      (pss_one
      (ps_ret (pe_slice sl_tupA (pv 3) po_none (po_some (pe_op op_add (k0_bmT PySem.F.slot_tuple_index PySem.F.type_tuple_index mt_tup_index (pv 3) (pa_cons (pv 2) pa_nil)) pe_int)))))))))), ?_⟩
    obtain ⟨dx, tw, tr, db, dc, da, du, o, h1, h2, h3, h4, h5, h6, h7, h8, h9⟩ := id R.ex
    obtain ⟨ta, q1, q2⟩ := h6.ex
    refine ⟨_, rfl, _, rfl, p, r.2.1, AR, rfl, R, ha, ?_⟩
    refine ⟨_, rfl, p, Cr, dx, _, _, rfl, h1, T.cl, T._courses, g7c _ _ _ _ _ _ _, _, rfl, dc, _, rfl, dget_rn (.inl q1) ha, ?_⟩
    refine ⟨_, rfl, rfl, _, rfl, ?_⟩
    refine ite2 (fun e => ?_) (fun e => ?_)
    · have e : r.2.2 = "sea" := V.str.inj (of_decide_eq_true e)
      refine ⟨_, rfl, k _ _ (.refl _) ?_⟩
      unfold wayB
      rw [if_pos e]
      exact (q2 _ ha).rd
    · have e : ¬ r.2.2 = "sea" := fun z => e (decide_eq_true (congrArg V.str z))
      have hin := hl0.resolve_left e
      have hb : r.2.2 ∈ namesOf AR := course_sub hG ha _ hin
      refine ⟨_, rfl, _, rfl, p, r.2.2, AR, rfl, R, hb, ?_⟩
      refine ⟨_, rfl, _, rfl, ta r.2.1, _, rfl, .inr (.inl (q2 _ ha).rd), rfl, flat_strs _, _, rfl, ?_⟩
      rw [inV_str, decide_eq_true hin]
      refine iteF ?_
      have hlt := List.idxOf_lt_length_iff.mpr hin
      have hat : (course (rowsOf AR) r.2.1)[(course (rowsOf AR) r.2.1).idxOf r.2.2]? = some r.2.2 := by
        rw [List.getElem?_eq_getElem hlt, List.getElem_idxOf]
      have hfst : ∀ m, m < (course (rowsOf AR) r.2.1).idxOf r.2.2 → (course (rowsOf AR) r.2.1)[m]? ≠ some r.2.2 := fun m hm e => by
        have q := List.not_of_lt_findIdx (p := fun z => z == r.2.2) (xs := course (rowsOf AR) r.2.1) hm
        obtain ⟨hml, e2⟩ := List.getElem?_eq_some_iff.mp e
        rw [e2, beq_self_eq_true] at q
        cases q
      have hl : ((course (rowsOf AR) r.2.1).map V.str).length = (course (rowsOf AR) r.2.1).length := List.length_map _
      have haf := q2 r.2.1 ha
      obtain ⟨ot, pt, et⟩ := id haf
      have hmost : (course (rowsOf AR) r.2.1).length ≤ 40 := by
        obtain ⟨m, c⟩ := course_is hG ha
        rw [c.len]
        exact Nat.le_trans c.most hG.most
      have kw : ∀ t H', Same H H' → TxR H' t ((course (rowsOf AR) r.2.1).take ((course (rowsOf AR) r.2.1).idxOf r.2.2 + 1)) → Q (.ref t) H' := fun t H' s ht => by
        refine k t H' s ?_
        unfold wayB
        rw [if_neg e]
        exact ht
      refine ⟨_, rfl, ?_⟩
      refine ⟨_, rfl, ⟨ta r.2.1, ot, _, rfl, et, pt⟩, ?_⟩
      refine ⟨_, rfl, ta r.2.1, course (rowsOf AR) r.2.1, r.2.2, (course (rowsOf AR) r.2.1).idxOf r.2.2, rfl, rfl, .inl haf.rd, hat, hfst, ?_⟩
      refine ⟨_, _, rfl, rfl, ?_⟩
      have es : HT.sIx ((course (rowsOf AR) r.2.1).map V.str).length ((course (rowsOf AR) r.2.1).map V.str).length (some (((course (rowsOf AR) r.2.1).idxOf r.2.2 : Int) + 1)) = (course (rowsOf AR) r.2.1).idxOf r.2.2 + 1 := by
        have e := HT.sIx_nat ((course (rowsOf AR) r.2.1).map V.str).length ((course (rowsOf AR) r.2.1).map V.str).length ((course (rowsOf AR) r.2.1).idxOf r.2.2 + 1)
        rw [Int.natCast_add] at e
        have e : HT.sIx ((course (rowsOf AR) r.2.1).map V.str).length ((course (rowsOf AR) r.2.1).map V.str).length (some (((course (rowsOf AR) r.2.1).idxOf r.2.2 : Int) + 1)) = min ((course (rowsOf AR) r.2.1).idxOf r.2.2 + 1) ((course (rowsOf AR) r.2.1).map V.str).length := e
        rw [e, hl]
        omega
      refine ⟨_, rfl, ta r.2.1, _, rfl, .inl haf.rd, fun hw => ?_, fun hw t nt => ?_⟩
      · have hw2 := hw.2
        rw [es, hl] at hw2
        refine kw _ H (.refl _) ?_
        rw [List.take_of_length_le (by omega)]
        exact haf.rd
      · refine kw _ _ (same_upd nt) (.inl ?_)
        rw [upd_same]
        unfold cutV
        rw [es, HT.sIx_none, List.drop_zero, Nat.sub_zero, List.map_take]
theorem ok_rows {f Cr : Addr} {fd : FuncData} (F : FnM K "rows" "River.rows" sRows f fd) (T : Rv K mg Cr) (B : Bl mg) : FnOk P w K mg base CX0 1 f fd ["self"] (spRows Cr) := by
  refine F.ok scRows (fun vs H Q E h => ?_) (fun cdv A outer s H vs Q E hr h => ?_)
  · obtain ⟨p, AR, rfl, _⟩ := h
    rfl
  · obtain ⟨p, AR, rfl, R, k⟩ := h
    refine ⟨_, PSs.nox (pss_one
      (ps_ret (pe_callTy (listK (K := K)) (by rfl) B.list (by decide +kernel) (pa_cons (fldK (K := K) (pv 0) rfl) pa_nil)))), ?_⟩
    obtain ⟨dx, tw, tr, db, dc, da, du, o, h1, h2, h3, h4, h5, h6, h7, h8, h9⟩ := R.ex
    exact ⟨_, rfl, p, Cr, dx, _, _, rfl, h1, T.cl, T._rows, g7r _ _ _ _ _ _ _, tr, _, rfl, .inr (.inl (.inl h3)), fun l nl => k l nl⟩
end
end K0
end
section
set_option Elab.async false
set_option linter.all false
set_option maxRecDepth 100000
namespace L2
open PySem PySem.Spec PyProof.Rows
/-! ### comprehensions whose turns only lay new objects -/
/-- what a turn may end in -/
def Put1 (D : Addr) (acc acc' : List V) (H : Hp) (Nx : Hp → Prop) : Prop := ∀ (y : V) (H4 : Hp), Same H H4 → acc' = acc ++ [y] → ∃ a, H4 D = some (.lst a) ∧ a.length < sizeLine ∧ Nx (upd H4 D (.lst (a ++ [y])))
def Skip1 (acc acc' : List V) (H : Hp) (Nx : Hp → Prop) : Prop := ∀ H3, Same H H3 → acc' = acc → Nx H3
def Out1 (H1 : Hp) (D : Addr) (out : Nat → List V) (i : Nat) (H : Hp) : Prop := Same H1 H ∧ H D = some (.lst (out i))
theorem out1_0 {H1 : Hp} {D : Addr} {out : Nat → List V} (hD : H1 D = none) (h0 : out 0 = []) : Out1 H1 D out 0 (upd H1 D (.lst [])) :=
  ⟨fun b o hb => by rw [upd_ne (ne_of_none hb hD)]; exact hb, by rw [upd_same, h0]⟩
theorem out1_put {H1 H : Hp} {D : Addr} {out : Nat → List V} {i : Nat} (hD : H1 D = none) (hl : (out i).length < sizeLine) (h : Out1 H1 D out i H) : Put1 D (out i) (out (i + 1)) H (Out1 H1 D out (i + 1)) := fun y H4 s e => by
  refine ⟨_, s _ _ h.2, hl, fun b o hb => ?_, ?_⟩
  · rw [upd_ne (ne_of_none hb hD)]
    exact s _ _ (h.1 _ _ hb)
  · rw [upd_same, e]
theorem out1_skip {H1 H : Hp} {D : Addr} {out : Nat → List V} {i : Nat} (h : Out1 H1 D out i H) : Skip1 (out i) (out (i + 1)) H (Out1 H1 D out (i + 1)) := fun H3 s e => ⟨h.1.trans s, by rw [s _ _ h.2, e]⟩
section
variable {K : PySem.W.Frag} {a : Addr} {xs : List V} {g : TG} {tt : TT} {te : TE} {vs : List Nat} {σ : St} {H1 : Hp} {D : Addr} {Qd : Hp → Prop}
theorem lc_listO (hD : H1 D = none) (out : Nat → List V) (h0 : out 0 = []) (hz : ∀ i, i ≤ xs.length → (out i).length < sizeLine) (hl : SqL K H1 a xs)
    (hs : ∀ i x H (Nx : Hp → Prop), xs[i]? = some x → Same H1 H → Put1 D (out i) (out (i + 1)) H Nx → Skip1 (out i) (out (i + 1)) H Nx → g x (wipe σ vs) H fun σ2 H2 => wipe σ2 vs = wipe σ vs ∧ tt σ2 H2 fun b H3 =>
      if b = true then te σ2 H3 fun y H4 => ∃ acc, H4 D = some (.lst acc) ∧ acc.length < sizeLine ∧ Nx (upd H4 D (.lst (acc ++ [y]))) else Nx H3) (hd : ∀ H, Same H1 H → H D = some (.lst (out xs.length)) → Qd H) :
    ∃ W : Nat → Nat → Hp → Prop, (∃ m, W 0 m (upd H1 D (.lst []))) ∧ ∀ i m H, W i m H →
      ((Itl K a).stop i H ∧ Qd H) ∨ ((Itl K a).go i H ∧ ∃ Nx : Hp → Prop, (∀ H', Nx H' → ∃ m', m' < m ∧ W (i + 1) m' H') ∧ ∀ x H', (Itl K a).yld i H x H' → g x (wipe σ vs) H' fun σ2 H2 => wipe σ2 vs = wipe σ vs ∧ tt σ2 H2 fun b H3 =>
        if b = true then te σ2 H3 fun y H4 => ∃ acc, H4 D = some (.lst acc) ∧ acc.length < sizeLine ∧ Nx (upd H4 D (.lst (acc ++ [y]))) else Nx H3) :=
  lc_list (Out1 H1 D out) (out1_0 hD h0) (fun i H _ h => h.1.seq hl) (fun i x H hx h => hs i x H _ hx h.1 (out1_put hD (hz i (by have := (List.getElem?_eq_some_iff.mp hx).1; omega)) h) (out1_skip h)) (fun H h => hd H h.1 h.2)
theorem lc_tupO (hD : H1 D = none) (out : Nat → List V) (h0 : out 0 = []) (hz : ∀ i, i ≤ xs.length → (out i).length < sizeLine) (hl : ∀ H, Same H1 H → SqT K H a xs)
    (hs : ∀ i x H (Nx : Hp → Prop), xs[i]? = some x → Same H1 H → Put1 D (out i) (out (i + 1)) H Nx → Skip1 (out i) (out (i + 1)) H Nx → g x (wipe σ vs) H fun σ2 H2 => wipe σ2 vs = wipe σ vs ∧ tt σ2 H2 fun b H3 =>
      if b = true then te σ2 H3 fun y H4 => ∃ acc, H4 D = some (.lst acc) ∧ acc.length < sizeLine ∧ Nx (upd H4 D (.lst (acc ++ [y]))) else Nx H3) (hd : ∀ H, Same H1 H → H D = some (.lst (out xs.length)) → Qd H) :
    ∃ W : Nat → Nat → Hp → Prop, (∃ m, W 0 m (upd H1 D (.lst []))) ∧ ∀ i m H, W i m H →
      ((Itt K a).stop i H ∧ Qd H) ∨ ((Itt K a).go i H ∧ ∃ Nx : Hp → Prop, (∀ H', Nx H' → ∃ m', m' < m ∧ W (i + 1) m' H') ∧ ∀ x H', (Itt K a).yld i H x H' → g x (wipe σ vs) H' fun σ2 H2 => wipe σ2 vs = wipe σ vs ∧ tt σ2 H2 fun b H3 =>
        if b = true then te σ2 H3 fun y H4 => ∃ acc, H4 D = some (.lst acc) ∧ acc.length < sizeLine ∧ Nx (upd H4 D (.lst (acc ++ [y]))) else Nx H3) :=
  lc_tup (Out1 H1 D out) (out1_0 hD h0) (fun i H _ h => hl H h.1) (fun i x H hx h => hs i x H _ hx h.1 (out1_put hD (hz i (by have := (List.getElem?_eq_some_iff.mp hx).1; omega)) h) (out1_skip h)) (fun H h => hd H h.1 h.2)
theorem lc_itO {J : It} {n : Nat} {G : Hp → Prop} {Y : Nat → Hp → V → Hp → Prop} (w : Walk J n G Y) (hD : H1 D = none) (out : Nat → List V) (h0 : out 0 = []) (hz : ∀ i, i ≤ n → (out i).length < sizeLine) (hG : ∀ H, Same H1 H → G H)
    (hs : ∀ i x H H' (Nx : Hp → Prop), i < n → Same H1 H → H D = some (.lst (out i)) → Put1 D (out i) (out (i + 1)) H Nx → Skip1 (out i) (out (i + 1)) H Nx → Y i H x H' → g x (wipe σ vs) H' fun σ2 H2 => wipe σ2 vs = wipe σ vs ∧ tt σ2 H2 fun b H3 =>
      if b = true then te σ2 H3 fun y H4 => ∃ acc, H4 D = some (.lst acc) ∧ acc.length < sizeLine ∧ Nx (upd H4 D (.lst (acc ++ [y]))) else Nx H3) (hd : ∀ H, Same H1 H → H D = some (.lst (out n)) → Qd H) :
    ∃ W : Nat → Nat → Hp → Prop, (∃ m, W 0 m (upd H1 D (.lst []))) ∧ ∀ i m H, W i m H →
      (J.stop i H ∧ Qd H) ∨ (J.go i H ∧ ∃ Nx : Hp → Prop, (∀ H', Nx H' → ∃ m', m' < m ∧ W (i + 1) m' H') ∧ ∀ x H', J.yld i H x H' → g x (wipe σ vs) H' fun σ2 H2 => wipe σ2 vs = wipe σ vs ∧ tt σ2 H2 fun b H3 =>
        if b = true then te σ2 H3 fun y H4 => ∃ acc, H4 D = some (.lst acc) ∧ acc.length < sizeLine ∧ Nx (upd H4 D (.lst (acc ++ [y]))) else Nx H3) :=
  lc_it w (Out1 H1 D out) (out1_0 hD h0) (fun i H _ h => hG H h.1) (fun i x H H' hi h y => hs i x H H' _ hi h.1 h.2 (out1_put hD (hz i (by omega)) h) (out1_skip h) y) (fun H h => hd H h.1 h.2)
end
/-! the dict forms -/
def PutK1 (D : Addr) (acc acc' : List (Key × V)) (H : Hp) (Nx : Hp → Prop) : Prop := ∀ (k : Key) (z : V) (H5 : Hp), Same H H5 → acc' = putK acc k z → ∃ kvs k', kV k = kV k' ∧ H5 D = some (.dK kvs) ∧ kvs.length < sizeLine ∧ Nx (upd H5 D (.dK (putK kvs k' z)))
def OutK (H1 : Hp) (D : Addr) (out : Nat → List (Key × V)) (i : Nat) (H : Hp) : Prop := Same H1 H ∧ H D = some (.dK (out i))
theorem outK_0 {H1 : Hp} {D : Addr} {out : Nat → List (Key × V)} (hD : H1 D = none) (h0 : out 0 = []) : OutK H1 D out 0 (upd H1 D (.dK [])) :=
  ⟨fun b o hb => by rw [upd_ne (ne_of_none hb hD)]; exact hb, by rw [upd_same, h0]⟩
theorem outK_put {H1 H : Hp} {D : Addr} {out : Nat → List (Key × V)} {i : Nat} (hD : H1 D = none) (hl : (out i).length < sizeLine) (h : OutK H1 D out i H) : PutK1 D (out i) (out (i + 1)) H (OutK H1 D out (i + 1)) := fun k z H5 s e => by
  refine ⟨_, k, rfl, s _ _ h.2, hl, fun b o hb => ?_, ?_⟩
  · rw [upd_ne (ne_of_none hb hD)]
    exact s _ _ (h.1 _ _ hb)
  · rw [upd_same, e]
section
variable {K : PySem.W.Frag} {a : Addr} {xs : List V} {g : TG} {tt : TT} {tk tv : TE} {vs : List Nat} {σ : St} {H1 : Hp} {D : Addr} {Qd : Hp → Prop}
theorem dc_tupO (hD : H1 D = none) (out : Nat → List (Key × V)) (h0 : out 0 = []) (hz : ∀ i, i ≤ xs.length → (out i).length < sizeLine) (hl : ∀ H, Same H1 H → SqT K H a xs)
    (hs : ∀ i x H (Nx : Hp → Prop), xs[i]? = some x → Same H1 H → PutK1 D (out i) (out (i + 1)) H Nx → g x (wipe σ vs) H fun σ2 H2 => wipe σ2 vs = wipe σ vs ∧ tt σ2 H2 fun b H3 =>
      if b = true then tk σ2 H3 fun y H4 => tv σ2 H4 fun z H5 => ∃ kvs k, y = kV k ∧ H5 D = some (.dK kvs) ∧ kvs.length < sizeLine ∧ Nx (upd H5 D (.dK (putK kvs k z))) else Nx H3) (hd : ∀ H, Same H1 H → H D = some (.dK (out xs.length)) → Qd H) :
    ∃ W : Nat → Nat → Hp → Prop, (∃ m, W 0 m (upd H1 D (.dK []))) ∧ ∀ i m H, W i m H →
      ((Itt K a).stop i H ∧ Qd H) ∨ ((Itt K a).go i H ∧ ∃ Nx : Hp → Prop, (∀ H', Nx H' → ∃ m', m' < m ∧ W (i + 1) m' H') ∧ ∀ x H', (Itt K a).yld i H x H' → g x (wipe σ vs) H' fun σ2 H2 => wipe σ2 vs = wipe σ vs ∧ tt σ2 H2 fun b H3 =>
        if b = true then tk σ2 H3 fun y H4 => tv σ2 H4 fun z H5 => ∃ kvs k, y = kV k ∧ H5 D = some (.dK kvs) ∧ kvs.length < sizeLine ∧ Nx (upd H5 D (.dK (putK kvs k z))) else Nx H3) :=
  dc_tup (OutK H1 D out) (outK_0 hD h0) (fun i H _ h => hl H h.1) (fun i x H hx h => hs i x H _ hx h.1 (outK_put hD (hz i (by have := (List.getElem?_eq_some_iff.mp hx).1; omega)) h)) (fun H h => hd H h.1 h.2)
theorem dc_itO {J : It} {n : Nat} {G : Hp → Prop} {Y : Nat → Hp → V → Hp → Prop} (w : Walk J n G Y) (hD : H1 D = none) (out : Nat → List (Key × V)) (h0 : out 0 = []) (hz : ∀ i, i ≤ n → (out i).length < sizeLine) (hG : ∀ H, Same H1 H → G H)
    (hs : ∀ i x H H' (Nx : Hp → Prop), i < n → Same H1 H → H D = some (.dK (out i)) → PutK1 D (out i) (out (i + 1)) H Nx → Y i H x H' → g x (wipe σ vs) H' fun σ2 H2 => wipe σ2 vs = wipe σ vs ∧ tt σ2 H2 fun b H3 =>
      if b = true then tk σ2 H3 fun y H4 => tv σ2 H4 fun z H5 => ∃ kvs k, y = kV k ∧ H5 D = some (.dK kvs) ∧ kvs.length < sizeLine ∧ Nx (upd H5 D (.dK (putK kvs k z))) else Nx H3) (hd : ∀ H, Same H1 H → H D = some (.dK (out n)) → Qd H) :
    ∃ W : Nat → Nat → Hp → Prop, (∃ m, W 0 m (upd H1 D (.dK []))) ∧ ∀ i m H, W i m H →
      (J.stop i H ∧ Qd H) ∨ (J.go i H ∧ ∃ Nx : Hp → Prop, (∀ H', Nx H' → ∃ m', m' < m ∧ W (i + 1) m' H') ∧ ∀ x H', J.yld i H x H' → g x (wipe σ vs) H' fun σ2 H2 => wipe σ2 vs = wipe σ vs ∧ tt σ2 H2 fun b H3 =>
        if b = true then tk σ2 H3 fun y H4 => tv σ2 H4 fun z H5 => ∃ kvs k, y = kV k ∧ H5 D = some (.dK kvs) ∧ kvs.length < sizeLine ∧ Nx (upd H5 D (.dK (putK kvs k z))) else Nx H3) :=
  dc_it w (OutK H1 D out) (outK_0 hD h0) (fun i H _ h => hG H h.1) (fun i x H H' hi h y => hs i x H H' _ hi h.1 h.2 (outK_put hD (hz i (by omega)) h) y) (fun H h => hd H h.1 h.2)
end
end L2
namespace K0
open PySem PySem.Spec PyProof.Rows L2
/-- a dict from names to tuples of names -/
structure TupsR (H : Hp) (c : Addr) (ns : List Str) (g : Str → List Str) : Prop where
  ex : ∃ ta : Str → Addr, H c = some (.dK (kmap (fun y => .ref (ta y)) ns)) ∧ ∀ y ∈ ns, TxR H (ta y) (g y)
theorem TupsR.same {H H' : Hp} {c : Addr} {ns : List Str} {g : Str → List Str} (t : TupsR H c ns g) (s : Same H H') : TupsR H' c ns g := by
  obtain ⟨ta, q1, q2⟩ := t.ex
  exact ⟨ta, s _ _ q1, fun x hx => (q2 x hx).same s⟩
theorem TxR.upd {H : Hp} {t D : Addr} {l : List Str} {u : HO} (h : TxR H t l) (n : t ≠ D) : TxR (upd H D u) t l := by
  rcases h with e | ⟨o, e⟩
  · exact .inl (by rw [upd_ne n]; exact e)
  · exact .inr ⟨o, by rw [upd_ne n]; exact e⟩
theorem TxR.ne {H : Hp} {t D : Addr} {l : List Str} {kvs : List (Key × V)} (h : TxR H t l) (e : H D = some (.dK kvs)) : t ≠ D := by
  rintro rfl
  rcases h with e2 | ⟨o, e2⟩
  · rw [e] at e2
    cases e2
  · rw [e] at e2
    cases e2
theorem tupsR_more {H : Hp} {D t : Addr} {ns : List Str} {g : Str → List Str} {x : Str} (T : TupsR H D ns g) (hx : x ∉ ns) (ht : TxR H t (g x)) :
    ∃ kvs, H D = some (.dK kvs) ∧ kvs.length = ns.length ∧ TupsR (upd H D (.dK (putK kvs (Sum.inr x) (.ref t)))) D (ns ++ [x]) g := by
  obtain ⟨ta, h1, h2⟩ := T.ex
  refine ⟨_, h1, kmap_len _ _, fun y => if y = x then t else ta y, ?_, fun y hy => ?_⟩
  · rw [upd_same]
    have e1 : kmap (fun y => V.ref (ta y)) ns = kmap (fun y => V.ref (if y = x then t else ta y)) ns := kmap_congr fun y hy => by
      rw [if_neg (fun e => hx (by rw [← e]; exact hy))]
    have e2 : V.ref t = (fun y => V.ref (if y = x then t else ta y)) x := by
      show V.ref t = V.ref (if x = x then t else ta x)
      rw [if_pos rfl]
    rw [e1, e2, kmap_put hx]
  · show TxR _ (if y = x then t else ta y) (g y)
    by_cases e : y = x
    · rw [if_pos e, e]
      exact ht.upd (ht.ne h1)
    · rw [if_neg e]
      have hy' : y ∈ ns := (List.mem_append.mp hy).resolve_right fun z => e (List.mem_singleton.mp z)
      have := h2 y hy'
      exact this.upd (this.ne h1)
/-- a dict comprehension from names to tuples of names -/
theorem dc_itT {J : It} {ns : List Str} {gg : Str → List Str} {G : Hp → Prop} {Y : Nat → Hp → V → Hp → Prop} (w : Walk J ns.length G Y) {g : TG} {tt : TT} {tk tv : TE} {vs : List Nat} {σ : L2.St} {H1 : Hp} {D : Addr} {Qd : Hp → Prop} (hnd : ns.Nodup) (hD : H1 D = none) (hz : ns.length ≤ 900) (hG : ∀ H, Same H1 H → G H)
    (hs : ∀ i x y H H' (Nx : Hp → Prop), ns[i]? = some y → Same H1 H → (∀ t H5, Same H H5 → TxR H5 t (gg y) → ∃ kvs k', V.str y = kV k' ∧ H5 D = some (.dK kvs) ∧ kvs.length < sizeLine ∧ Nx (upd H5 D (.dK (putK kvs k' (.ref t))))) → Y i H x H' → g x (wipe σ vs) H' fun σ2 H2 => wipe σ2 vs = wipe σ vs ∧ tt σ2 H2 fun b H3 =>
      if b = true then tk σ2 H3 fun y H4 => tv σ2 H4 fun z H5 => ∃ kvs k, y = kV k ∧ H5 D = some (.dK kvs) ∧ kvs.length < sizeLine ∧ Nx (upd H5 D (.dK (putK kvs k z))) else Nx H3) (hd : ∀ H, Same H1 H → TupsR H D ns gg → Qd H) :
    ∃ W : Nat → Nat → Hp → Prop, (∃ m, W 0 m (upd H1 D (.dK []))) ∧ ∀ i m H, W i m H →
      (J.stop i H ∧ Qd H) ∨ (J.go i H ∧ ∃ Nx : Hp → Prop, (∀ H', Nx H' → ∃ m', m' < m ∧ W (i + 1) m' H') ∧ ∀ x H', J.yld i H x H' → g x (wipe σ vs) H' fun σ2 H2 => wipe σ2 vs = wipe σ vs ∧ tt σ2 H2 fun b H3 =>
        if b = true then tk σ2 H3 fun y H4 => tv σ2 H4 fun z H5 => ∃ kvs k, y = kV k ∧ H5 D = some (.dK kvs) ∧ kvs.length < sizeLine ∧ Nx (upd H5 D (.dK (putK kvs k z))) else Nx H3) := by
  refine dc_it w (fun i H => Same H1 H ∧ TupsR H D (ns.take i) gg) ⟨same_upd hD, ⟨fun _ => 0, by rw [upd_same, List.take_zero]; rfl, fun y hy => by rw [List.take_zero] at hy; cases hy⟩⟩ (fun i H _ h => hG H h.1) (fun i x H H' hi h y => ?_) (fun H h => hd H h.1 (by have := h.2; rw [List.take_length] at this; exact this))
  have hy : ns[i]? = some ns[i] := List.getElem?_eq_getElem hi
  refine hs i x ns[i] H H' _ hy h.1 (fun t H5 s ht => ?_) y
  have hn := nodup_take hnd hy
  obtain ⟨kvs, e1, e2, e3⟩ := tupsR_more (h.2.same s) hn ht
  refine ⟨kvs, Sum.inr ns[i], rfl, e1, ?_, fun b o hb => ?_, ?_⟩
  · rw [e2, List.length_take]
    exact small1000 (by omega)
  · rw [upd_ne (ne_of_none hb hD)]
    exact s _ _ (h.1 _ _ hb)
  · rw [List.take_add_one, hy]
    exact e3
theorem take_map1 {α β : Type} {l : List α} {f : α → β} {i : Nat} {x : α} (h : l[i]? = some x) : (l.take (i + 1)).map f = (l.take i).map f ++ [f x] := by
  rw [List.take_add_one, h, List.map_append]
  rfl
theorem filt_take {α : Type} {p : α → Bool} {l : List α} {i : Nat} {x : α} (h : l[i]? = some x) : (l.take (i + 1)).filter p = (l.take i).filter p ++ (if p x = true then [x] else []) := by
  rw [List.take_add_one, h, List.filter_append]
  congr 1
  by_cases hp : p x = true
  · rw [if_pos hp, Option.toList_some, List.filter_cons_of_pos hp]
    rfl
  · rw [if_neg hp, Option.toList_some, List.filter_cons_of_neg hp]
    rfl
theorem take_size {α β : Type} {l : List α} {f : α → β} (h : l.length ≤ 900) : ∀ i : Nat, i ≤ (l.map f).length → ((l.take i).map f).length < sizeLine := fun i hi => by
  rw [List.length_map, List.length_take]
  exact small1000 (by omega)
theorem filt_size {α β : Type} {l : List α} {p : α → Bool} {f : α → β} (h : l.length ≤ 900) : ∀ i : Nat, (((l.take i).filter p).map f).length < sizeLine := fun i => by
  have := List.length_filter_le p (l.take i)
  rw [List.length_take] at this
  rw [List.length_map]
  exact small1000 (by omega)
end K0
end
section
set_option Elab.async false
set_option linter.all false
set_option maxRecDepth 100000
set_option maxHeartbeats 1000000
namespace L2
open PySem PySem.Spec PyProof.Rows PySem.Calls
/-! ### enumerate(tuple) -/
def IteT (K : PySem.W.Frag) (a : Addr) : It :=
  ⟨fun i H => ∃ (xs : List V) (x : V), SqT K H a xs ∧ xs[i]? = some x, fun i H v H' => ∃ T x, v = .ref T ∧ H T = none ∧ H' = upd H T (.tup [.int (i : Nat), x]) ∧ ∀ xs, SqT K H a xs → xs[i]? = some x, fun i H => ∃ xs : List V, SqT K H a xs ∧ xs.length ≤ i⟩
theorem turn_enumT {P : Program} {w : World} {K : PySem.W.Frag} {elts : List Expr} {kk : Nat} {tpos : Pos} (a e it : Addr) :
    Turn P w K (.Tuple elts kk tpos) (IteT K a) [e, it] e (fun i h => (∃ old, IsEnum h e it ((i : Nat) : Int) old) ∧ h.IsTupleIter it a i ∧ e ≠ it) where
  mem := by simp
  obj := fun i h st b hb => by
    obtain ⟨⟨old, he⟩, ⟨o, ho, hc, hd⟩, _⟩ := st
    have e' : b = e ∨ b = it := by simpa using hb
    rcases e' with z | z
    · rw [z]; exact ⟨_, he, fun v q => nomatch q⟩
    · rw [z]; exact ⟨o, ho, fun v q => by rw [hd] at q; cases q⟩
  keep := fun i h h' st k => let ⟨⟨old, he⟩, hi, hne⟩ := st; ⟨⟨old, k e (by simp) _ he⟩, hi.at fun o q => k it (by simp) o q, hne⟩
  item := by
    intro X hP hw hK hc i pins s σ H E I hf st hg
    subst hP hw hK
    obtain ⟨⟨old, he⟩, hit, hne⟩ := st
    obtain ⟨xs, x, hq, hx⟩ := hg
    obtain ⟨its, rv, p, hz⟩ := I.tuple hq
    have p : s.heap.IsTuple a its.toArray := p
    obtain ⟨u, hu, ru⟩ := rv.get hx
    have hel : e < s.heap.objs.size := Heap.lt_size he
    have hil : it < s.heap.objs.size := by obtain ⟨_, q, _⟩ := hit; exact Heap.lt_size q
    obtain ⟨ot, hot, hct, hdt⟩ := id p
    have hea : e ≠ a := fun z => by
      have q := he
      unfold IsEnum at q
      rw [z, hot] at q
      rw [Option.some.inj q] at hct
      injection hct with c1
      exact absurd c1 (by decide)
    have hia : a ≠ it := fun z => by
      obtain ⟨o', q, q2, _⟩ := id hit
      rw [← z, hot] at q
      rw [← Option.some.inj q, hct] at q2
      injection q2 with c1
      exact absurd c1 (by decide)
    refine wpAny_pyNext_enum_itemD (Draws.tuple (A := X.A.in1) (show X.A.in1.handled = none from I.ok.hd hc) it a hia its.toArray) he ⟨hit, p⟩ (by
      have := (List.getElem?_eq_some_iff.mp hu).1
      simpa using this) hne (by simp [hne, hea]) fun x' h' tk hP ho hit' hT hsz' hk => ?_
    obtain rfl : u = x' := by
      have q : its.toArray[i]? = some x' := hP
      rw [List.getElem?_toArray, hu] at q
      exact Option.some.inj q
    refine ⟨_, rfl, wpAny_letOwnedTupleGo_enum (s := { s with heap := h', toks := tk + 1 }) ho fun h'' he' sb => ?_⟩
    have hT2 : h''.get? s.heap.objs.size = some { cls := .type "tuple", data := .seq #[.int i tk, u] } := (sb.2 _ (Nat.ne_of_gt hel)).trans hT
    have new : ObjOk X.prog X.w (upd H s.heap.objs.size (.tup [.int (i : Nat), x])) h'' s.heap.objs.size (.tup [.int (i : Nat), x]) :=
      ⟨by show 2 ≤ sizeLine; decide, [.int i tk, u], .cons ⟨_, rfl⟩ (.cons ru .nil), ⟨_, hT2, rfl, _, rfl⟩⟩
    have I1 : Inv X pins σ (upd H s.heap.objs.size (.tup [.int (i : Nat), x])) { s with heap := h'', toks := tk + 1 } :=
      I.turnedNew (ch := [e, it]) (fun b ob hb q => (sb.2 b (fun z => hb (by simp [z]))).trans (hk b ob (fun z => hb (by simp [z])) (fun z => hb (by simp [z])) q)) hf (Nat.le_refl _) new
    refine ⟨.ref s.heap.objs.size, _, I1, rfl, ⟨_, x, rfl, I.hok.fresh (Nat.le_refl _), rfl, fun ys hy => by rw [I.tuple_inj hy hq]; exact hx⟩, ⟨⟨u, ?_⟩, hit'.1.at fun o q => (sb.2 it (Ne.symm hne)).trans q, hne⟩, fun b hb => ?_⟩
    · have e1 : ((i + 1 : Nat) : Int) = (i : Int) + 1 := by omega
      rw [e1]; exact he'
    · have hb' : b < s.heap.objs.size := by
        have e' : b = e ∨ b = it := by simpa using hb
        rcases e' with z | z
        · rw [z]; exact hel
        · rw [z]; exact hil
      rw [upd_ne (Nat.ne_of_lt hb')]
      exact (hf b hb).1
  done := by
    intro X hP hw hK hc i pins s σ H E I hf st hg
    subst hP hw hK
    obtain ⟨⟨old, he⟩, hit, hne⟩ := st
    obtain ⟨xs, hq, hx⟩ := hg
    obtain ⟨its, rv, p, hz⟩ := I.tuple hq
    have p : s.heap.IsTuple a its.toArray := p
    obtain ⟨f0, f1, f2, f3, f4, f5⟩ := hf it (by simp)
    have hl := rv.length
    have hT : s.TypeIs (.ref e) "enumerate" := ⟨_, he, rfl⟩
    unfold pyNext
    refine wpAny_bind (wpAny_attempt (wpAny_callSpecial?_slot (name := Str.ofString "__next__") hT F.slot_enumerate_next
      (wpAny_call_entry F.slot_enumerate_next hT F.entry_enumerate_next ?_ (F.args_enumerate_next_1 _))))
    show wpAny _ _ (field (.ref e) 2 >>= _) _ _ _
    refine wpAny_bind (wpAny_field he rfl (x := .ref it) rfl ?_)
    refine wpAny_bind (wpAny_nextOf_tuple_end (I.ok.hd hc) hit p (by simp; omega) fun h' x he' hx' => ?_)
    obtain ⟨o', ho, hc'⟩ := hx'
    refine wpAny_bind (wpAny_isInstance (T := "StopIteration") (b := true) ⟨o', ho, hc'⟩ isSubtype_stop ?_)
    exact wpAny_pure ⟨rfl, I.turned (t' := s.toks) (fun b ob hb q => he' b ob hb q) f0 f1 f3 f4 f5⟩
  self := fun A i s Q E st h => let ⟨⟨_, he⟩, _⟩ := st; wpAny_pyIter_enum he h
def iEnumT (K : PySem.W.Frag) (ta : TA) : TI := fun σ H R => ta σ H fun vs H1 => ∃ a xs, vs = [.ref a] ∧ SqT K H1 a xs ∧ R (IteT K a) H1
theorem pi_enumT {X : Cx} {e : Expr} {ta : TA} {p pos tpos : Pos} {elts : List Expr} {kk : Nat} (hg : Gl X "enumerate") (hm : X.mg "enumerate" = none) (ha : PA X [e] ta) (hs : starEach [e] X.env = [(false, eval e X.env)] := by rfl) :
    PI X (.Tuple elts kk tpos) (.Call (.Name "enumerate" p) [e] [] pos) (iEnumT X.K ta) := by
  refine ⟨fun pins s σ H R I h => ?_⟩
  refine Call_ (ld_blt I hg hm boot_enumerate (PyProof.Rows.callWith_type1 (thn (ha.run pos pins s σ H _ I h) fun us s1 ⟨vs, H1, I1, r1, q1⟩ => ?_) hs rfl))
  obtain ⟨a, xs, ex, hq, q⟩ := q1
  subst ex
  cases r1 with
  | cons r rr =>
    cases rr
    cases r
    obtain ⟨its, rv, p', hz⟩ := I1.tuple hq
    refine k0_enum_call (begins_tuple a its.toArray) p' fun h' he hit hsz' hk => wpAny_pyIter_enum he ?_
    have I2 : Inv X pins σ H1 { s1 with heap := h' } := I1.kept (t' := s1.toks) hk
    refine ⟨s1.heap.objs.size + 1, [s1.heap.objs.size + 1, s1.heap.objs.size], _, _, H1, rfl, I2, turn_enumT a (s1.heap.objs.size + 1) s1.heap.objs.size, ⟨⟨.none, he⟩, ⟨_, hit, rfl, rfl⟩, Nat.succ_ne_self _⟩, fun b hb => ?_, q⟩
    have e' : b = s1.heap.objs.size + 1 ∨ b = s1.heap.objs.size := by simpa using hb
    have hle : s1.heap.objs.size ≤ b := by
      rcases e' with z | z
      · rw [z]; exact Nat.le_add_right _ _
      · rw [z]; exact Nat.le_refl _
    exact I1.fpOk hle (I1.hok.fresh hle)
theorem walk_enumT {K : PySem.W.Frag} {a : Addr} {xs : List V} : Walk (IteT K a) xs.length (fun H => SqT K H a xs) (YPair (fun i => some (.int (i : Nat))) (fun i => xs[i]?)) := by
  refine ⟨fun i _ hi q => ⟨xs, xs[i], q, by simp [hi]⟩, fun _ q => ⟨xs, q, Nat.le_refl _⟩, fun i H v H' _ q y => ?_⟩
  obtain ⟨T, x, h1, h2, h3, h4⟩ := y
  exact ⟨T, .int (i : Nat), x, h1, h2, h3, rfl, h4 xs q⟩
end L2
end
section
set_option Elab.async false
set_option linter.all false
set_option maxRecDepth 100000
set_option maxHeartbeats 4000000
namespace K0
open PySem PySem.Spec PyProof.Rows L2
/-! ### the rows of rights -/
structure BRows (H : Hp) (l : Addr) (BR : List (Addr × RRow)) : Prop where
  lst : H l = some (.lst (BR.map fun q => V.ref q.1))
  tup : ∀ q ∈ BR, H q.1 = some (.tup [.str q.2.1, .str q.2.2.1, .str q.2.2.2])
abbrev bOf (BR : List (Addr × RRow)) : List RRow := BR.map (·.2)
theorem BRows.same {H H' : Hp} {l : Addr} {BR : List (Addr × RRow)} (r : BRows H l BR) (s : Same H H') : BRows H' l BR := ⟨s _ _ r.lst, fun q hq => s _ _ (r.tup q hq)⟩
theorem brow_at {BR : List (Addr × RRow)} {i : Nat} {x : V} (e : (BR.map fun q => V.ref q.1)[i]? = some x) (hi : i < BR.length) : x = .ref BR[i].1 := by
  rw [List.getElem?_map, List.getElem?_eq_getElem hi] at e
  exact (Option.some.inj e).symm
theorem brow_nm {BR : List (Addr × RRow)} {i : Nat} (hi : i < BR.length) : (rnm (bOf BR))[i]? = some BR[i].2.1 := by
  rw [List.getElem?_map, List.getElem?_map, List.getElem?_eq_getElem hi]
  rfl
theorem riv_upto {Cr : Addr} {H H' : Hp} {p q : Addr} {AR : List (Addr × Row)} (u : Upto p H H') (hp : ∃ C dx fs, H p = some (.ins C dx fs)) (n : q ≠ p) (r : RivAt Cr H q AR) : RivAt Cr H' q AR := by
  obtain ⟨C, dx, fs, hp⟩ := hp
  have kp : ∀ {a : Addr} {o : HO}, H a = some o → (∀ z1 z2 z3, o ≠ .ins z1 z2 z3) → H' a = some o := fun e h => u _ _ e (ne_of e hp (h _ _ _))
  obtain ⟨dx, tw, tr, db, dc, da, du, o, h1, h2, h3, h4, h5, h6, h7, h8, h9⟩ := r.ex
  have tp : ∀ {c : Addr} {ns : List Str} {g : Str → List Str}, TupsAt H c ns g → TupsAt H' c ns g := fun t => by
    obtain ⟨ta, q1, q2⟩ := t.ex
    exact ⟨ta, kp q1 (fun _ _ _ z => by cases z), fun x hx => (q2 x hx).to fun u e _ _ _ h _ => kp e h⟩
  exact ⟨dx, tw, tr, db, dc, da, du, o, u _ _ h1 n, kp h2 (fun _ _ _ z => by cases z), kp h3 (fun _ _ _ z => by cases z), fun z hz => kp (h4 z hz) (fun _ _ _ z => by cases z), kp h5 (fun _ _ _ z => by cases z), tp h6, tp h7, tp h8, h9.to fun _ e => kp e (fun _ _ _ z => by cases z)⟩
theorem txr_upto {H H' : Hp} {p t : Addr} {l : List Str} (u : Upto p H H') (hp : ∃ C dx fs, H p = some (.ins C dx fs)) (h : TxR H t l) : TxR H' t l := by
  obtain ⟨C, dx, fs, hp⟩ := hp
  rcases h with e | ⟨o, e⟩
  · exact .inl (u _ _ e (ne_of e hp (fun z => by cases z)))
  · exact .inr ⟨o, u _ _ e (ne_of e hp (fun z => by cases z))⟩
theorem tupsR_upto {H H' : Hp} {p c : Addr} {ns : List Str} {g : Str → List Str} (u : Upto p H H') (hp : ∃ C dx fs, H p = some (.ins C dx fs)) (t : TupsR H c ns g) : TupsR H' c ns g := by
  obtain ⟨ta, q1, q2⟩ := t.ex
  obtain ⟨C, dx, fs, hp2⟩ := id hp
  exact ⟨ta, u _ _ q1 (ne_of q1 hp2 (fun z => by cases z)), fun x hx => txr_upto u hp (q2 x hx)⟩
abbrev scIsRowR_N : List Str := ["river", "entry"]
theorem scIsRowR : FnScope scIsRowR_N ["river", "entry"] (defScope sIsRowR) := ⟨rfl, rfl, rfl, by decide +kernel, rfl, by decide +kernel, by decide +kernel⟩
def spIsRowR (Cr : Addr) : Sp := fun vs H Q _ => ∃ (q t : Addr) (r : RRow) (AR : List (Addr × Row)), vs = [.ref q, .ref t] ∧ RivAt Cr H q AR ∧ H t = some (.tup [.str r.1, .str r.2.1, .str r.2.2]) ∧ NameOk r.1 ∧ r.2.1 ∈ namesOf AR ∧ (r.2.2 = "sea" ∨ r.2.2 ∈ namesOf AR) ∧ ∀ H', Same H H' → Q (.bl true) H'
abbrev scNeedRowsR_N : List Str := ["river", "rows", "names", "place", "entry", "_", "intake", "last"]
theorem scNeedRowsR : FnScope scNeedRowsR_N ["river", "rows"] (defScope sNeedRowsR) := ⟨rfl, rfl, rfl, by decide +kernel, rfl, by decide +kernel, by decide +kernel⟩
def spNeedRowsR (Cr : Addr) : Sp := fun vs H Q _ => ∃ (q l : Addr) (AR : List (Addr × Row)) (BR : List (Addr × RRow)), vs = [.ref q, .ref l] ∧ RivAt Cr H q AR ∧ GoodRows (rowsOf AR) ∧ BRows H l BR ∧ RtOk (rowsOf AR) (bOf BR) ∧ ∀ H', Same H H' → Q .non H'
section
variable {P : Program} {w : World} {K : PySem.W.Frag} {mg : Str → Option Value} {base : Heap} {tS tM tL : Tok}
theorem ok_isrowR {f fN Cr : Addr} {fd fdN : FuncData} (F : FnP K "_is_row" sIsRowR f fd) (F_is_name : FnP K "is_name" sIsName fN fdN) (gis_name : mg "is_name" = some (.ref fN)) (M : Sc K Cr) (T : Rv K mg Cr) (B : Bl mg) (C : Gc mg tS tM tL) : FnOk P w K mg base CX0 2 f fd ["river", "entry"] (spIsRowR Cr) := by
  obtain ⟨fC, fdC, FC, hs, hf⟩ := M.has
  have GC : FnOk P w K mg base CX0 1 fC fdC ["self", "x"] (spHas (GHasS Cr)) := ok_containsS FC T B
  have bC : Binds K fdC ["self", "x"] [] := FC.bindsN fun _ _ _ _ _ _ us hl => match us, hl with | [_, _], _ => rfl
  have Gis_name : FnOk P w K mg base CX0 1 fN fdN ["value"] spIsName := ok_isname F_is_name B C
  have bis_name : Binds K fdN ["value"] [] := F_is_name.bindsN fun _ _ _ _ _ _ us hl => match us, hl with | [_], _ => rfl
  refine F.ok scIsRowR (fun vs H Q E h => ?_) (fun cdv A outer s H vs Q E hr h => ?_)
  · obtain ⟨q, t, r, AR, rfl, _⟩ := h
    rfl
  · obtain ⟨q, t, r, AR, rfl, R, ht, h1, h2, h3, k⟩ := h
    have hris_name : Room 1 _ := hr
    have Fis_name := F_is_name
    refine ⟨_, PSs.nox (pss_cons
      (ps_if (PW.pt (pw_or (pt_not (pt_val (pe_callB call_isi (by rfl) B.isinstance (by decide +kernel) (pa_cons (pv 1) (pa_cons (pe_bltn (v := .ty "tuple") (by rfl) B.tuple (by decide +kernel) rfl) pa_nil))))) (pw_or1 (pt_cmpR op_ne (pe_callB (lenK (K := K)) (by rfl) B.len PySem.boot_len (pa_cons (pv 1) pa_nil)) pe_int (nomark _))))) (pss_one
      (ps_ret pe_bl)) pss_nil)
      (pss_one
      (ps_ret (pe_and (pe_call Gis_name hris_name (by rfl) gis_name Fis_name.kp bis_name .nil pass0 (pa_cons (pe_ix (ixTK (K := K)) (pv 1) pe_int (fun _ _ => rfl)) pa_nil)) (pe_and (pe_cmpR (k0_in_own (K := K) GC hr hs hf bC) (pe_ix (ixTK (K := K)) (pv 1) pe_int (fun _ _ => rfl)) (pv 0) (by rfl)) (pe_one (pe_or (pe_cmpR op_eq (pe_ix (ixTK (K := K)) (pv 1) pe_int (fun _ _ => rfl)) (pe_glob (v := .str "sea") (by rfl) C.SEA ⟨_, rfl⟩) (nomark _)) (pe_one (pe_cmpR (k0_in_own (K := K) GC hr hs hf bC) (pe_ix (ixTK (K := K)) (pv 1) pe_int (fun _ _ => rfl)) (pv 0) (by rfl)))))))))), ?_⟩
    have g : ∀ H', Same H H' → SqT K H' t [.str r.1, .str r.2.1, .str r.2.2] := fun H' s => .inl (.inl (s _ _ ht))
    refine ⟨_, rfl, .ref t, .ty "tuple", _, _, true, rfl, .ty "tuple", .base (.tup ht), kit_ty (by decide +kernel), _, rfl, ?_⟩
    refine iteF ?_
    refine ⟨_, rfl, t, _, rfl, .inr (g _ (.refl _)), rfl, _, rfl, ?_⟩
    refine iteNS rfl ?_
    refine ⟨_, rfl, t, _, _, _, rfl, rfl, g _ (.refl _), atI_nat (j := 0) rfl, r.1, rfl, h1, fun H1 s1 => ⟨_, rfl, iteT ?_⟩⟩
    have R1 := Same.riv s1 R
    obtain ⟨dx, tw, tr, db, dc, da, du, o, i1, _⟩ := id R1.ex
    refine ⟨_, rfl, t, _, _, _, rfl, rfl, g _ s1, atI_nat (j := 1) rfl, _, rfl, q, dx, _, true, rfl, i1, ⟨AR, r.2.1, R1, rfl, (decide_eq_true h2).symm⟩, _, rfl, iteT ?_⟩
    refine ⟨_, rfl, t, _, _, _, rfl, rfl, g _ s1, atI_nat (j := 2) rfl, rfl, ?_⟩
    by_cases e : r.2.2 = "sea"
    · rw [e, decide_eq_true rfl]
      exact ⟨_, rfl, iteT (k H1 s1)⟩
    · rw [decide_eq_false (fun z => e (V.str.inj z))]
      refine ⟨_, rfl, iteF ?_⟩
      refine ⟨_, rfl, t, _, _, _, rfl, rfl, g _ s1, atI_nat (j := 2) rfl, _, rfl, q, dx, _, true, rfl, i1, ⟨AR, r.2.2, R1, rfl, (decide_eq_true (h3.resolve_left e)).symm⟩, ?_⟩
      exact k H1 s1
theorem ok_needrowsR {f fN fR fI Cr : Addr} {fd fdN fdR fdI : FuncData} (F : FnP K "_need_rows" sNeedRowsR f fd) (F_is_name : FnP K "is_name" sIsName fN fdN) (gis_name : mg "is_name" = some (.ref fN))
    (F_is_rowR : FnP K "_is_row" sIsRowR fR fdR) (g_is_rowR : mg "is_row_rights" = some (.ref fR)) (Fis_down : FnM K "is_down" "River.is_down" sIsDown fI fdI) (Mis_down : Meth K Cr "is_down" fI) (D : NdS P w K mg base Cr) (M : Sc K Cr) (T : Rv K mg Cr) (B : Bl mg) (C : Gc mg tS tM tL) :
    FnOk P w K mg base CX0 4 f fd ["river", "rows"] (spNeedRowsR Cr) := by
  have G_is_rowR : FnOk P w K mg base CX0 2 fR fdR ["river", "entry"] (spIsRowR Cr) := ok_isrowR F_is_rowR F_is_name gis_name M T B C
  have b_is_rowR : Binds K fdR ["river", "entry"] [] := F_is_rowR.bindsN fun _ _ _ _ _ _ us hl => match us, hl with | [_, _], _ => rfl
  have Gis_down : FnOk P w K mg base CX0 3 fI fdI ["self", "high", "low"] (spDownS Cr) := ok_isdownS Fis_down D T
  have bis_down : Binds K fdI ["self", "high", "low"] [] := Fis_down.bindsN fun _ _ _ _ _ _ us hl => match us, hl with | [_, _, _], _ => rfl
  refine F.ok scNeedRowsR (fun vs H Q E h => ?_) (fun cdv A outer s H vs Q E hr h => ?_)
  · obtain ⟨q, l, AR, BR, rfl, _⟩ := h
    rfl
  · obtain ⟨q, l, AR, BR, rfl, R, hG, hR, hB, k⟩ := h
    have hu := hu_of hr
    have hr_is_rowR : Room 2 _ := hr.mono (by decide)
    have hris_down : Room 3 _ := hr
    refine ⟨_, PSs.nox (pss_cons
      (ps_if (PW.pt (pw_or (pt_not (pt_val (pe_callB call_isi (by rfl) B.isinstance (by decide +kernel) (pa_cons (pv 1) (pa_cons (pe_bltn (v := .ty "list") (by rfl) B.list (by decide +kernel) rfl) pa_nil))))) (pw_or1 (pt_cmpR op_gt (pe_callB (lenK (K := K)) (by rfl) B.len PySem.boot_len (pa_cons (pv 1) pa_nil)) (pe_glob (v := .int 40) (by rfl) C.MOST_ROWS ⟨_, rfl⟩) (nomark _))))) (pss_one
      ps_never) pss_nil)
      (pss_cons
      (ps_set (i := 2) scNeedRowsR.nd rfl (Or.inl rfl) pe_dnewK)
      (pss_cons
      (ps_for PassesOwn.never rfl (pi_enum (by rfl) B.enumerate (pa_cons (pv 1) pa_nil)) (tgK (K := K) (n := 2) (by rfl) (pgs_cons (pg_name (i := 3) scNeedRowsR.nd rfl (Or.inl rfl)) (pgs_cons (pg_name (i := 4) scNeedRowsR.nd rfl (Or.inl rfl)) pgs_nil))) (pss_cons
      (ps_if (PW.pt (pw_or (pt_not (pt_val (pe_call G_is_rowR hr_is_rowR (by rfl) g_is_rowR F_is_rowR.kp b_is_rowR .nil pass0 (pa_cons (pv 0) (pa_cons (pv 4) pa_nil))))) (pw_or1 (pt_cmp (pc_din hu (pe_ix (ixTK (K := K)) (pv 4) pe_int (fun _ _ => rfl)) (pv 2)))))) (pss_one
      ps_never) pss_nil)
      (pss_one
      (ps_dput hu (pv 2) (pe_ix (ixTK (K := K)) (pv 4) pe_int (fun _ _ => rfl)) pe_bl rfl))))
      (pss_one
      (ps_for PassesOwn.never rfl (pi_enum (by rfl) B.enumerate (pa_cons (pv 1) pa_nil)) (tgK (K := K) (n := 2) (by rfl) (pgs_cons (pg_name (i := 3) scNeedRowsR.nd rfl (Or.inl rfl)) (pgs_cons (tgK (K := K) (n := 3) (by rfl) (pgs_cons (pg_name (i := 5) scNeedRowsR.nd rfl (Or.inl rfl)) (pgs_cons (pg_name (i := 6) scNeedRowsR.nd rfl (Or.inl rfl)) (pgs_cons (pg_name (i := 7) scNeedRowsR.nd rfl (Or.inl rfl)) pgs_nil)))) pgs_nil))) (pss_one
      (ps_if (PW.pt (pw_and (pt_cmpR op_ne (pv 7) (pe_glob (v := .str "sea") (by rfl) C.SEA ⟨_, rfl⟩) (nomark _)) (pw_and1 (pt_not (pt_val (pe_meth (pv 0) T.cl Mis_down Gis_down hris_down bis_down .nil pass0 (pa_cons (pv 6) (pa_cons (pv 7) pa_nil)))))))) (pss_one
      ps_never) pss_nil))))))), ?_⟩
    refine ⟨_, rfl, .ref l, .ty "list", _, _, true, rfl, .ty "list", .base (.lst hR.lst), kit_ty (by decide +kernel), _, rfl, ?_⟩
    refine iteF ?_
    have hm := hB.most
    have hlb : (bOf BR).length = BR.length := List.length_map _
    have hnd := hB.nd
    refine ⟨_, rfl, l, _, rfl, .inl (.inl (.inl hR.lst)), _, _, rfl, rfl, _, rfl, ?_⟩
    refine iteDn (by rw [List.length_map]; omega) ?_
    intro D hD
    have s0 : Same H (upd H D (.dK [])) := same_upd hD
    refine ⟨_, rfl, l, _, rfl, s0.seq (.inl (.inl hR.lst)), ?_⟩
    refine for_it (walk_enum (xs := BR.map fun q => V.ref q.1)) (fun i σ H2 => ∃ (v3 v4 v5 v6 v7 : Option V), σ = [some (.ref q), some (.ref l), some (.ref D), v3, v4, v5, v6, v7] ∧ Same H H2 ∧ H2 D = some (.dK (kmap (fun _ => .bl true) ((rnm (bOf BR)).take i))))
      ⟨_, _, _, _, _, rfl, s0, by rw [upd_same, List.take_zero]; rfl⟩ (fun _ _ _ _ h => by obtain ⟨_, _, _, _, _, _, s, _⟩ := h; exact s.seq (.inl (.inl hR.lst))) ?_ ?_
    · rintro i x σ H2 H3 hi ⟨v3, v4, v5, v6, v7, rfl, s2, hD2⟩ ⟨Tt, x1, x2, rfl, hT, rfl, e1, e2⟩
      rw [List.length_map] at hi
      have hx1 : x1 = .int (i : Int) := (Option.some.inj e1).symm
      subst hx1
      have hx2 : x2 = .ref BR[i].1 := brow_at e2 hi
      subst hx2
      have hmem : BR[i] ∈ BR := List.getElem_mem hi
      have hrow : BR[i].2 ∈ bOf BR := List.mem_map.mpr ⟨_, hmem, rfl⟩
      have s3 : Same H (upd H2 Tt (.tup [.int (i : Int), .ref BR[i].1])) := s2.trans (same_upd hT)
      have hD3 : (upd H2 Tt (.tup [.int (i : Int), .ref BR[i].1])) D = some (.dK (kmap (fun _ => .bl true) ((rnm (bOf BR)).take i))) := by
        rw [upd_ne (ne_of_none hD2 hT)]
        exact hD2
      have hni := brow_nm hi
      have hnot : BR[i].2.1 ∉ (rnm (bOf BR)).take i := nodup_take hnd hni
      have hlast : BR[i].2.2.2 = "sea" ∨ BR[i].2.2.2 ∈ namesOf AR := (hB.last _ hrow).imp_right fun z => course_sub hG (hB.inn _ hrow) _ z
      refine ⟨Tt, _, rfl, .inl (.inl upd_same), rfl, _, _, rfl, _, _, rfl, rfl, ?_⟩
      refine ⟨_, rfl, _, rfl, q, BR[i].1, BR[i].2, AR, rfl, Same.riv s3 R, s3 _ _ (hR.tup _ hmem), hB.ok _ hrow, hB.inn _ hrow, hlast, fun H4 s4 => ⟨_, rfl, ?_⟩⟩
      refine iteF ?_
      have s5 : Same H H4 := s3.trans s4
      have hD4 := s4 _ _ hD3
      have ht4 : SqT K H4 BR[i].1 [.str BR[i].2.1, .str BR[i].2.2.1, .str BR[i].2.2.2] := .inl (.inl (s5 _ _ (hR.tup _ hmem)))
      refine ⟨_, rfl, BR[i].1, _, _, _, rfl, rfl, ht4, atI_nat (j := 0) rfl, _, rfl, D, _, rfl, DGet.k (k := Sum.inr BR[i].2.1) hD4, _, rfl, ?_⟩
      rw [kmap_not hnot]
      refine iteF ?_
      refine ⟨_, rfl, _, rfl, BR[i].1, _, _, _, rfl, rfl, ht4, atI_nat (j := 0) rfl, D, _, rfl, DPut.k (k := Sum.inr BR[i].2.1) hD4 ?_, ?_⟩
      · rw [kmap_len, List.length_take, List.length_map]
        exact small1000 (by omega)
      · refine ⟨_, _, _, _, _, rfl, fun b o hb => ?_, ?_⟩
        · rw [upd_ne (ne_of_none hb hD)]
          exact s5 b o hb
        · have := kmap_put (f := fun _ => .bl true) hnot
          rw [upd_same, this, List.take_add_one, hni]
          rfl
    · rintro σ H2 ⟨v3, v4, v5, v6, v7, rfl, s2, hD2⟩
      refine ⟨_, rfl, l, _, rfl, s2.seq (.inl (.inl hR.lst)), ?_⟩
      refine for_it (walk_enum (xs := BR.map fun q => V.ref q.1)) (fun i σ H3 => ∃ (v3 v4 v5 v6 v7 : Option V), σ = [some (.ref q), some (.ref l), some (.ref D), v3, v4, v5, v6, v7] ∧ Same H2 H3)
        ⟨_, _, _, _, _, rfl, .refl _⟩ (fun _ _ _ _ h => by obtain ⟨_, _, _, _, _, _, s⟩ := h; exact (s2.trans s).seq (.inl (.inl hR.lst))) ?_ ?_
      · rintro i x σ H3 H4 hi ⟨v3, v4, v5, v6, v7, rfl, s3⟩ ⟨Tt, x1, x2, rfl, hT, rfl, e1, e2⟩
        rw [List.length_map] at hi
        have hx2 : x2 = .ref BR[i].1 := brow_at e2 hi
        subst hx2
        have hmem : BR[i] ∈ BR := List.getElem_mem hi
        have hrow : BR[i].2 ∈ bOf BR := List.mem_map.mpr ⟨_, hmem, rfl⟩
        have s4 : Same H2 (upd H3 Tt (.tup [x1, .ref BR[i].1])) := s3.trans (same_upd hT)
        have ht4 : SqT K (upd H3 Tt (.tup [x1, .ref BR[i].1])) BR[i].1 [.str BR[i].2.1, .str BR[i].2.2.1, .str BR[i].2.2.2] := .inl (.inl (s4 _ _ (s2 _ _ (hR.tup _ hmem))))
        refine ⟨Tt, _, rfl, .inl (.inl upd_same), rfl, _, _, rfl, _, _, rfl, _, _, rfl, ht4, rfl, _, _, rfl, _, _, rfl, _, _, rfl, rfl, rfl, ?_⟩
        refine ⟨_, rfl, rfl, _, rfl, ?_⟩
        refine ite2 (fun h1 => ?_) (fun h1 => ?_)
        · have hmm : BR[i].2.2.2 ∈ course (rowsOf AR) BR[i].2.2.1 := by
            rcases hB.last _ hrow with e | e
            · rw [decide_eq_true (congrArg V.str e)] at h1
              cases h1
            · exact e
          have R4 : RivAt Cr (upd H3 Tt (.tup [x1, .ref BR[i].1])) q AR := Same.riv (s2.trans s4) R
          obtain ⟨dx, tw, tr, db, dc, da, du, o, i1, _⟩ := id R4.ex
          refine ⟨_, rfl, q, dx, _, rfl, i1, g7no _ _ _ _ _ _ _ (by decide +kernel) (by decide +kernel) (by decide +kernel) (by decide +kernel) (by decide +kernel) (by decide +kernel) (by decide +kernel), _, rfl, _, rfl, q, _, _, AR, rfl, R4, hB.inn _ hrow, course_sub hG (hB.inn _ hrow) _ hmm, ?_⟩
          rw [decide_eq_true hmm]
          refine ⟨_, rfl, iteF ?_⟩
          exact ⟨_, _, _, _, _, rfl, s4⟩
        · exact ⟨_, _, _, _, _, rfl, s4⟩
      · rintro σ H3 ⟨v3, v4, v5, v6, v7, rfl, s3⟩
        exact k H3 (s2.trans s3)
end
end K0
end
section
set_option Elab.async false
set_option linter.all false
set_option maxRecDepth 100000
set_option maxHeartbeats 4000000
namespace K0
open PySem PySem.Spec PyProof.Rows L2
/-! ### Rights -/
abbrev sGInit : Stmt := inClass sRights 0
abbrev sGContains : Stmt := inClass sRights 4
abbrev sThose : Stmt := inClass sRights 5
abbrev sGRows : Stmt := inClass sRights 6
abbrev sGLast : Stmt := inClass sRights 8
abbrev sGWay : Stmt := inClass sRights 10
abbrev sGPassing : Stmt := inClass sRights 12
structure Rg (K : PySem.W.Frag) (mg : Str → Option Value) (C : Addr) : Prop where
  cl : Cls K C
  river : NoAttr K C "river"
  names : NoAttr K C "names"
  _rows : NoAttr K C "_rows"
  _ways : NoAttr K C "_ways"
  _lasts : NoAttr K C "_lasts"
  _passing : NoAttr K C "_passing"
  mgC : mg "Rights" = some (.ref C)
def r1 (a : V) : List (Str × V) := putF "river" a []
def r2 (a b : V) : List (Str × V) := putF "names" b (r1 a)
def r3 (a b c : V) : List (Str × V) := putF "_rows" c (r2 a b)
def r4 (a b c d : V) : List (Str × V) := putF "_ways" d (r3 a b c)
def r5 (a b c d e : V) : List (Str × V) := putF "_lasts" e (r4 a b c d)
def r6 (a b c d e g : V) : List (Str × V) := putF "_passing" g (r5 a b c d e)
section
variable (a b c d e g : V)
theorem rl1 : (r1 a).length ≤ 1 := putF_len _ _ _
theorem rl2 : (r2 a b).length ≤ 2 := Nat.le_trans (putF_len _ _ _) (Nat.succ_le_succ (rl1 a))
theorem rl3 : (r3 a b c).length ≤ 3 := Nat.le_trans (putF_len _ _ _) (Nat.succ_le_succ (rl2 a b))
theorem rl4 : (r4 a b c d).length ≤ 4 := Nat.le_trans (putF_len _ _ _) (Nat.succ_le_succ (rl3 a b c))
theorem rl5 : (r5 a b c d e).length ≤ 5 := Nat.le_trans (putF_len _ _ _) (Nat.succ_le_succ (rl4 a b c d))
theorem rr2n : (r2 a b).lookup ("names" : Str) = some b := by rw [r2, lookup_putF, if_pos rfl]
theorem rr5n : (r5 a b c d e).lookup ("names" : Str) = some b := by
  rw [r5, lookup_putF, if_neg (by decide +kernel), r4, lookup_putF, if_neg (by decide +kernel), r3, lookup_putF, if_neg (by decide +kernel), rr2n]
theorem rr5w : (r5 a b c d e).lookup ("_ways" : Str) = some d := by
  rw [r5, lookup_putF, if_neg (by decide +kernel), r4, lookup_putF, if_pos rfl]
theorem rr6r : (r6 a b c d e g).lookup ("river" : Str) = some a := by
  rw [r6, lookup_putF, if_neg (by decide +kernel), r5, lookup_putF, if_neg (by decide +kernel), r4, lookup_putF, if_neg (by decide +kernel), r3, lookup_putF, if_neg (by decide +kernel), r2, lookup_putF, if_neg (by decide +kernel), r1, lookup_putF, if_pos rfl]
theorem rr6n : (r6 a b c d e g).lookup ("names" : Str) = some b := by rw [r6, lookup_putF, if_neg (by decide +kernel), rr5n]
theorem rr6o : (r6 a b c d e g).lookup ("_rows" : Str) = some c := by
  rw [r6, lookup_putF, if_neg (by decide +kernel), r5, lookup_putF, if_neg (by decide +kernel), r4, lookup_putF, if_neg (by decide +kernel), r3, lookup_putF, if_pos rfl]
theorem rr6w : (r6 a b c d e g).lookup ("_ways" : Str) = some d := by rw [r6, lookup_putF, if_neg (by decide +kernel), rr5w]
theorem rr6p : (r6 a b c d e g).lookup ("_passing" : Str) = some g := by rw [r6, lookup_putF, if_pos rfl]
theorem rr5no {m : Str} (h1 : (["river", "names", "_rows", "_ways", "_lasts", "_passing"] : List Str).contains m = false) : (r5 a b c d e).lookup m = none := by
  simp only [List.contains_cons, List.contains_nil, Bool.or_false, Bool.or_eq_false_iff, beq_eq_false_iff_ne] at h1
  rw [r5, lookup_putF, if_neg h1.2.2.2.2.1, r4, lookup_putF, if_neg h1.2.2.2.1, r3, lookup_putF, if_neg h1.2.2.1, r2, lookup_putF, if_neg h1.2.1, r1, lookup_putF, if_neg h1.1]
  rfl
theorem rr6no {m : Str} (h1 : (["river", "names", "_rows", "_ways", "_lasts", "_passing"] : List Str).contains m = false) : (r6 a b c d e g).lookup m = none := by
  have h2 := h1
  simp only [List.contains_cons, List.contains_nil, Bool.or_false, Bool.or_eq_false_iff, beq_eq_false_iff_ne] at h1
  rw [r6, lookup_putF, if_neg h1.2.2.2.2.2, rr5no _ _ _ _ _ h2]
end
theorem ft_upto {H H' : Hp} {p t : Addr} {l : List Str} (u : Upto p H H') (hp : ∃ C dx fs, H p = some (.ins C dx fs)) (h : FT H t l) : FT H' t l := by
  obtain ⟨C, dx, fs, hp⟩ := hp
  obtain ⟨o, q, e⟩ := h
  exact ⟨o, q, u _ _ e (ne_of e hp (fun z => by cases z))⟩
/-- the last weirs as rows tell them -/
def lastB (B : List RRow) : List (Key × V) := kmap (fun n => V.str (rowB B n).2.2) (rnm B)
/-- rights of these rows stand at p, over the river at q -/
structure RigAt (Cg Cr : Addr) (H : Hp) (p q : Addr) (AR : List (Addr × Row)) (BR : List (Addr × RRow)) : Prop where
  ex : ∃ (dx tn tr dw dl dp : Addr), H p = some (.ins Cg dx (r6 (.ref q) (.ref tn) (.ref tr) (.ref dw) (.ref dl) (.ref dp))) ∧ RivAt Cr H q AR ∧ FT H tn (rnm (bOf BR)) ∧ H tr = some (.tup (BR.map fun q => V.ref q.1)) ∧
    (∀ z ∈ BR, H z.1 = some (.tup [.str z.2.1, .str z.2.2.1, .str z.2.2.2])) ∧ TupsR H dw (rnm (bOf BR)) (wayN (rowsOf AR) (bOf BR)) ∧ TupsR H dp (namesOf AR) (passR (rowsOf AR) (bOf BR)) ∧ H dl = some (.dK (lastB (bOf BR)))
theorem RigAt.same {Cg Cr : Addr} {H H' : Hp} {p q : Addr} {AR : List (Addr × Row)} {BR : List (Addr × RRow)} (r : RigAt Cg Cr H p q AR BR) (s : Same H H') : RigAt Cg Cr H' p q AR BR := by
  obtain ⟨dx, tn, tr, dw, dl, dp, h1, h2, h3, h4, h5, h6, h7, h8⟩ := r.ex
  exact ⟨dx, tn, tr, dw, dl, dp, s _ _ h1, Same.riv s h2, h3.same s, s _ _ h4, fun z hz => s _ _ (h5 z hz), h6.same s, h7.same s, s _ _ h8⟩
abbrev scThose_N : List Str := ["self", "weir", "name"]
abbrev scThose_S : Stmt := sThose
theorem scThose : FnScope scThose_N ["self", "weir"] (defScope sThose) := ⟨rfl, rfl, rfl, by decide +kernel, rfl, by decide +kernel, by decide +kernel⟩
def spThose (Cg : Addr) : Sp := fun vs H Q _ => ∃ (p dx tn dw : Addr) (fs : List (Str × V)) (y : Str) (R : List Row) (B : List RRow), vs = [.ref p, .str y] ∧ H p = some (.ins Cg dx fs) ∧ fs.lookup ("names" : Str) = some (.ref tn) ∧ fs.lookup ("_ways" : Str) = some (.ref dw) ∧ TxR H tn (rnm B) ∧ TupsR H dw (rnm B) (wayN R B) ∧ B.length ≤ 40 ∧
  ∀ t H', Same H H' → TxR H' t (passR R B y) → Q (.ref t) H'
abbrev scGInit_N : List Str := ["self", "river", "rows", "row", "name", "intake", "last", "weir"]
abbrev scGInit_S : Stmt := sGInit
theorem scGInit : FnScope scGInit_N ["self", "river", "rows"] (defScope sGInit) := ⟨rfl, rfl, rfl, by decide +kernel, rfl, by decide +kernel, by decide +kernel⟩
def spGInit (Cg Cr : Addr) : Sp := fun vs H Q _ => ∃ (p q l dx : Addr) (AR : List (Addr × Row)) (BR : List (Addr × RRow)), vs = [.ref p, .ref q, .ref l] ∧ H p = some (.ins Cg dx []) ∧ RivAt Cr H q AR ∧ GoodRows (rowsOf AR) ∧ BRows H l BR ∧ RtOk (rowsOf AR) (bOf BR) ∧
  ∀ H', Upto p H H' → RigAt Cg Cr H' p q AR BR → Q .non H'
section
variable {P : Program} {w : World} {K : PySem.W.Frag} {mg : Str → Option Value} {base : Heap} {tS tM tL : Tok}
theorem ok_those {f Cg : Addr} {fd : FuncData} (F : FnM K "_those_over" "Rights._those_over" sThose f fd) (TG : Rg K mg Cg) (B : Bl mg) : FnOk P w K mg base CX0 1 f fd ["self", "weir"] (spThose Cg) := by
  refine F.ok scThose (fun vs H Q E h => ?_) (fun cdv A outer s H vs Q E hr h => ?_)
  · obtain ⟨p, dx, tn, dw, fs, y, R, B, rfl, _⟩ := h
    rfl
  · obtain ⟨p, dx, tn, dw, fs, y, R, BB, rfl, hp, l1, l2, hn, hw, hB, k⟩ := h
    have hu := hu_of hr
    refine ⟨_, PSs.nox (pss_one
      (ps_ret (pe_callTy (tupleK (K := K)) (by rfl) B.tuple (by decide +kernel) (pa_cons (pe_lc (own := [("name", 2)]) (g := gName 2) (by rfl) scThose.nd (pi_tup (fldK (K := K) (pv 0) rfl)) (blkOk_by (own := [("name", 2)]) (N := scThose_N) (sc := defScope scThose_S) (by decide +kernel)) (fun _ _ _ _ _ => (pg_name (i := 2) scThose.nd rfl (Or.inl rfl))) (fun _ _ _ _ _ => (pts_one (pt_cmpR (inK (K := K)) (pv 1) (pe_dget hu (fldK (K := K) (pv 0) rfl) (pv 2) (fun _ _ => rfl)) (by rfl)))) (fun _ _ _ _ _ => (pv 2))) pa_nil)))), ?_⟩
    obtain ⟨ta, w1, w2⟩ := hw.ex
    have hlb : (rnm BB).length = BB.length := List.length_map _
    refine ⟨_, rfl, p, Cg, dx, _, _, rfl, hp, TG.cl, TG.names, l1, tn, rfl, ⟨_, .inl hn⟩, fun D hD => ?_⟩
    refine lc_tupO (K := K) (a := tn) (xs := (rnm BB).map V.str) hD (fun i => (((rnm BB).take i).filter fun n => decide (y ∈ wayN R BB n)).map V.str) (by rw [List.take_zero]; rfl) (fun i _ => filt_size (by omega) i) (fun H2 s => .inl (hn.same s)) ?_ ?_
    · intro i x H2 Nx hx s put skip
      rw [List.getElem?_map] at hx
      obtain ⟨n, hn2, rfl⟩ := Option.map_eq_some_iff.mp hx
      have hnm : n ∈ rnm BB := List.mem_of_getElem? hn2
      refine ⟨rfl, ?_⟩
      refine ⟨_, rfl, _, rfl, p, Cg, dx, _, _, rfl, s _ _ hp, TG.cl, TG._ways, l2, _, rfl, dw, _, rfl, dget_rn (.inl (s _ _ w1)) hnm, ta n, _, rfl, .inr (.inl ((w2 n hnm).same s)), rfl, flat_strs _, _, rfl, ?_⟩
      rw [inV_str]
      have e := filt_take (p := fun n => decide (y ∈ wayN R BB n)) hn2
      refine ite2 (fun h => ?_) (fun h => ?_)
      · have h : decide (y ∈ wayN R BB n) = true := h
        rw [if_pos h] at e
        refine ⟨_, rfl, put _ _ (.refl _) ?_⟩
        rw [e, List.map_append]
        rfl
      · have h : ¬ decide (y ∈ wayN R BB n) = true := h
        rw [if_neg h, List.append_nil] at e
        exact skip _ (.refl _) (congrArg _ e)
    · intro H2 s2 hl
      rw [List.length_map, List.take_length] at hl
      refine ⟨D, _, rfl, .inl ⟨.inl (.inl hl), fun t nt => ?_⟩⟩
      refine k t _ (s2.trans (same_upd nt)) (.inl ?_)
      rw [upd_same]
      rfl
/-- the functions that the making of rights calls -/
structure Mg (P : Program) (w : World) (K : PySem.W.Frag) (mg : Str → Option Value) (base : Heap) (Cg Cr : Addr) : Prop where
  isName : ∃ f fd, FnP K "is_name" sIsName f fd ∧ mg "is_name" = some (.ref f)
  isRow : ∃ f fd, FnP K "_is_row" sIsRowR f fd ∧ mg "is_row_rights" = some (.ref f)
  needRows : ∃ f fd, FnP K "_need_rows" sNeedRowsR f fd ∧ mg "need_rows_rights" = some (.ref f)
  isDown : ∃ f fd, FnM K "is_down" "River.is_down" sIsDown f fd ∧ Meth K Cr "is_down" f
  way : ∃ f fd, FnM K "way" "River.way" sWay f fd ∧ Meth K Cr "way" f
  those : ∃ f fd, FnM K "_those_over" "Rights._those_over" sThose f fd ∧ Meth K Cg "_those_over" f
  D : NdS P w K mg base Cr
  M : Sc K Cr
theorem ok_ginit {f Cg Cr : Addr} {fd : FuncData} (F : FnM K "__init__" "Rights.__init__" sGInit f fd) (G : Mg P w K mg base Cg Cr) (TG : Rg K mg Cg) (T : Rv K mg Cr) (B : Bl mg) (C : Gc mg tS tM tL) : FnOk P w K mg base CX0 5 f fd ["self", "river", "rows"] (spGInit Cg Cr) := by
  obtain ⟨a1, d1, F1, m1⟩ := G.isName
  obtain ⟨a2, d2, F2, m2⟩ := G.isRow
  obtain ⟨a3, d3, F_need_rowsR, g_need_rowsR⟩ := G.needRows
  obtain ⟨a4, d4, F4, m4⟩ := G.isDown
  obtain ⟨a5, d5, Fway, Mway⟩ := G.way
  obtain ⟨a6, d6, F_those_over, M_those_over⟩ := G.those
  have G_need_rowsR : FnOk P w K mg base CX0 4 a3 d3 ["river", "rows"] (spNeedRowsR Cr) := ok_needrowsR F_need_rowsR F1 m1 F2 m2 F4 m4 G.D G.M T B C
  have b_need_rowsR : Binds K d3 ["river", "rows"] [] := F_need_rowsR.bindsN fun _ _ _ _ _ _ us hl => match us, hl with | [_, _], _ => rfl
  have Gway : FnOk P w K mg base CX0 3 a5 d5 ["self", "intake", "last"] (spWayS Cr) := ok_wayS Fway G.D T C
  have bway : Binds K d5 ["self", "intake", "last"] [] := Fway.bindsN fun _ _ _ _ _ _ us hl => match us, hl with | [_, _, _], _ => rfl
  have G_those_over : FnOk P w K mg base CX0 1 a6 d6 ["self", "weir"] (spThose Cg) := ok_those F_those_over TG B
  have b_those_over : Binds K d6 ["self", "weir"] [] := F_those_over.bindsN fun _ _ _ _ _ _ us hl => match us, hl with | [_, _], _ => rfl
  refine F.ok scGInit (fun vs H Q E h => ?_) (fun cdv A outer s H vs Q E hr h => ?_)
  · obtain ⟨p, q, l, dx, AR, BR, rfl, _⟩ := h
    rfl
  · obtain ⟨p, q, l, dx, AR, BR, rfl, hp, R, hG, hR, hB, k⟩ := h
    have hu := hu_of hr
    have hr_need_rowsR : Room 4 _ := hr
    have hrway : Room 3 _ := hr.mono (by decide)
    have hr_those_over : Room 1 _ := hr.mono (by decide)
    refine ⟨_, PSs.nox (pss_cons
      (ps_expr (pe_call G_need_rowsR hr_need_rowsR (by rfl) g_need_rowsR F_need_rowsR.kp b_need_rowsR .nil pass0 (pa_cons (pv 1) (pa_cons (pv 2) pa_nil))))
      (pss_cons
      (ps_fld (pv 0) (pv 1) rfl)
      (pss_cons
      (ps_fld (pv 0) (pe_callTy (tupleF (K := K)) (by rfl) B.tuple (by decide +kernel) (pa_cons (pe_lc (own := [("row", 3)]) (g := gName 3) (tt := tYes) (by rfl) scGInit.nd (pi_list (pv 2)) (blkOk_by (own := [("row", 3)]) (N := scGInit_N) (sc := defScope scGInit_S) (by decide +kernel)) (fun _ _ _ _ _ => (pg_name (i := 3) scGInit.nd rfl (Or.inl rfl))) (fun _ _ _ _ _ => pts_nil) (fun _ _ _ _ _ => (pe_ix (ixTK (K := K)) (pv 3) pe_int (fun _ _ => rfl)))) pa_nil)) rfl)
      (pss_cons
      (ps_fld (pv 0) (pe_callTy (tupleK (K := K)) (by rfl) B.tuple (by decide +kernel) (pa_cons (pv 2) pa_nil)) rfl)
      (pss_cons
      (ps_fld (pv 0) (pe_dc (own := [("name", 4), ("intake", 5), ("last", 6)]) (tt := tYes) (by rfl) scGInit.nd (pi_list (pv 2)) (blkOk_by (own := [("name", 4), ("intake", 5), ("last", 6)]) (N := scGInit_N) (sc := defScope scGInit_S) (by decide +kernel)) (fun _ _ _ _ _ => (tgK (K := K) (n := 3) (by rfl) (pgs_cons (pg_name (i := 4) scGInit.nd rfl (Or.inl rfl)) (pgs_cons (pg_name (i := 5) scGInit.nd rfl (Or.inl rfl)) (pgs_cons (pg_name (i := 6) scGInit.nd rfl (Or.inl rfl)) pgs_nil))))) (fun _ _ _ _ _ => pts_nil) (fun _ _ _ _ _ => (pv 4)) (fun _ _ _ _ _ => (pe_meth (pv 1) T.cl Mway Gway hrway bway .nil pass0 (pa_cons (pv 5) (pa_cons (pv 6) pa_nil))))) rfl)
      (pss_cons
      (ps_fld (pv 0) (pe_dc (own := [("row", 3)]) (g := gName 3) (tt := tYes) (by rfl) scGInit.nd (pi_list (pv 2)) (blkOk_by (own := [("row", 3)]) (N := scGInit_N) (sc := defScope scGInit_S) (by decide +kernel)) (fun _ _ _ _ _ => (pg_name (i := 3) scGInit.nd rfl (Or.inl rfl))) (fun _ _ _ _ _ => pts_nil) (fun _ _ _ _ _ => (pe_ix (ixTK (K := K)) (pv 3) pe_int (fun _ _ => rfl))) (fun _ _ _ _ _ => (pe_ix (ixTK (K := K)) (pv 3) pe_int (fun _ _ => rfl)))) rfl)
      (pss_one
      (ps_fld (pv 0) (pe_dc (own := [("weir", 7)]) (g := gName 7) (tt := tYes) (by rfl) scGInit.nd (pi_tup (fldK (K := K) (pv 1) rfl)) (blkOk_by (own := [("weir", 7)]) (N := scGInit_N) (sc := defScope scGInit_S) (by decide +kernel)) (fun _ _ _ _ _ => (pg_name (i := 7) scGInit.nd rfl (Or.inl rfl))) (fun _ _ _ _ _ => pts_nil) (fun _ _ _ _ _ => (pv 7)) (fun _ _ _ _ _ => (pe_meth (pv 0) TG.cl M_those_over G_those_over hr_those_over b_those_over .nil pass0 (pa_cons (pv 7) pa_nil)))) rfl)))))))), ?_⟩
    have hm := hB.most
    have hlb : (bOf BR).length = BR.length := List.length_map _
    have hln : (rnm (bOf BR)).length = BR.length := by rw [List.length_map, List.length_map]
    have hnd := hB.nd
    have hRm := hG.most
    have hAl : (rowsOf AR).length = AR.length := List.length_map _
    have hnl : (namesOf AR).length = AR.length := nmlen AR
    have notp : ∀ {Hk : Hp} {fs : List (Str × V)} {o : HO} {a : Addr}, Hk p = some (.ins Cg dx fs) → Hk a = some o → (∀ z1 z2 z3, o ≠ .ins z1 z2 z3) → a ≠ p := fun h1 h2 n => ne_of h2 h1 (n _ _ _)
    have hqp : ∀ {Hk : Hp} {fs : List (Str × V)}, Hk p = some (.ins Cg dx fs) → RivAt Cr Hk q AR → fs.lookup ("weirs" : Str) = none → q ≠ p := fun h1 r hno e => by
      obtain ⟨dx2, tw, tr, db, dc, da, du, o, j1, _⟩ := r.ex
      rw [e, h1] at j1
      injection j1 with j1
      injection j1 with j2 j3 j4
      rw [j4, g7w] at hno
      cases hno
    have hq0 : q ≠ p := hqp hp R rfl
    -- need_rows
    refine ⟨_, rfl, _, rfl, q, l, AR, BR, rfl, R, hG, hR, hB, fun H1 t1 => ?_⟩
    have p1 := t1 _ _ hp
    have R1 := Same.riv t1 R
    have b1 := hR.same t1
    -- self.river
    refine ⟨_, rfl, _, rfl, p, Cg, dx, _, rfl, p1, TG.cl, TG.river, by show 0 < 1000; decide, ?_⟩
    have step : ∀ {Hk : Hp} {fs fs2 : List (Str × V)}, Hk p = some (.ins Cg dx fs) → Upto p H Hk → RivAt Cr Hk q AR → BRows Hk l BR →
        Upto p H (upd Hk p (.ins Cg dx fs2)) ∧ RivAt Cr (upd Hk p (.ins Cg dx fs2)) q AR ∧ BRows (upd Hk p (.ins Cg dx fs2)) l BR ∧ Upto p Hk (upd Hk p (.ins Cg dx fs2)) := fun {Hk fs fs2} h1 u r b =>
      ⟨u.trans Upto.at_, riv_upto Upto.at_ ⟨_, _, _, h1⟩ hq0 r, ⟨by rw [upd_ne (notp h1 b.lst (fun _ _ _ z => by cases z))]; exact b.lst, fun z hz => by rw [upd_ne (notp h1 (b.tup z hz) (fun _ _ _ z => by cases z))]; exact b.tup z hz⟩, Upto.at_⟩
    obtain ⟨u2, R2, b2, v2⟩ := step (fs2 := r1 (.ref q)) p1 (Upto.of t1) R1 b1
    have p2 : (upd H1 p (.ins Cg dx (r1 (.ref q)))) p = some (.ins Cg dx (r1 (.ref q))) := upd_same
    show tSeq _ _ _ _ (upd H1 p (.ins Cg dx (r1 (.ref q))))
    generalize upd H1 p (.ins Cg dx (r1 (.ref q))) = H2 at u2 R2 b2 v2 p2
    -- self.names
    refine ⟨_, rfl, l, rfl, ⟨_, .inl (.inl b2.lst)⟩, fun D hD => ?_⟩
    refine lc_listO (K := K) (a := l) (xs := BR.map fun q => V.ref q.1) hD (fun i => ((rnm (bOf BR)).take i).map V.str) (by rw [List.take_zero]; rfl) (fun i hi => take_size (by omega) i (by rw [List.length_map] at hi ⊢; omega)) (.inl (.inl b2.lst)) ?_ ?_
    · intro i x H3 Nx hx s put skip
      have hi : i < BR.length := by
        have := (List.getElem?_eq_some_iff.mp hx).1
        rw [List.length_map] at this
        exact this
      have ex := brow_at hx hi
      subst ex
      refine ⟨rfl, ?_⟩
      unfold tYes
      refine iteT ?_
      refine ⟨_, rfl, BR[i].1, _, _, _, rfl, rfl, .inl (.inl (s _ _ (b2.tup _ (List.getElem_mem hi)))), atI_nat (j := 0) rfl, put _ _ (.refl _) (take_map1 (brow_nm hi))⟩
    intro H3 s3 hl
    rw [List.length_map, ← hln, List.take_length] at hl
    refine ⟨D, _, rfl, .inl (.inl hl), fun tn otn ntn ptn => ?_⟩
    have s4 : Same H2 (upd H3 tn (.frz otn (.tup ((rnm (bOf BR)).map V.str)))) := s3.trans (same_upd ntn)
    have n4 : FT (upd H3 tn (.frz otn (.tup ((rnm (bOf BR)).map V.str)))) tn (rnm (bOf BR)) := ⟨otn, ptn, upd_same⟩
    generalize upd H3 tn (.frz otn (.tup ((rnm (bOf BR)).map V.str))) = H4 at s4 n4
    have p4 := s4 _ _ p2
    have R4 := Same.riv s4 R2
    have b4 := b2.same s4
    have u4 : Upto p H H4 := u2.trans (Upto.of s4)
    refine ⟨_, rfl, p, Cg, dx, _, rfl, p4, TG.cl, TG.names, by have := rl1 (.ref q); omega, ?_⟩
    obtain ⟨u5, R5, b5, v5⟩ := step (fs2 := r2 (.ref q) (.ref tn)) p4 u4 R4 b4
    have p5 : (upd H4 p (.ins Cg dx (r2 (.ref q) (.ref tn)))) p = some (.ins Cg dx (r2 (.ref q) (.ref tn))) := upd_same
    have n5 := ft_upto v5 ⟨_, _, _, p4⟩ n4
    show tSeq _ _ _ _ (upd H4 p (.ins Cg dx (r2 (.ref q) (.ref tn))))
    generalize upd H4 p (.ins Cg dx (r2 (.ref q) (.ref tn))) = H5 at u5 R5 b5 v5 p5 n5
    -- self._rows
    refine ⟨_, rfl, l, _, rfl, .inl ⟨.inl (.inl b5.lst), fun tr ntr => ?_⟩⟩
    have s6 : Same H5 (upd H5 tr (.tup (BR.map fun q => V.ref q.1))) := same_upd ntr
    have o6 : (upd H5 tr (.tup (BR.map fun q => V.ref q.1))) tr = some (.tup (BR.map fun q => V.ref q.1)) := upd_same
    generalize upd H5 tr (.tup (BR.map fun q => V.ref q.1)) = H6 at s6 o6
    have p6 := s6 _ _ p5
    have R6 := Same.riv s6 R5
    have b6 := b5.same s6
    have n6 := n5.same s6
    have u6 : Upto p H H6 := u5.trans (Upto.of s6)
    refine ⟨_, rfl, p, Cg, dx, _, rfl, p6, TG.cl, TG._rows, by have := rl2 (.ref q) (.ref tn); omega, ?_⟩
    obtain ⟨u7, R7, b7, v7⟩ := step (fs2 := r3 (.ref q) (.ref tn) (.ref tr)) p6 u6 R6 b6
    have p7 : (upd H6 p (.ins Cg dx (r3 (.ref q) (.ref tn) (.ref tr)))) p = some (.ins Cg dx (r3 (.ref q) (.ref tn) (.ref tr))) := upd_same
    have n7 := ft_upto v7 ⟨_, _, _, p6⟩ n6
    have o7 : (upd H6 p (.ins Cg dx (r3 (.ref q) (.ref tn) (.ref tr)))) tr = some (.tup (BR.map fun q => V.ref q.1)) := v7 _ _ o6 (notp p6 o6 (fun _ _ _ z => by cases z))
    show tSeq _ _ _ _ (upd H6 p (.ins Cg dx (r3 (.ref q) (.ref tn) (.ref tr))))
    generalize upd H6 p (.ins Cg dx (r3 (.ref q) (.ref tn) (.ref tr))) = H7 at u7 R7 b7 v7 p7 n7 o7
    -- self._ways
    refine ⟨_, rfl, l, rfl, ⟨_, .inl (.inl b7.lst)⟩, fun dw ndw => ?_⟩
    have hle : (BR.map fun q => V.ref q.1).length = (rnm (bOf BR)).length := by rw [hln, List.length_map]
    have wl := walk_list (K := K) (a := l) (xs := BR.map fun q => V.ref q.1)
    rw [hle] at wl
    refine dc_itT (gg := wayN (rowsOf AR) (bOf BR)) wl hnd ndw (by omega) (fun H8 s => .inl (.inl (s _ _ b7.lst))) ?_ ?_
    · rintro i x y H8 H8' Nx hy s put ⟨rfl, hx⟩
      have hi : i < BR.length := by
        have := (List.getElem?_eq_some_iff.mp hx).1
        rw [List.length_map] at this
        exact this
      have ex := brow_at hx hi
      subst ex
      rw [brow_nm hi] at hy
      obtain rfl : BR[i].2.1 = y := Option.some.inj hy
      have hmem : BR[i] ∈ BR := List.getElem_mem hi
      have hrow : BR[i].2 ∈ bOf BR := List.mem_map.mpr ⟨_, hmem, rfl⟩
      refine ⟨BR[i].1, _, rfl, .inl (.inl (s _ _ (b7.tup _ hmem))), rfl, _, _, rfl, _, _, rfl, _, _, rfl, rfl, rfl, ?_⟩
      unfold tYes
      refine iteT ?_
      have R8 := Same.riv s R7
      obtain ⟨dx2, tw, tr2, db, dc, da, du, o, i1, _⟩ := id R8.ex
      refine ⟨_, rfl, _, rfl, q, dx2, _, rfl, i1, g7no _ _ _ _ _ _ _ (by decide +kernel) (by decide +kernel) (by decide +kernel) (by decide +kernel) (by decide +kernel) (by decide +kernel) (by decide +kernel), _, rfl, _, rfl, q, BR[i].2, AR, rfl, R8, hG, hB.inn _ hrow, hB.last _ hrow, fun t H9 s9 ht => ?_⟩
      rw [← way_of hnd hrow] at ht
      exact put t H9 s9 ht
    intro H8 s8 hw8
    have p8 := s8 _ _ p7
    have R8 := Same.riv s8 R7
    have b8 := b7.same s8
    have n8 := n7.same s8
    have o8 := s8 _ _ o7
    have u8 : Upto p H H8 := u7.trans (Upto.of s8)
    refine ⟨_, rfl, p, Cg, dx, _, rfl, p8, TG.cl, TG._ways, by have := rl3 (.ref q) (.ref tn) (.ref tr); omega, ?_⟩
    obtain ⟨u9, R9, b9, v9⟩ := step (fs2 := r4 (.ref q) (.ref tn) (.ref tr) (.ref dw)) p8 u8 R8 b8
    have p9 : (upd H8 p (.ins Cg dx (r4 (.ref q) (.ref tn) (.ref tr) (.ref dw)))) p = some (.ins Cg dx (r4 (.ref q) (.ref tn) (.ref tr) (.ref dw))) := upd_same
    have n9 := ft_upto v9 ⟨_, _, _, p8⟩ n8
    have o9 : (upd H8 p (.ins Cg dx (r4 (.ref q) (.ref tn) (.ref tr) (.ref dw)))) tr = some (.tup (BR.map fun q => V.ref q.1)) := v9 _ _ o8 (notp p8 o8 (fun _ _ _ z => by cases z))
    have w9 := tupsR_upto v9 ⟨_, _, _, p8⟩ hw8
    show tSeq _ _ _ _ (upd H8 p (.ins Cg dx (r4 (.ref q) (.ref tn) (.ref tr) (.ref dw))))
    generalize upd H8 p (.ins Cg dx (r4 (.ref q) (.ref tn) (.ref tr) (.ref dw))) = H9 at u9 R9 b9 v9 p9 n9 o9 w9
    -- self._lasts
    refine ⟨_, rfl, l, rfl, ⟨_, .inl (.inl b9.lst)⟩, fun dl ndl => ?_⟩
    refine dc_itO (walk_list (K := K) (a := l) (xs := BR.map fun q => V.ref q.1)) ndl (fun i => kmap (fun n => .str (rowB (bOf BR) n).2.2) ((rnm (bOf BR)).take i)) (by rw [List.take_zero]; rfl) (fun i hi => by rw [kmap_len, List.length_take]; exact small1000 (by omega)) (fun H10 s => .inl (.inl (s _ _ b9.lst))) ?_ ?_
    · rintro i x H10 H10' Nx hi s hcur put ⟨rfl, hx⟩
      have hi : i < BR.length := by rw [List.length_map] at hi; exact hi
      have ex := brow_at hx hi
      subst ex
      have hmem : BR[i] ∈ BR := List.getElem_mem hi
      have hrow : BR[i].2 ∈ bOf BR := List.mem_map.mpr ⟨_, hmem, rfl⟩
      refine ⟨rfl, ?_⟩
      unfold tYes
      refine iteT ?_
      refine ⟨_, rfl, BR[i].1, _, _, _, rfl, rfl, .inl (.inl (s _ _ (b9.tup _ hmem))), atI_nat (j := 0) rfl, _, rfl, BR[i].1, _, _, _, rfl, rfl, .inl (.inl (s _ _ (b9.tup _ hmem))), atI_nat (j := 2) rfl, ?_⟩
      refine put (Sum.inr BR[i].2.1) _ _ (.refl _) ?_
      have e := kmap_put (f := fun n => V.str (rowB (bOf BR) n).2.2) (nodup_take hnd (brow_nm hi))
      rw [row_of hnd hrow] at e
      rw [List.take_add_one, brow_nm hi]
      exact e.symm
    intro H10 s10 l10
    have hLB : (kmap (fun n => V.str (rowB (bOf BR) n).2.2) ((rnm (bOf BR)).take (BR.map fun q => V.ref q.1).length)) = lastB (bOf BR) := by
      rw [hle, List.take_length]
      rfl
    rw [hLB] at l10
    have p10 := s10 _ _ p9
    have R10 := Same.riv s10 R9
    have b10 := b9.same s10
    have n10 := n9.same s10
    have o10 := s10 _ _ o9
    have w10 := w9.same s10
    have u10 : Upto p H H10 := u9.trans (Upto.of s10)
    refine ⟨_, rfl, p, Cg, dx, _, rfl, p10, TG.cl, TG._lasts, by have := rl4 (.ref q) (.ref tn) (.ref tr) (.ref dw); omega, ?_⟩
    obtain ⟨u11, R11, b11, v11⟩ := step (fs2 := r5 (.ref q) (.ref tn) (.ref tr) (.ref dw) (.ref dl)) p10 u10 R10 b10
    have p11 : (upd H10 p (.ins Cg dx (r5 (.ref q) (.ref tn) (.ref tr) (.ref dw) (.ref dl)))) p = some (.ins Cg dx (r5 (.ref q) (.ref tn) (.ref tr) (.ref dw) (.ref dl))) := upd_same
    have n11 := ft_upto v11 ⟨_, _, _, p10⟩ n10
    have o11 : (upd H10 p (.ins Cg dx (r5 (.ref q) (.ref tn) (.ref tr) (.ref dw) (.ref dl)))) tr = some (.tup (BR.map fun q => V.ref q.1)) := v11 _ _ o10 (notp p10 o10 (fun _ _ _ z => by cases z))
    have w11 := tupsR_upto v11 ⟨_, _, _, p10⟩ w10
    have l11 : (upd H10 p (.ins Cg dx (r5 (.ref q) (.ref tn) (.ref tr) (.ref dw) (.ref dl)))) dl = some (.dK (lastB (bOf BR))) := v11 _ _ l10 (notp p10 l10 (fun _ _ _ z => by cases z))
    show Ends.nx _ _ (upd H10 p (.ins Cg dx (r5 (.ref q) (.ref tn) (.ref tr) (.ref dw) (.ref dl))))
    generalize upd H10 p (.ins Cg dx (r5 (.ref q) (.ref tn) (.ref tr) (.ref dw) (.ref dl))) = H11 at u11 R11 b11 v11 p11 n11 o11 w11 l11
    -- self._passing
    obtain ⟨dx3, tw, tr3, db, dc, da, du, o, i1, i2, _⟩ := id R11.ex
    refine ⟨_, rfl, q, Cr, dx3, _, _, rfl, i1, T.cl, T.weirs, g7w _ _ _ _ _ _ _, tw, rfl, ⟨_, .inl (.inl i2)⟩, fun dp ndp => ?_⟩
    have hle2 : ((namesOf AR).map V.str).length = (namesOf AR).length := List.length_map _
    have wt := walk_tup (K := K) (a := tw) (xs := (namesOf AR).map V.str)
    rw [hle2] at wt
    refine dc_itT (gg := passR (rowsOf AR) (bOf BR)) wt hG.nm.nd ndp (by omega) (fun H12 s => .inl (.inl (s _ _ i2))) ?_ ?_
    · rintro i x y H12 H12' Nx hy s put ⟨rfl, hx⟩
      rw [List.getElem?_map, hy] at hx
      obtain rfl : V.str y = x := Option.some.inj hx
      refine ⟨rfl, ?_⟩
      unfold tYes
      refine iteT ?_
      refine ⟨_, rfl, _, rfl, p, dx, _, rfl, s _ _ p11, rr5no _ _ _ _ _ (by decide +kernel), _, rfl, p, dx, tn, dw, _, y, rowsOf AR, bOf BR, rfl, s _ _ p11, rr5n _ _ _ _ _, rr5w _ _ _ _ _, (n11.same s).rd, w11.same s, hm, fun t H13 s13 ht => put t H13 s13 ht⟩
    intro H12 s12 hp12
    have p12 := s12 _ _ p11
    refine ⟨_, rfl, p, Cg, dx, _, rfl, p12, TG.cl, TG._passing, by have := rl5 (.ref q) (.ref tn) (.ref tr) (.ref dw) (.ref dl); omega, ?_⟩
    have v13 : Upto p H12 (upd H12 p (.ins Cg dx (r6 (.ref q) (.ref tn) (.ref tr) (.ref dw) (.ref dl) (.ref dp)))) := Upto.at_
    have hpx : ∃ C dx fs, H12 p = some (.ins C dx fs) := ⟨_, _, _, p12⟩
    have b12 := b11.same s12
    refine k _ ((u11.trans (Upto.of s12)).trans v13) ⟨dx, tn, tr, dw, dl, dp, upd_same, riv_upto v13 hpx hq0 (Same.riv s12 R11), ft_upto v13 hpx (n11.same s12), v13 _ _ (s12 _ _ o11) (notp p12 (s12 _ _ o11) (fun _ _ _ z => by cases z)), fun z hz => v13 _ _ (b12.tup z hz) (notp p12 (b12.tup z hz) (fun _ _ _ z => by cases z)), tupsR_upto v13 hpx (w11.same s12), tupsR_upto v13 hpx hp12, v13 _ _ (s12 _ _ l11) (notp p12 (s12 _ _ l11) (fun _ _ _ z => by cases z))⟩
end
end K0
end
section
set_option Elab.async false
set_option linter.all false
set_option maxRecDepth 100000
set_option maxHeartbeats 4000000
namespace L2
open PySem PySem.Spec PyProof.Rows
def tTru (K : PySem.W.Frag) (ta : TE) : TT := fun σ H Q => ta σ H fun x H' => ∃ k, TruV K x H' k ∧ Q k H'
theorem pt_tru {X : Cx} {K : PySem.W.Frag} {a : Expr} {ta : TE} (ha : PE X a ta) (he : ∀ whole, isTrue a X.env whole = (do let v ← whole; standAt a.pos; holding [v] (truthy v)) := by intro _; rfl) (e : X.K = K := by rfl) : PT X a (tTru K ta) := e ▸ pt_truth ha he
end L2
namespace K0
open PySem PySem.Spec PyProof.Rows L2
/-! ### what rights are asked, for rights that there are -/
structure Gm (K : PySem.W.Frag) (Cg : Addr) : Prop where
  has : ∃ f fd, FnM K "__contains__" "Rights.__contains__" sGContains f fd ∧ PySem.W.findIn K (.ref Cg) "__contains__" = some (some (.ref f)) ∧ PySem.W.isFn K (.ref f) = true
abbrev GHasG (Cg Cr : Addr) : Hp → Addr → V → Bool → Prop := fun H p x b => ∃ q AR BR n, RigAt Cg Cr H p q AR BR ∧ x = .str n ∧ b = decide (n ∈ rnm (bOf BR))
theorem scGContains : FnScope ["self", "x"] ["self", "x"] (defScope sGContains) := ⟨rfl, rfl, rfl, by decide +kernel, rfl, by decide +kernel, by decide +kernel⟩
theorem scNeedR : FnScope ["rights", "name"] ["rights", "name"] (defScope sNeedR) := ⟨rfl, rfl, rfl, by decide +kernel, rfl, by decide +kernel, by decide +kernel⟩
theorem scGLast : FnScope ["self", "name"] ["self", "name"] (defScope sGLast) := ⟨rfl, rfl, rfl, by decide +kernel, rfl, by decide +kernel, by decide +kernel⟩
theorem scGWay : FnScope ["self", "name"] ["self", "name"] (defScope sGWay) := ⟨rfl, rfl, rfl, by decide +kernel, rfl, by decide +kernel, by decide +kernel⟩
theorem scGRows : FnScope ["self"] ["self"] (defScope sGRows) := ⟨rfl, rfl, rfl, by decide +kernel, rfl, by decide +kernel, by decide +kernel⟩
/-- what stands at p, and that all is in order -/
structure RigOk (Cg Cr : Addr) (H : Hp) (p q : Addr) (AR : List (Addr × Row)) (BR : List (Addr × RRow)) : Prop where
  at_ : RigAt Cg Cr H p q AR BR
  g : GoodRows (rowsOf AR)
  b : RtOk (rowsOf AR) (bOf BR)
theorem RigOk.same {Cg Cr : Addr} {H H' : Hp} {p q : Addr} {AR : List (Addr × Row)} {BR : List (Addr × RRow)} (r : RigOk Cg Cr H p q AR BR) (s : Same H H') : RigOk Cg Cr H' p q AR BR := ⟨r.at_.same s, r.g, r.b⟩
abbrev wyN (AR : List (Addr × Row)) (BR : List (Addr × RRow)) (n : Str) : List Str := wayN (rowsOf AR) (bOf BR) n
def spNeedG (Cg Cr : Addr) : Sp := fun vs H Q _ => ∃ (p q : Addr) (n : Str) (AR : List (Addr × Row)) (BR : List (Addr × RRow)), vs = [.ref p, .str n] ∧ RigOk Cg Cr H p q AR BR ∧ n ∈ rnm (bOf BR) ∧ Q .non H
def spLastG (Cg Cr : Addr) : Sp := fun vs H Q _ => ∃ (p q : Addr) (n : Str) (AR : List (Addr × Row)) (BR : List (Addr × RRow)), vs = [.ref p, .str n] ∧ RigOk Cg Cr H p q AR BR ∧ n ∈ rnm (bOf BR) ∧ Q (.str (lastW (wyN AR BR n))) H
def spWayG (Cg Cr : Addr) : Sp := fun vs H Q _ => ∃ (p q : Addr) (n : Str) (AR : List (Addr × Row)) (BR : List (Addr × RRow)), vs = [.ref p, .str n] ∧ RigOk Cg Cr H p q AR BR ∧ n ∈ rnm (bOf BR) ∧ ∀ t, TxR H t (wyN AR BR n) → Q (.ref t) H
def spPassG (Cg Cr : Addr) : Sp := fun vs H Q _ => ∃ (p q : Addr) (y : Str) (AR : List (Addr × Row)) (BR : List (Addr × RRow)), vs = [.ref p, .str y] ∧ RigOk Cg Cr H p q AR BR ∧ y ∈ namesOf AR ∧ ∀ t, TxR H t (passR (rowsOf AR) (bOf BR) y) → Q (.ref t) H
def spRowsG (Cg Cr : Addr) : Sp := fun vs H Q _ => ∃ (p q : Addr) (AR : List (Addr × Row)) (BR : List (Addr × RRow)), vs = [.ref p] ∧ RigOk Cg Cr H p q AR BR ∧ ∀ l, H l = none → Q (.ref l) (upd H l (.lst (BR.map fun q => .ref q.1)))
def metR (R : List Row) (B : List RRow) (a : Str) : List Str := (rnm B).filter fun o => decide (o ≠ a) && meetB R B a o
theorem way_ne {R : List Row} (g : GoodRows R) {B : List RRow} (b : RtOk R B) {n : Str} (hn : n ∈ rnm B) : atI ((wayN R B n).map V.str) (-1) = some (.str (lastW (wayN R B n))) ∧ (wayN R B n).length ≤ 40 := by
  obtain ⟨r, hr, rfl⟩ := List.mem_map.mp hn
  obtain ⟨m, k, w⟩ := way_is g (b.inn r hr) (b.last r hr)
  rw [way_of b.nd hr]
  have h1 := w.one; have h2 := w.most; have h3 := w.c.most; have h4 := g.most
  constructor
  · rw [w.last, w.eq]
    exact last_of h1
  · rw [w.eq, List.length_map, List.length_range]
    omega
section
variable {P : Program} {w : World} {K : PySem.W.Frag} {mg : Str → Option Value} {base : Heap} {tS tM tL : Tok}
theorem ok_gcontains {f Cg Cr : Addr} {fd : FuncData} (F : FnM K "__contains__" "Rights.__contains__" sGContains f fd) (TG : Rg K mg Cg) (B : Bl mg) : FnOk P w K mg base CX0 1 f fd ["self", "x"] (spHas (GHasG Cg Cr)) := by
  refine F.ok scGContains (fun vs H Q E h => ?_) (fun cdv A outer s H vs Q E hr h => ?_)
  · obtain ⟨p, x, b, rfl, _⟩ := h
    rfl
  · obtain ⟨p, x, b, rfl, ⟨q, AR, BR, n, R, rfl, rfl⟩, k⟩ := h
    have hu := hu_of hr
    refine ⟨_, PSs.nox (pss_one
      (ps_ret (pe_and (pe_callB call_isi (by rfl) B.isinstance (by decide +kernel) (pa_cons (pv 1) (pa_cons (pe_bltn (v := .ty "str") (by rfl) B.str (by decide +kernel) rfl) pa_nil))) (pe_one (pe_cmp (pc_din hu (pv 1) (fldK (K := K) (pv 0) rfl)) rfl))))), ?_⟩
    obtain ⟨dx, tn, tr, dw, dl, dp, h1, h2, h3, h4, h5, h6, h7, h8⟩ := R.ex
    obtain ⟨ta, w1, w2⟩ := h6.ex
    refine ⟨_, rfl, .str n, .ty "str", _, _, true, rfl, .ty "str", .base (.str n), kit_ty (by decide +kernel), true, rfl, iteT ?_⟩
    refine ⟨_, rfl, _, rfl, p, Cg, dx, _, _, rfl, h1, TG.cl, TG._ways, rr6w _ _ _ _ _ _, ?_⟩
    by_cases hy : n ∈ rnm (bOf BR)
    · refine ⟨dw, some (.ref (ta n)), rfl, dget_rn (.inl w1) hy, ?_⟩
      rw [decide_eq_true hy] at k
      exact k
    · refine ⟨dw, none, rfl, .inl ⟨_, Sum.inr n, .inl w1, rfl, (kmap_not hy).symm⟩, ?_⟩
      rw [decide_eq_false hy] at k
      exact k
theorem ok_needG {f Cg Cr : Addr} {fd : FuncData} (F : FnP K "need_right" sNeedR f fd) (M : Gm K Cg) (TG : Rg K mg Cg) (B : Bl mg) : FnOk P w K mg base CX0 2 f fd ["rights", "name"] (spNeedG Cg Cr) := by
  obtain ⟨fC, fdC, FC, hs, hf⟩ := M.has
  have GC : FnOk P w K mg base CX0 1 fC fdC ["self", "x"] (spHas (GHasG Cg Cr)) := ok_gcontains FC TG B
  have bC : Binds K fdC ["self", "x"] [] := FC.bindsN fun _ _ _ _ _ _ us hl => match us, hl with | [_, _], _ => rfl
  refine F.ok scNeedR (fun vs H Q E h => ?_) (fun cdv A outer s H vs Q E hr h => ?_)
  · obtain ⟨p, q, n, AR, BR, rfl, _⟩ := h
    rfl
  · obtain ⟨p, q, n, AR, BR, rfl, R, hn, k⟩ := h
    refine ⟨_, PSs.nox (pss_one
      (ps_if (pt_cmpR (k0_notIn_own (K := K) GC hr hs hf bC) (pv 1) (pv 0) (by rfl)) (pss_one
      ps_never) pss_nil)), ?_⟩
    obtain ⟨dx, tn, tr, dw, dl, dp, h1, _⟩ := id R.at_.ex
    refine ⟨_, rfl, _, rfl, p, dx, _, true, rfl, h1, ⟨q, AR, BR, n, R.at_, rfl, (decide_eq_true hn).symm⟩, _, rfl, ?_⟩
    exact iteF k
/-- need_right and what it promises -/
structure NdG (P : Program) (w : World) (K : PySem.W.Frag) (mg : Str → Option Value) (base : Heap) (Cg Cr : Addr) : Prop where
  ex : ∃ f fd, FnP K "need_right" sNeedR f fd ∧ mg "need_right" = some (.ref f) ∧ FnOk P w K mg base CX0 2 f fd ["rights", "name"] (spNeedG Cg Cr)
theorem ok_lastG {f Cg Cr : Addr} {fd : FuncData} (F : FnM K "last" "Rights.last" sGLast f fd) (D : NdG P w K mg base Cg Cr) (TG : Rg K mg Cg) : FnOk P w K mg base CX0 3 f fd ["self", "name"] (spLastG Cg Cr) := by
  obtain ⟨fN, fdN, Fneed_right, gneed_right, Gneed_right⟩ := D.ex
  have bneed_right : Binds K fdN ["rights", "name"] [] := Fneed_right.bindsN fun _ _ _ _ _ _ us hl => match us, hl with | [_, _], _ => rfl
  refine F.ok scGLast (fun vs H Q E h => ?_) (fun cdv A outer s H vs Q E hr h => ?_)
  · obtain ⟨p, q, n, AR, BR, rfl, _⟩ := h
    rfl
  · obtain ⟨p, q, n, AR, BR, rfl, R, hn, k⟩ := h
    have hu := hu_of hr
    have hrneed_right : Room 2 _ := hr
    refine ⟨_, PSs.nox (pss_cons
      (ps_expr (pe_call Gneed_right hrneed_right (by rfl) gneed_right Fneed_right.kp bneed_right .nil pass0 (pa_cons (pv 0) (pa_cons (pv 1) pa_nil))))
      (pss_one
      (ps_ret (pe_ix (ixTK (K := K)) (pe_dget hu (fldK (K := K) (pv 0) rfl) (pv 1) (fun _ _ => rfl)) (pe_un un_neg pe_int) (fun _ _ => rfl))))), ?_⟩
    obtain ⟨dx, tn, tr, dw, dl, dp, h1, h2, h3, h4, h5, h6, h7, h8⟩ := id R.at_.ex
    obtain ⟨ta, w1, w2⟩ := h6.ex
    refine ⟨_, rfl, _, rfl, p, q, n, AR, BR, rfl, R, hn, ?_⟩
    exact ⟨_, rfl, p, Cg, dx, _, _, rfl, h1, TG.cl, TG._ways, rr6w _ _ _ _ _ _, _, rfl, dw, _, rfl, dget_rn (.inl w1) hn, _, rfl, ta n, _, _, _, rfl, rfl, .inl (w2 n hn), (way_ne R.g R.b hn).1, k⟩
theorem ok_wayG {f Cg Cr : Addr} {fd : FuncData} (F : FnM K "way" "Rights.way" sGWay f fd) (D : NdG P w K mg base Cg Cr) (TG : Rg K mg Cg) : FnOk P w K mg base CX0 3 f fd ["self", "name"] (spWayG Cg Cr) := by
  obtain ⟨fN, fdN, Fneed_right, gneed_right, Gneed_right⟩ := D.ex
  have bneed_right : Binds K fdN ["rights", "name"] [] := Fneed_right.bindsN fun _ _ _ _ _ _ us hl => match us, hl with | [_, _], _ => rfl
  refine F.ok scGWay (fun vs H Q E h => ?_) (fun cdv A outer s H vs Q E hr h => ?_)
  · obtain ⟨p, q, n, AR, BR, rfl, _⟩ := h
    rfl
  · obtain ⟨p, q, n, AR, BR, rfl, R, hn, k⟩ := h
    have hu := hu_of hr
    have hrneed_right : Room 2 _ := hr
    refine ⟨_, PSs.nox (pss_cons
      (ps_expr (pe_call Gneed_right hrneed_right (by rfl) gneed_right Fneed_right.kp bneed_right .nil pass0 (pa_cons (pv 0) (pa_cons (pv 1) pa_nil))))
      (pss_one
      (ps_ret (pe_dget hu (fldK (K := K) (pv 0) rfl) (pv 1) (fun _ _ => rfl))))), ?_⟩
    obtain ⟨dx, tn, tr, dw, dl, dp, h1, h2, h3, h4, h5, h6, h7, h8⟩ := id R.at_.ex
    obtain ⟨ta, w1, w2⟩ := h6.ex
    refine ⟨_, rfl, _, rfl, p, q, n, AR, BR, rfl, R, hn, ?_⟩
    exact ⟨_, rfl, p, Cg, dx, _, _, rfl, h1, TG.cl, TG._ways, rr6w _ _ _ _ _ _, _, rfl, dw, _, rfl, dget_rn (.inl w1) hn, k _ (w2 n hn)⟩
theorem ok_rowsG {f Cg Cr : Addr} {fd : FuncData} (F : FnM K "rows" "Rights.rows" sGRows f fd) (TG : Rg K mg Cg) (B : Bl mg) : FnOk P w K mg base CX0 1 f fd ["self"] (spRowsG Cg Cr) := by
  refine F.ok scGRows (fun vs H Q E h => ?_) (fun cdv A outer s H vs Q E hr h => ?_)
  · obtain ⟨p, q, AR, BR, rfl, _⟩ := h
    rfl
  · obtain ⟨p, q, AR, BR, rfl, R, k⟩ := h
    refine ⟨_, PSs.nox (pss_one
      (ps_ret (pe_callTy (listK (K := K)) (by rfl) B.list (by decide +kernel) (pa_cons (fldK (K := K) (pv 0) rfl) pa_nil)))), ?_⟩
    obtain ⟨dx, tn, tr, dw, dl, dp, h1, h2, h3, h4, h5, h6, h7, h8⟩ := id R.at_.ex
    exact ⟨_, rfl, p, Cg, dx, _, _, rfl, h1, TG.cl, TG._rows, rr6o _ _ _ _ _ _, tr, _, rfl, .inr (.inl (.inl h4)), fun l nl => k l nl⟩
end
end K0
end
section
set_option Elab.async false
set_option linter.all false
set_option maxRecDepth 100000
namespace K0
open PySem PySem.Spec PyProof.Rows L2
theorem iteYes {c A B : Prop} [Decidable c] (hc : ¬ c) (h : A) : if (!decide c) = true then A else B := by
  rw [decide_eq_false hc]
  exact iteT h
theorem iteNo {c A B : Prop} [Decidable c] (hc : ¬ ¬ c) (h : B) : if (!decide c) = true then A else B := by
  rw [decide_eq_true (Decidable.not_not.mp hc)]
  exact iteF h
theorem low_sea {R : List Row} (g : GoodRows R) : lowR R "sea" = "sea" := by
  unfold lowR
  cases e : R.find? (fun r => decide (r.1 = ("sea" : Str))) with
  | none => rfl
  | some r =>
    have h1 := List.mem_of_find?_eq_some e
    have h0 := List.find?_some e
    have h2 := of_decide_eq_true h0
    exact absurd h2 (g.nm.sea _ (List.mem_map.mpr ⟨r, h1, rfl⟩))
theorem itr_sea {low : Str → Str} (h : low "sea" = "sea") : ∀ n, itr low n "sea" = "sea"
  | 0 => rfl
  | n + 1 => by
    show low (itr low n "sea") = "sea"
    rw [itr_sea h n, h]
theorem crs_snoc {low : Str → Str} (h : low "sea" = "sea") : ∀ (n : Nat) (x : Str), crs low (n + 1) x = crs low n x ++ (if itr low n x = "sea" then [] else [itr low n x])
  | 0, x => rfl
  | n + 1, x => by
    show (if x = "sea" then [] else x :: crs low (n + 1) (low x)) = (if x = "sea" then [] else x :: crs low n (low x)) ++ _
    rw [itr_shift]
    by_cases hx : x = "sea"
    · subst hx
      rw [if_pos rfl, if_pos rfl, h, itr_sea h n, if_pos rfl]
      rfl
    · rw [if_neg hx, if_neg hx, crs_snoc h n (low x)]
      rfl
theorem itr_in {R : List Row} (g : GoodRows R) {x : Str} (hx : x ∈ nmsOf R) : ∀ n, itr (lowR R) n x = "sea" ∨ itr (lowR R) n x ∈ nmsOf R
  | 0 => .inr hx
  | n + 1 => by
    show lowR R (itr (lowR R) n x) = "sea" ∨ lowR R (itr (lowR R) n x) ∈ nmsOf R
    rcases itr_in g hx n with e | e
    · rw [e]
      exact .inl (low_sea g)
    · obtain ⟨r, hr, e1, e2⟩ := low_row e
      obtain ⟨rk, hk⟩ := g.rank
      rw [← e2]
      rcases hk r hr with z | ⟨z, _⟩
      · exact .inl z
      · exact .inr z
theorem merge_rows {R : List Row} : ∀ {Q : List Row} {ns : List Str}, (ns ++ Q.map (·.1)).Nodup → (∀ r ∈ Q, lowR R r.1 = r.2) → mergeK (kmap (fun y => .str (lowR R y)) ns) (Q.map fun r => ((Sum.inr r.1 : Key), V.str r.2)) = kmap (fun y => .str (lowR R y)) (ns ++ Q.map (·.1))
  | [], ns, _, _ => by
    show kmap (fun y => V.str (lowR R y)) ns = kmap (fun y => V.str (lowR R y)) (ns ++ [])
    rw [List.append_nil]
  | r :: Q, ns, hd, hl => by
    have hd2 : ((ns ++ [r.1]) ++ Q.map (·.1)).Nodup := by
      rw [List.append_assoc]
      exact hd
    have hn : r.1 ∉ ns := fun z => by
      have := List.nodup_append.mp hd
      exact this.2.2 r.1 z r.1 (by rw [List.map_cons]; exact List.mem_cons_self) rfl
    have ih := merge_rows (Q := Q) hd2 fun q hq => hl q (List.mem_cons_of_mem _ hq)
    have e1 : putK (kmap (fun y => V.str (lowR R y)) ns) (Sum.inr r.1) (V.str r.2) = kmap (fun y => V.str (lowR R y)) (ns ++ [r.1]) := by
      have := kmap_put (f := fun y => V.str (lowR R y)) hn
      rw [hl r List.mem_cons_self] at this
      exact this
    show mergeK (putK (kmap (fun y => V.str (lowR R y)) ns) (Sum.inr r.1) (V.str r.2)) (Q.map fun r => ((Sum.inr r.1 : Key), V.str r.2)) = _
    rw [e1, ih, List.append_assoc]
    rfl
theorem merge_all {R : List Row} (g : GoodRows R) : mergeK [] (R.map fun r => ((Sum.inr r.1 : Key), V.str r.2)) = belowK R :=
  merge_rows (R := R) (Q := R) (ns := []) (by simpa using g.nm.nd) fun r hr => low_at g.nm.nd hr
theorem rows_pairs {K : PySem.W.Frag} {H : Hp} : ∀ {AR : List (Addr × Row)}, (∀ q ∈ AR, H q.1 = some (.tup [.str q.2.1, .str q.2.2])) → Paired (fun p (kv : Key × V) => SqT K H p [kV kv.1, kv.2]) (AR.map (·.1)) ((rowsOf AR).map fun r => ((Sum.inr r.1 : Key), V.str r.2))
  | [], _ => .nil
  | q :: AR, h => .cons (.inl (.inl (h q List.mem_cons_self))) (rows_pairs fun z hz => h z (List.mem_cons_of_mem _ hz))
abbrev scLCourse_N : List Str := ["_law_rows", "_law_weir", "_law_below", "_law_found", "_law_k"]
theorem scLCourse : FnScope scLCourse_N ["_law_rows", "_law_weir"] (defScope sLCourse) := ⟨rfl, rfl, rfl, by decide +kernel, rfl, by decide +kernel, by decide +kernel⟩
def spLCourse : Sp := fun vs H Q _ => ∃ (l : Addr) (AR : List (Addr × Row)) (y : Str), vs = [.ref l, .str y] ∧ RowsAt H l AR ∧ GoodRows (rowsOf AR) ∧ y ∈ namesOf AR ∧
  ∀ (H' : Hp) (c : Addr), Same H H' → H c = none → H' c = some (.lst ((course (rowsOf AR) y).map V.str)) → Q (.ref c) H'
section
variable {P : Program} {w : World} {K : PySem.W.Frag} {mg : Str → Option Value} {base : Heap} {tS tM tL : Tok}
theorem ok_lcourse {f : Addr} {fd : FuncData} (F : FnP K "_law_course" sLCourse f fd) (B : Bl mg) : FnOk P w K mg base CX0 1 f fd ["_law_rows", "_law_weir"] spLCourse := by
  refine F.ok scLCourse (fun vs H Q E h => ?_) (fun cdv A outer s H vs Q E hr h => ?_)
  · obtain ⟨l, AR, y, rfl, _⟩ := h
    rfl
  · obtain ⟨l, AR, y, rfl, hR, hG, hy, k⟩ := h
    have hu := hu_of hr
    refine ⟨_, PSs.nox (pss_cons
      (ps_par (i := 2) (j := 3) (by rfl) scLCourse.nd rfl rfl (by decide) rfl rfl (pa_cons (pe_callTy (call_dictP rfl) (by rfl) B.dict (by decide +kernel) (pa_cons (pv 0) pa_nil)) (pa_cons (pe_lst pa_nil) pa_nil)) (by rfl))
      (pss_cons
      (ps_for PassesOwn.never rfl (pi_range1 (by rfl) B.range (pa_cons (pe_callB (lenK (K := K)) (by rfl) B.len PySem.boot_len (pa_cons (pv 0) pa_nil)) pa_nil)) (pg_name (i := 4) scLCourse.nd rfl (Or.inl rfl)) (pss_one
      (ps_if (pt_cmpR op_ne (pv 1) pe_str (nomark _)) (pss_cons
      (ps_expr (pe_bm PySem.F.plainAttrs_list PySem.F.slot_list_append PySem.F.type_list_append mt_append (pv 3) (pa_cons (pv 1) pa_nil)))
      (pss_one
      (ps_set (i := 1) scLCourse.nd rfl (Or.inl rfl) (pe_dget hu (pv 2) (pv 1) (fun _ _ => rfl))))) pss_nil)))
      (pss_one
      (ps_ret (pv 3))))), ?_⟩
    have hRm := hG.most
    have hAl : (rowsOf AR).length = AR.length := List.length_map _
    refine ⟨_, rfl, l, AR.map (·.1), (rowsOf AR).map fun r => ((Sum.inr r.1 : Key), V.str r.2), rfl, ?_, rows_pairs hR.tup, fun d nd => ?_⟩
    · rw [List.map_map]
      exact .inl (.inl hR.lst)
    rw [merge_all hG]
    refine ⟨Nat.zero_le _, fun c nc => ⟨_, _, rfl, ?_⟩⟩
    have ndc : d ≠ c := ne_of_none upd_same nc
    have nc0 : H c = none := by
      rw [upd_ne ndc.symm] at nc
      exact nc
    have s1 : Same H (upd (upd H d (.dK (belowK (rowsOf AR)))) c (.lst [])) := (same_upd nd).trans (same_upd nc)
    refine ⟨_, rfl, l, _, rfl, .inl (.inl (.inl (s1 _ _ hR.lst))), ((AR.map fun q => V.ref q.1).length : Int), rfl, by omega, by rw [List.length_map]; omega, ?_⟩
    refine for_range (n := (AR.map fun q => V.ref q.1).length) (lo := 0) (fun i σ H2 => ∃ v, σ = [some (.ref l), some (.str (itr (lowR (rowsOf AR)) i y)), some (.ref d), some (.ref c), v] ∧ Same H H2 ∧ H2 d = some (.dK (belowK (rowsOf AR))) ∧ H2 c = some (.lst ((crs (lowR (rowsOf AR)) i y).map V.str)) ∧ (crs (lowR (rowsOf AR)) i y).length ≤ i)
      ⟨none, rfl, s1, by rw [upd_ne ndc, upd_same], upd_same, Nat.le_refl _⟩ ?_ ?_
    · rintro i σ H2 hi ⟨v, rfl, s2, hd2, hc2, hl2⟩
      have hls := low_sea hG
      refine ⟨_, rfl, rfl, ?_⟩
      have hcz := crs_snoc hls i y
      rcases itr_in hG hy i with e | e
      · have ec : crs (lowR (rowsOf AR)) (i + 1) y = crs (lowR (rowsOf AR)) i y := by rw [hcz, if_pos e, List.append_nil]
        have ei : itr (lowR (rowsOf AR)) (i + 1) y = itr (lowR (rowsOf AR)) i y := by
          show lowR (rowsOf AR) (itr (lowR (rowsOf AR)) i y) = _
          rw [e, hls]
        refine ⟨_, rfl, ?_⟩
        refine iteNo (fun z => z (congrArg V.str e)) ?_
        exact ⟨_, by rw [ei]; rfl, s2, hd2, by rw [ec]; exact hc2, by rw [ec]; omega⟩
      · have en : itr (lowR (rowsOf AR)) i y ≠ "sea" := hG.nm.sea _ e
        have ec : crs (lowR (rowsOf AR)) (i + 1) y = crs (lowR (rowsOf AR)) i y ++ [itr (lowR (rowsOf AR)) i y] := by rw [hcz, if_neg en]
        refine ⟨_, rfl, ?_⟩
        refine iteYes (fun z => en (V.str.inj z)) ?_
        have hi40 : i ≤ 40 := by rw [List.length_map] at hi; omega
        have dc : d ≠ c := ne_of hd2 hc2 (fun z => by cases z)
        refine ⟨_, rfl, .inl ⟨rfl, _, .inl (.inl hc2)⟩, _, rfl, c, _, _, rfl, rfl, hc2, by rw [List.length_map]; exact small1000 (by omega), ?_⟩
        refine ⟨_, rfl, _, rfl, d, _, rfl, dget_rn (.inl ((upd_ne dc).trans hd2)) e, ?_⟩
        refine ⟨_, rfl, fun b o hb => ?_, (upd_ne dc).trans hd2, ?_, ?_⟩
        · rw [upd_ne (ne_of_none hb nc0)]
          exact s2 b o hb
        · rw [upd_same, ec, List.map_append]
          rfl
        · rw [ec, List.length_append]
          show _ + 1 ≤ i + 1
          omega
    · rintro σ H2 ⟨v, rfl, s2, hd2, hc2, hl2⟩
      have en : (AR.map fun q => V.ref q.1).length = (rowsOf AR).length := by rw [List.length_map, hAl]
      rw [en] at hc2
      exact ⟨_, rfl, k H2 c s2 nc0 hc2⟩
end
end K0
end
section
set_option Elab.async false
set_option linter.all false
set_option maxRecDepth 100000
set_option maxHeartbeats 4000000
namespace K0
open PySem PySem.Spec PyProof.Rows L2
abbrev scLRights_N : List Str := ["_law_bag_here", "_law_rows", "_law_many", "_law_found", "_law_high", "_law_is_long", "_law_weir", "_law_below", "_law_name", "_law_course_here", "_law_at"]
abbrev scLRights_S : Stmt := sLRights
theorem scLRights : FnScope scLRights_N ["_law_bag_here", "_law_rows", "_law_many"] (defScope sLRights) := ⟨rfl, rfl, rfl, by decide +kernel, rfl, by decide +kernel, by decide +kernel⟩
/-- rows of rights, of any number -/
structure RtPre (R : List Row) (B : List RRow) : Prop where
  nd : (B.map (·.1)).Nodup
  ok : ∀ r ∈ B, NameOk r.1
  inn : ∀ r ∈ B, r.2.1 ∈ nmsOf R
  last : ∀ r ∈ B, r.2.2 = "sea" ∨ r.2.2 ∈ course R r.2.1
def spLRights : Sp := fun vs H Q _ => ∃ (p l : Addr) (m : Nat) (AR : List (Addr × Row)), vs = [.ref p, .ref l, .int (m : Int)] ∧ BagAt H p ∧ l ≠ p ∧ RowsAt H l AR ∧ GoodRows (rowsOf AR) ∧ m ≤ 41 ∧
  ∀ (H' : Hp) (z : Addr) (BR : List (Addr × RRow)), Upto p H H' → BagAt H' p → H z = none → z ≠ p → BRows H' z BR → RtPre (rowsOf AR) (bOf BR) → BR.length = m → Q (.ref z) H'
theorem eqV_str (a b : Str) : eqV (.str a) (.str b) = decide (a = b) := by
  show (a == b) = _
  rw [Bool.eq_iff_iff, beq_iff_eq, decide_eq_true_eq]
theorem bOf_snoc (BR : List (Addr × RRow)) (z : Addr × RRow) : bOf (BR ++ [z]) = bOf BR ++ [z.2] := List.map_append
theorem BRows.upto {H H' : Hp} {p l : Addr} {BR : List (Addr × RRow)} (r : BRows H l BR) (B : BagAt H p) (n : l ≠ p) (u : Upto p H H') : BRows H' l BR :=
  ⟨u _ _ r.lst n, fun q hq => u _ _ (r.tup q hq) (bag_ne B (r.tup q hq))⟩
theorem split_if2 {α β : Type} {R C : α → β → Prop} {G : Prop} (use : (∀ a b, R a b → C a b) → G) (key : ∀ a b, R a b → C a b) : G := use key
section
variable {P : Program} {w : World} {K : PySem.W.Frag} {mg : Str → Option Value} {base : Heap} {tS tM tL : Tok}
theorem ok_lrights {f fN fC : Addr} {fd fdN fdC : FuncData} (F : FnP K "_law_rights" sLRights f fd) (F_law_course : FnP K "_law_course" sLCourse fC fdC) (g_law_course : mg "_law_course" = some (.ref fC)) (T : Hf K mg) : FnOk P w K mg base CX0 4 f fd ["_law_bag_here", "_law_rows", "_law_many"] spLRights := by
  have B := T.B
  obtain ⟨fT, fdT, F_law_take, g_law_take⟩ := T.take
  obtain ⟨fO, fdO, F_law_of, g_law_of⟩ := T.of
  obtain ⟨fN, fdN, F_law_names, g_law_names⟩ := T.names
  have G_law_take : FnOk P w K mg base CX0 1 fT fdT ["_law_bag_here", "_law_many"] spTake := ok_take F_law_take B
  have b_law_take : Binds K fdT ["_law_bag_here", "_law_many"] [] := F_law_take.bindsN fun _ _ _ _ _ _ us hl => match us, hl with | [_, _], _ => rfl
  have G_law_of : FnOk P w K mg base CX0 2 fO fdO ["_law_bag_here", "_law_some"] (spOf K) := ok_of F_law_of F_law_take B g_law_take
  have b_law_of : Binds K fdO ["_law_bag_here", "_law_some"] [] := F_law_of.bindsN fun _ _ _ _ _ _ us hl => match us, hl with | [_, _], _ => rfl
  have G_law_course : FnOk P w K mg base CX0 1 fC fdC ["_law_rows", "_law_weir"] spLCourse := ok_lcourse F_law_course B
  have b_law_course : Binds K fdC ["_law_rows", "_law_weir"] [] := F_law_course.bindsN fun _ _ _ _ _ _ us hl => match us, hl with | [_, _], _ => rfl
  have G_law_names : FnOk P w K mg base CX0 3 fN fdN ["_law_bag_here", "_law_many"] spNames := ok_names F_law_names F_law_take F_law_of B g_law_take g_law_of
  have b_law_names : Binds K fdN ["_law_bag_here", "_law_many"] [] := F_law_names.bindsN fun _ _ _ _ _ _ us hl => match us, hl with | [_, _], _ => rfl
  refine F.ok scLRights (fun vs H Q E h => ?_) (fun cdv A outer s H vs Q E hr h => ?_)
  · obtain ⟨p, l, m, AR, rfl, _⟩ := h
    rfl
  · obtain ⟨p, l, m, AR, rfl, hB, hlp, hR, hG, hm, k⟩ := h
    have hr_law_take : Room 1 _ := hr.mono (by decide)
    have hr_law_of : Room 2 _ := hr.mono (by decide)
    have hr_law_course : Room 1 _ := hr.mono (by decide)
    have hr_law_names : Room 3 _ := hr
    refine ⟨_, PSs.nox (pss_cons
      (ps_par3 (i := 3) (j := 4) (l := 5) (by rfl) scLRights.nd rfl rfl rfl (by decide) (by decide) (by decide) rfl rfl rfl (pa_cons (pe_lst pa_nil) (pa_cons (pe_ix (ixTK (K := K)) (pe_ix (ixLK (K := K)) (pv 1) pe_int (fun _ _ => rfl)) pe_int (fun _ _ => rfl)) (pa_cons (pe_cmpR op_eq (pe_call G_law_take hr_law_take (by rfl) g_law_take F_law_take.kp b_law_take .nil pass0 (pa_cons (pv 0) (pa_cons pe_int pa_nil))) pe_int (nomark _)) pa_nil))) (by rfl))
      (pss_cons
      (ps_for PassesOwn.never rfl (pi_list (pv 1)) (tgK (K := K) (n := 2) (by rfl) (pgs_cons (pg_name (i := 6) scLRights.nd rfl (Or.inl rfl)) (pgs_cons (pg_name (i := 7) scLRights.nd rfl (Or.inl rfl)) pgs_nil))) (pss_one
      (ps_if (pt_cmpR op_gt (pe_callB (lenK (K := K)) (by rfl) B.len PySem.boot_len (pa_cons (pe_call G_law_course hr_law_course (by rfl) g_law_course F_law_course.kp b_law_course .nil pass0 (pa_cons (pv 1) (pa_cons (pv 6) pa_nil))) pa_nil)) (pe_callB (lenK (K := K)) (by rfl) B.len PySem.boot_len (pa_cons (pe_call G_law_course hr_law_course (by rfl) g_law_course F_law_course.kp b_law_course .nil pass0 (pa_cons (pv 1) (pa_cons (pv 4) pa_nil))) pa_nil)) (nomark _)) (pss_one
      (ps_set (i := 4) scLRights.nd rfl (Or.inl rfl) (pv 6))) pss_nil)))
      (pss_cons
      (ps_for PassesOwn.never rfl (pi_list (pe_call G_law_names hr_law_names (by rfl) g_law_names F_law_names.kp b_law_names .nil pass0 (pa_cons (pv 0) (pa_cons (pv 2) pa_nil)))) (pg_name (i := 8) scLRights.nd rfl (Or.inl rfl)) (pss_cons
      (ps_set (i := 9) scLRights.nd rfl (Or.inl rfl) (pe_call G_law_course hr_law_course (by rfl) g_law_course F_law_course.kp b_law_course .nil pass0 (pa_cons (pv 1) (pa_cons (pe_ifExp (PW.pt (pw_and (pt_val (pv 5)) (pw_and1 (pt_cmpR op_gt (pe_call G_law_take hr_law_take (by rfl) g_law_take F_law_take.kp b_law_take .nil pass0 (pa_cons (pv 0) (pa_cons pe_int pa_nil))) pe_int (nomark _))))) (pv 4) (pe_ix (ixTK (K := K)) (pe_call G_law_of hr_law_of (by rfl) g_law_of F_law_of.kp b_law_of .nil pass0 (pa_cons (pv 0) (pa_cons (pv 1) pa_nil))) pe_int (fun _ _ => rfl))) pa_nil))))
      (pss_cons
      (ps_set (i := 10) scLRights.nd rfl (Or.inl rfl) (pe_call G_law_take hr_law_take (by rfl) g_law_take F_law_take.kp b_law_take .nil pass0 (pa_cons (pv 0) (pa_cons (pe_ifExp (pt_val (pv 5)) (pe_op op_add (pe_op op_mul pe_int (pe_callB (lenK (K := K)) (by rfl) B.len PySem.boot_len (pa_cons (pv 9) pa_nil))) pe_int) (pe_op op_add (pe_callB (lenK (K := K)) (by rfl) B.len PySem.boot_len (pa_cons (pv 9) pa_nil)) pe_int)) pa_nil))))
      (pss_one
      (ps_expr (pe_bm PySem.F.plainAttrs_list PySem.F.slot_list_append PySem.F.type_list_append mt_append (pv 3) (pa_cons (pe_tup (pa_cons (pv 8) (pa_cons (pe_ix (ixLK (K := K)) (pv 9) pe_int (fun _ _ => rfl)) (pa_cons (pe_ifExp (pt_cmpR op_lt (pv 10) (pe_callB (lenK (K := K)) (by rfl) B.len PySem.boot_len (pa_cons (pv 9) pa_nil)) (nomark _)) (pe_ix (ixLK (K := K)) (pv 9) (pv 10) (fun _ _ => rfl)) pe_str) pa_nil)))) pa_nil)))))))
      (pss_one
      (ps_ret (pv 3)))))), ?_⟩
    have hAl : (rowsOf AR).length = AR.length := List.length_map _
    have hRm := hG.most
    have hR1 := hG.one
    have hnl : (namesOf AR).length = AR.length := nmlen AR
    refine ⟨by show 0 ≤ sizeLine; decide, fun F0 hF => ?_⟩
    obtain ⟨b0, hb0, hv0⟩ := id hB
    have pF : p ≠ F0 := ne_of_none hb0 hF
    have s1 : Same H (upd H F0 (.lst [])) := same_upd hF
    have hF1 : (upd H F0 (.lst [])) F0 = some (.lst []) := upd_same
    generalize upd H F0 (.lst []) = H1 at s1 hF1
    have hBa : BagAt H1 p := ⟨b0, s1 _ _ hb0, hv0⟩
    have hR1' : RowsAt H1 l AR := hR.same s1
    have h0A : 0 < AR.length := by omega
    have mem0 : ∀ {j : Nat} (hj : j < AR.length), AR[j].2.1 ∈ namesOf AR := fun hj => List.mem_map.mpr ⟨_, List.mem_map.mpr ⟨_, List.getElem_mem hj, rfl⟩, rfl⟩
    refine ⟨_, rfl, l, _, _, .ref AR[0].1, rfl, rfl, .inl (.inl hR1'.lst), atI_nat (j := 0) (by rw [List.getElem?_map, List.getElem?_eq_getElem h0A]; rfl), AR[0].1, _, _, .str AR[0].2.1, rfl, rfl, .inl (.inl (hR1'.tup _ (List.getElem_mem h0A))), atI_nat (j := 0) rfl, _, rfl, p, 2, rfl, hBa, by decide, by decide, fun r0 x0 hr00 hr01 hx0 => ?_⟩
    refine ⟨rfl, _, _, _, rfl, ?_⟩
    generalize decide (V.int r0 = V.int 0) = bb
    have u2 : Upto p H (upd H1 p (.lst x0)) := (Upto.of s1).trans Upto.at_
    have B2 : BagAt (upd H1 p (.lst x0)) p := ⟨x0, upd_same, hx0⟩
    have hF2 : (upd H1 p (.lst x0)) F0 = some (.lst []) := by rw [upd_ne pF.symm]; exact hF1
    generalize upd H1 p (.lst x0) = H2 at u2 B2 hF2
    have hR2 : RowsAt H2 l AR := hR.upto hB hlp u2
    refine ⟨_, rfl, l, rfl, ⟨_, .inl (.inl hR2.lst)⟩, ?_⟩
    refine for_list (K := K) (a := l) (xs := AR.map fun q => V.ref q.1) (fun i σ H3 => ∃ (hh : Str) (v6 v7 : Option V), σ = [some (.ref p), some (.ref l), some (.int (m : Int)), some (.ref F0), some (.str hh), some (.bl bb), v6, v7, none, none, none] ∧ hh ∈ namesOf AR ∧ Same H2 H3)
      ⟨_, _, _, rfl, mem0 h0A, .refl _⟩ (fun i σ H3 hi h => by
        obtain ⟨_, _, _, _, _, h⟩ := h
        exact .inl (.inl (h _ _ hR2.lst))) ?_ ?_
    · rintro i x σ H3 hx ⟨hh, v6, v7, rfl, hhm, s3⟩
      have hi : i < AR.length := by
        have := (List.getElem?_eq_some_iff.mp hx).1
        rw [List.length_map] at this
        exact this
      have ex := row_at hx hi
      subst ex
      have hR3 := hR2.same s3
      refine ⟨AR[i].1, _, rfl, .inl (.inl (hR3.tup _ (List.getElem_mem hi))), rfl, _, _, rfl, _, _, rfl, rfl, ?_⟩
      refine ⟨_, rfl, _, rfl, l, AR, AR[i].2.1, rfl, hR3, hG, mem0 hi, fun H5 c s5 hc0 hc => ?_⟩
      refine ⟨c, _, rfl, .inl (.inl (.inl hc)), _, rfl, _, rfl, l, AR, hh, rfl, hR3.same s5, hG, hhm, fun H6 c2 s6 hc20 hc2 => ?_⟩
      refine ⟨c2, _, rfl, .inl (.inl (.inl hc2)), _, _, rfl, rfl, _, rfl, ?_⟩
      refine ite2 (fun _ => ?_) (fun _ => ?_)
      · exact ⟨_, rfl, _, _, _, rfl, mem0 hi, s3.trans (s5.trans s6)⟩
      · exact ⟨_, _, _, rfl, hhm, s3.trans (s5.trans s6)⟩
    rintro σ H4 ⟨hh, w6, w7, rfl, hhm, s4⟩
    have u4 : Upto p H H4 := u2.trans (.of s4)
    have B4 : BagAt H4 p := by
      obtain ⟨b, hb, hv⟩ := B2
      exact ⟨b, s4 _ _ hb, hv⟩
    have hF4 := s4 _ _ hF2
    have hR4 := hR2.same s4
    refine ⟨_, rfl, _, rfl, p, m, rfl, B4, by omega, fun H5 Z ns u5 B5 hZ1 zp hZ hlen hok => ?_⟩
    have zF : Z ≠ F0 := fun e => by
      rw [e, hF4] at hZ1
      cases hZ1
    refine ⟨Z, rfl, ⟨_, .inl (.inl hZ)⟩, ?_⟩
    refine for_list (K := K) (a := Z) (xs := ns.map V.str) (fun i σ H3 => ∃ v4 v5 v6 BR, σ = [some (.ref p), some (.ref l), some (.int (m : Int)), some (.ref F0), some (.str hh), some (.bl bb), w6, w7, v4, v5, v6] ∧ Upto p H H3 ∧ BagAt H3 p ∧ H3 Z = some (.lst (ns.map V.str)) ∧ BRows H3 F0 BR ∧ rnm (bOf BR) = ns.take i ∧
        (∀ r ∈ bOf BR, r.2.1 ∈ namesOf AR) ∧ ∀ r ∈ bOf BR, r.2.2 = "sea" ∨ r.2.2 ∈ course (rowsOf AR) r.2.1)
      ⟨none, none, none, [], rfl, u4.trans u5, B5, hZ, ⟨u5 _ _ hF4 pF.symm, fun q hq => by cases hq⟩, by rw [List.take_zero]; rfl, (fun r hr => by cases hr), fun r hr => by cases hr⟩ (fun i σ H3 hi h => by
        obtain ⟨_, _, _, _, _, _, _, h, _⟩ := h
        exact .inl (.inl h)) ?_ ?_
    · rintro i x σ H3 hx ⟨v4, v5, v6, BR, rfl, u3, B3, hZ3, hb3, hn3, hi3, hl3⟩
      rw [List.getElem?_map] at hx
      obtain ⟨n, hn, rfl⟩ := Option.map_eq_some_iff.mp hx
      have hR3 : RowsAt H3 l AR := hR.upto hB hlp u3
      refine ⟨_, rfl, ?_⟩
      refine split_if2 (α := Str) (β := Hp) (R := fun g H9 => g ∈ namesOf AR ∧ Upto p H3 H9 ∧ BagAt H9 p) (C := ?C) ?use ?key
      case use =>
        intro key
        refine ⟨_, rfl, bb, rfl, ?_⟩
        refine ite2 (fun _ => ?_) (fun _ => ?_)
        · refine ⟨_, rfl, p, 4, rfl, B3, by decide, by decide, fun r xs0 hr0 hr1 hx0 => ⟨_, _, rfl, rfl, _, rfl, ?_⟩⟩
          have uy : Upto p H3 (upd H3 p (.lst xs0)) := Upto.at_
          have By : BagAt (upd H3 p (.lst xs0)) p := ⟨xs0, upd_same, hx0⟩
          generalize upd H3 p (.lst xs0) = H9 at uy By
          refine ite2 (fun _ => ?_) (fun _ => ?_)
          · obtain ⟨g2, eg⟩ : ∃ g2, g2 = hh := ⟨_, rfl⟩
            refine ⟨.str g2, by rw [eg]; rfl, ?_⟩
            exact key g2 H9 ⟨by rw [eg]; exact hhm, uy, By⟩
          · skip
            have hR9 : RowsAt H9 l AR := hR3.upto B3 hlp uy
            refine ⟨_, rfl, _, rfl, p, l, _, rfl, By, hlp, .inl (.inl hR9.lst), by rw [List.length_map]; omega, by rw [List.length_map]; omega, fun j v xs hv hx4 => ?_⟩
            have hj : j < AR.length := by
              have := (List.getElem?_eq_some_iff.mp hv).1
              rw [List.length_map] at this
              exact this
            have ev := row_at hv hj
            subst ev
            have hR4 : RowsAt (upd H9 p (.lst xs)) l AR := hR9.upto By hlp Upto.at_
            have htup := hR4.tup _ (List.getElem_mem hj)
            have ux : Upto p H3 (upd H9 p (.lst xs)) := uy.trans Upto.at_
            have Bx : BagAt (upd H9 p (.lst xs)) p := ⟨xs, upd_same, hx4⟩
            obtain ⟨g2, eg⟩ : ∃ g2, g2 = AR[j].2.1 := ⟨_, rfl⟩
            have hgm2 : g2 ∈ namesOf AR := by rw [eg]; exact mem0 hj
            refine ⟨AR[j].1, _, _, .str g2, rfl, rfl, .inl (.inl htup), by rw [eg]; exact atI_nat (j := 0) rfl, ?_⟩
            clear htup hR4
            generalize upd H9 p (.lst xs) = H10 at ux Bx
            exact key g2 H10 ⟨hgm2, ux, Bx⟩
        · skip
          have hR9 : RowsAt H3 l AR := hR3.upto B3 hlp Upto.refl
          refine ⟨_, rfl, _, rfl, p, l, _, rfl, B3, hlp, .inl (.inl hR9.lst), by rw [List.length_map]; omega, by rw [List.length_map]; omega, fun j v xs hv hx4 => ?_⟩
          have hj : j < AR.length := by
            have := (List.getElem?_eq_some_iff.mp hv).1
            rw [List.length_map] at this
            exact this
          have ev := row_at hv hj
          subst ev
          have hR4 : RowsAt (upd H3 p (.lst xs)) l AR := hR9.upto B3 hlp Upto.at_
          have htup := hR4.tup _ (List.getElem_mem hj)
          have ux : Upto p H3 (upd H3 p (.lst xs)) := Upto.refl.trans Upto.at_
          have Bx : BagAt (upd H3 p (.lst xs)) p := ⟨xs, upd_same, hx4⟩
          obtain ⟨g2, eg⟩ : ∃ g2, g2 = AR[j].2.1 := ⟨_, rfl⟩
          have hgm2 : g2 ∈ namesOf AR := by rw [eg]; exact mem0 hj
          refine ⟨AR[j].1, _, _, .str g2, rfl, rfl, .inl (.inl htup), by rw [eg]; exact atI_nat (j := 0) rfl, ?_⟩
          clear htup hR4
          generalize upd H3 p (.lst xs) = H10 at ux Bx
          exact key g2 H10 ⟨hgm2, ux, Bx⟩
      case key =>
        rintro g H4 ⟨hgm, u34, B4⟩
        have u4 : Upto p H H4 := u3.trans u34
        have hR4 : RowsAt H4 l AR := hR.upto hB hlp u4
        have hZ4 := u34 _ _ hZ3 zp
        have hb4 : BRows H4 F0 BR := hb3.upto B3 pF.symm u34
        refine ⟨l, AR, g, rfl, hR4, hG, hgm, fun H5 c s5 hc0 hc => ?_⟩
        have B5 : BagAt H5 p := by
          obtain ⟨b4, hb, hv⟩ := B4
          exact ⟨b4, s5 _ _ hb, hv⟩
        have u5 : Upto p H H5 := u4.trans (Upto.of s5)
        have hZ5 := s5 _ _ hZ4
        have hb5 := hb4.same s5
        have cp : c ≠ p := by
          obtain ⟨b4, hb, hv⟩ := B4
          exact (ne_of_none hb hc0).symm
        obtain ⟨mc, hcs⟩ := course_is hG hgm
        have hcl := hcs.len
        have hc1 := hcs.one
        have hc2 := hcs.most
        -- at
        refine ⟨_, rfl, ?_⟩
        refine split_if' (α := Int) (R := fun z => 0 < z ∧ z ≤ 90) (C := ?C2) ?use2 ?key2
        case use2 =>
          intro key
          refine ⟨_, rfl, bb, rfl, ?_⟩
          refine ite2 (fun _ => ?_) (fun _ => ?_)
          · refine ⟨_, rfl, c, _, rfl, .inl (.inl (.inl hc)), _, _, rfl, rfl, .inl ⟨by decide, by decide⟩, _, _, rfl, rfl, ?_⟩
            dsimp only
            generalize hz : (2 * (((course (rowsOf AR) g).map V.str).length : Int) + 2) = z
            exact key z ⟨by omega, by rw [List.length_map, hcl] at hz; omega⟩
          · refine ⟨_, rfl, c, _, rfl, .inl (.inl (.inl hc)), _, _, rfl, rfl, ?_⟩
            dsimp only
            generalize hz : ((((course (rowsOf AR) g).map V.str).length : Int) + 2) = z
            exact key z ⟨by omega, by rw [List.length_map, hcl] at hz; omega⟩
        case key2 =>
          rintro z ⟨hz0, hz90⟩
          refine ⟨p, z, rfl, B5, hz0, by omega, fun r xs6 hr0 hr1 hx6 => ?_⟩
          obtain ⟨rn, rfl⟩ : ∃ rn : Nat, r = (rn : Int) := ⟨r.toNat, by omega⟩
          have u6 : Upto p H (upd H5 p (.lst xs6)) := u5.trans Upto.at_
          have B6 : BagAt (upd H5 p (.lst xs6)) p := ⟨xs6, upd_same, hx6⟩
          have hZ6 : (upd H5 p (.lst xs6)) Z = some (.lst (ns.map V.str)) := by rw [upd_ne zp]; exact hZ5
          have hb6 : BRows (upd H5 p (.lst xs6)) F0 BR := hb5.upto B5 pF.symm Upto.at_
          have hc6 : (upd H5 p (.lst xs6)) c = some (.lst ((course (rowsOf AR) g).map V.str)) := by rw [upd_ne cp]; exact hc
          show tDrop _ _ _ (upd H5 p (.lst xs6))
          generalize upd H5 p (.lst xs6) = H6 at u6 B6 hZ6 hb6 hc6
          have hBl : BR.length = i := by
            have h1 := congrArg List.length hn3
            rw [List.length_map, List.length_map, List.length_take] at h1
            have := (List.getElem?_eq_some_iff.mp hn).1
            omega
          have hnl2 := (List.getElem?_eq_some_iff.mp hn).1
          have h0 : (course (rowsOf AR) g)[0]? = some g := by
            rw [hcs.eq, List.getElem?_map, List.getElem?_range (by omega)]
            rfl
          have fin : ∀ y : Str, (y = "sea" ∨ y ∈ course (rowsOf AR) g) → ∀ t, H6 t = none → (upd H6 t (.tup [.str n, .str g, .str y])) F0 = some (.lst (BR.map fun q => V.ref q.1)) ∧ (BR.map fun q => V.ref q.1).length < sizeLine ∧ ∃ v4 v5 v6 BR', [some (V.ref p), some (.ref l), some (.int (m : Int)), some (.ref F0), some (.str hh), some (.bl bb), w6, w7, some (.str n), some (.ref c), some (.int (rn : Int))] = [some (V.ref p), some (.ref l), some (.int (m : Int)), some (.ref F0), some (.str hh), some (.bl bb), w6, w7, v4, v5, v6] ∧
              Upto p H (upd (upd H6 t (.tup [.str n, .str g, .str y])) F0 (.lst ((BR.map fun q => V.ref q.1) ++ [.ref t]))) ∧ BagAt (upd (upd H6 t (.tup [.str n, .str g, .str y])) F0 (.lst ((BR.map fun q => V.ref q.1) ++ [.ref t]))) p ∧ (upd (upd H6 t (.tup [.str n, .str g, .str y])) F0 (.lst ((BR.map fun q => V.ref q.1) ++ [.ref t]))) Z = some (.lst (ns.map V.str)) ∧
              BRows (upd (upd H6 t (.tup [.str n, .str g, .str y])) F0 (.lst ((BR.map fun q => V.ref q.1) ++ [.ref t]))) F0 BR' ∧ rnm (bOf BR') = ns.take (i + 1) ∧ (∀ r ∈ bOf BR', r.2.1 ∈ namesOf AR) ∧ ∀ r ∈ bOf BR', r.2.2 = "sea" ∨ r.2.2 ∈ course (rowsOf AR) r.2.1 := fun y hy t nt => by
            have tF : F0 ≠ t := ne_of_none hb6.lst nt
            obtain ⟨b6, hb6', hv6⟩ := B6
            have tp : p ≠ t := ne_of_none hb6' nt
            have tZ : Z ≠ t := ne_of_none hZ6 nt
            refine ⟨by rw [upd_ne tF]; exact hb6.lst, by rw [List.length_map]; exact small1000 (by omega), _, _, _, BR ++ [(t, (n, g, y))], rfl, fun b o hb hne => ?_, ⟨b6, by rw [upd_ne pF, upd_ne tp]; exact hb6', hv6⟩, by rw [upd_ne zF, upd_ne tZ]; exact hZ6, ⟨by rw [upd_same, List.map_append]; rfl, fun q hq => ?_⟩, ?_, fun r hr => ?_, fun r hr => ?_⟩
            · rw [upd_ne (ne_of_none hb hF), upd_ne (ne_of_none (u6 _ _ hb hne) nt)]
              exact u6 _ _ hb hne
            · rcases List.mem_append.mp hq with e | e
              · have h4 := hb6.tup q e
                rw [upd_ne (ne_of h4 hb6.lst (fun z => by cases z)), upd_ne (ne_of_none h4 nt)]
                exact h4
              · rw [List.mem_singleton.mp e, upd_ne tF.symm, upd_same]
            · rw [bOf_snoc]
              show (bOf BR ++ [(n, g, y)]).map (·.1) = _
              rw [List.map_append]
              show rnm (bOf BR) ++ [n] = _
              rw [hn3, List.take_add_one, hn]
              rfl
            · rw [bOf_snoc] at hr
              rcases List.mem_append.mp hr with e | e
              · exact hi3 r e
              · rw [List.mem_singleton.mp e]
                exact hgm
            · rw [bOf_snoc] at hr
              rcases List.mem_append.mp hr with e | e
              · exact hl3 r e
              · rw [List.mem_singleton.mp e]
                exact hy
          refine ⟨_, rfl, .inl ⟨rfl, _, .inl (.inl hb6.lst)⟩, _, rfl, _, rfl, c, _, _, .str g, rfl, rfl, .inl (.inl hc6), at_of (j := 0) (by decide) (by rw [List.getElem?_map, h0]; rfl), ?_⟩
          refine ⟨_, rfl, _, rfl, c, _, rfl, .inl (.inl (.inl hc6)), _, _, rfl, rfl, _, rfl, ?_⟩
          refine ite2 (fun hcc => ?_) (fun hcc => ?_)
          · have hrl : rn < (course (rowsOf AR) g).length := by
              have := of_decide_eq_true hcc
              rw [List.length_map] at this
              omega
            refine ⟨_, rfl, _, rfl, c, _, _, .str (course (rowsOf AR) g)[rn], rfl, rfl, .inl (.inl hc6), at_of (j := rn) (by omega) (by rw [List.getElem?_map, List.getElem?_eq_getElem hrl]; rfl), by show 3 ≤ sizeLine; decide, fun t nt => ?_⟩
            obtain ⟨f1, f2, f3⟩ := fin _ (.inr (List.getElem_mem hrl)) t nt
            exact ⟨F0, _, _, rfl, rfl, f1, f2, f3⟩
          · refine ⟨by show 3 ≤ sizeLine; decide, fun t nt => ?_⟩
            obtain ⟨f1, f2, f3⟩ := fin "sea" (.inl rfl) t nt
            exact ⟨F0, _, _, rfl, rfl, f1, f2, f3⟩
    · rintro σ H3 ⟨v4, v5, v6, BR, rfl, u3, B3, hZ3, hb3, hn3, hi3, hl3⟩
      rw [List.length_map, List.take_length] at hn3
      have hBl : BR.length = m := by
        have h1 := congrArg List.length hn3
        rw [List.length_map, List.length_map] at h1
        omega
      exact ⟨_, rfl, k H3 F0 BR u3 B3 hF pF.symm hb3 ⟨by show (rnm (bOf BR)).Nodup; rw [hn3]; exact hok.nd, fun r hr => hok.ok _ (by rw [← hn3]; exact List.mem_map.mpr ⟨r, hr, rfl⟩), hi3, hl3⟩ hBl⟩
end
end K0
end
section
set_option Elab.async false
set_option linter.all false
set_option maxRecDepth 100000
set_option maxHeartbeats 1000000
namespace K0
open PySem PySem.Spec PyProof.Rows L2 TL
/-! ### numerals -/
def Dig (l : List Nat) : Prop := ∀ c ∈ l, 48 ≤ c ∧ c ≤ 57
def digV (l : List Nat) : Nat := l.foldl (fun acc c => acc * 10 + (c - 48)) 0
/-- "0", or 1 to 31 digits without a leading zero -/
def numB (l : List Nat) : Bool := (decide (1 ≤ l.length) && decide (l.length ≤ 31)) && (l.all (fun c => decide (48 ≤ c) && decide (c ≤ 57)) && (decide (l = [48]) || decide (l.headD 0 ≠ 48)))
def mostC : Nat := 1000000000000000000000000000000
def numOk (l : List Nat) : Bool := numB l && decide (digV l ≤ mostC)
/-- the signs of a number -/
def dg (n : Nat) : List Nat := (Nat.toDigits 10 n).map Char.toNat
theorem tl_num (n : Nat) : tl (Str.ofString (toString ((n : Nat) : Int))) = dg n := PySem.W.KIN.signs_num n
theorem dg_low {n : Nat} (h : n < 10) : dg n = [48 + n] := by
  unfold dg
  rw [Nat.toDigits_of_lt_base h]
  show [(Nat.digitChar n).toNat] = _
  have key : ∀ d : Fin 10, (Nat.digitChar d.val).toNat = 48 + d.val := by decide
  rw [key ⟨n, h⟩]
theorem dg_rec {n : Nat} (h : 10 ≤ n) : dg n = dg (n / 10) ++ [48 + n % 10] := by
  have hm : n % 10 < 10 := Nat.mod_lt n (by decide)
  have t : Nat.toDigits 10 (n / 10) ++ Nat.toDigits 10 (n % 10) = Nat.toDigits 10 (10 * (n / 10) + n % 10) := Nat.toDigits_append_toDigits (by decide) (by omega) hm
  rw [Nat.div_add_mod] at t
  have e := dg_low hm
  unfold dg at *
  rw [← t, List.map_append, e]
theorem dg_dig : ∀ n : Nat, Dig (dg n) := fun n => by
  induction n using Nat.strongRecOn with
  | _ n ih =>
    by_cases h : n < 10
    · rw [dg_low h]
      intro c hc
      rw [List.mem_singleton.mp hc]
      omega
    · rw [dg_rec (by omega)]
      intro c hc
      rcases List.mem_append.mp hc with hc | hc
      · exact ih (n / 10) (by omega) c hc
      · rw [List.mem_singleton.mp hc]
        have := Nat.mod_lt n (show 10 > 0 by decide)
        omega
theorem dg_ne (n : Nat) : dg n ≠ [] := by
  by_cases h : n < 10
  · rw [dg_low h]; simp
  · rw [dg_rec (by omega)]; simp
theorem dg_head {n : Nat} (h : 1 ≤ n) : (dg n).headD 0 ≠ 48 := by
  induction n using Nat.strongRecOn with
  | _ n ih =>
    by_cases h2 : n < 10
    · rw [dg_low h2]
      show 48 + n ≠ 48
      omega
    · rw [dg_rec (by omega)]
      have hi := ih (n / 10) (by omega) (by omega)
      have hn := dg_ne (n / 10)
      cases e : dg (n / 10) with
      | nil => exact absurd e hn
      | cons a r =>
        rw [e] at hi
        exact hi
theorem digV_snoc (l : List Nat) (c : Nat) : digV (l ++ [c]) = digV l * 10 + (c - 48) := by
  unfold digV
  rw [List.foldl_append]
  rfl
theorem dg_val (n : Nat) : digV (dg n) = n := by
  induction n using Nat.strongRecOn with
  | _ n ih =>
    by_cases h : n < 10
    · rw [dg_low h]
      show 0 * 10 + (48 + n - 48) = n
      omega
    · rw [dg_rec (by omega), digV_snoc, ih (n / 10) (by omega)]
      omega
theorem dg_len : ∀ (k n : Nat), n < 10 ^ (k + 1) → (dg n).length ≤ k + 1
  | 0, n, h => by rw [dg_low (by simpa using h)]; simp
  | k + 1, n, h => by
    by_cases h2 : n < 10
    · rw [dg_low h2]; simp
    · rw [dg_rec (by omega), List.length_append, List.length_singleton]
      have := dg_len k (n / 10) (by rw [Nat.pow_succ] at h; omega)
      omega
theorem dg_inj {m n : Nat} (h : dg m = dg n) : m = n := by rw [← dg_val m, ← dg_val n, h]
theorem dg31 {n : Nat} (h : n ≤ mostC) : (dg n).length ≤ 31 := dg_len 30 n (by unfold mostC at h; omega)
theorem dg_pos (n : Nat) : 1 ≤ (dg n).length := List.length_pos_iff.mpr (dg_ne n)
theorem dg_ok {n : Nat} (h : n ≤ mostC) : numOk (dg n) = true := by
  unfold numOk numB
  rw [dg_val, decide_eq_true h, decide_eq_true (dg_pos n), decide_eq_true (dg31 h)]
  have a : (dg n).all (fun c => decide (48 ≤ c) && decide (c ≤ 57)) = true := List.all_eq_true.mpr fun c hc => by
    obtain ⟨h1, h2⟩ := dg_dig n c hc
    rw [decide_eq_true h1, decide_eq_true h2]
    rfl
  rw [a]
  by_cases h0 : n = 0
  · subst h0
    rw [dg_low (by decide)]
    rfl
  · rw [decide_eq_true (dg_head (by omega)), Bool.or_true]
    rfl
/-- a word whose signs are not all digits -/
theorem bad_sign {l : List Nat} {c : Nat} (hc : c ∈ l) (h : ¬ (48 ≤ c ∧ c ≤ 57)) : numOk l = false := by
  have a : l.all (fun c => decide (48 ≤ c) && decide (c ≤ 57)) = false := by
    rw [Bool.eq_false_iff]
    intro e
    have := List.all_eq_true.mp e c hc
    simp only [Bool.and_eq_true, decide_eq_true_eq] at this
    exact h this
  unfold numOk numB
  rw [a]
  simp
theorem bad_len {l : List Nat} (h : l.length = 0 ∨ 31 < l.length) : numOk l = false := by
  unfold numOk numB
  rcases h with h | h
  · rw [decide_eq_false (show ¬ 1 ≤ l.length by omega)]
    simp
  · rw [decide_eq_false (show ¬ l.length ≤ 31 by omega)]
    simp
theorem bad_zero {l : List Nat} (h : l ≠ []) : numOk (48 :: l) = false := by
  unfold numOk numB
  rw [decide_eq_false (show ¬ 48 :: l = [48] by simpa using h)]
  simp
theorem bad_val {l : List Nat} (h : mostC < digV l) : numOk l = false := by
  unfold numOk
  rw [decide_eq_false (by omega), Bool.and_false]
theorem num_reads2 {x : Str} (h : numB (tl x) = true) : PySem.intText? x = some ((digV (tl x) : Nat) : Int) := by
  unfold numB at h
  rw [Bool.and_eq_true, Bool.and_eq_true, Bool.and_eq_true, decide_eq_true_eq, decide_eq_true_eq] at h
  obtain ⟨⟨h1, h2⟩, h3, _⟩ := h
  refine PySem.intText_digits (fun c hc => ?_) (List.length_pos_iff.mp h1) (by rw [len_tl]; omega)
  have := List.all_eq_true.mp h3 c hc
  simpa only [Bool.and_eq_true, decide_eq_true_eq] using this
end K0
end
section
set_option Elab.async false
set_option linter.all false
set_option maxRecDepth 100000
set_option maxHeartbeats 4000000
namespace K0
open PySem PySem.Spec PyProof.Rows L2
/-! ### cubes, amounts, sizes -/
theorem scLCubes : FnScope ["_law_bag_here", "_law_kind"] ["_law_bag_here"] (defScope sLCubes) := ⟨rfl, rfl, rfl, by decide +kernel, rfl, by decide +kernel, by decide +kernel⟩
theorem scLSize : FnScope ["_law_bag_here", "_law_most"] ["_law_bag_here", "_law_most"] (defScope sLSize) := ⟨rfl, rfl, rfl, by decide +kernel, rfl, by decide +kernel, by decide +kernel⟩
def spLCubes : Sp := fun vs H Q _ => ∃ (p : Addr), vs = [.ref p] ∧ BagAt H p ∧ ∀ (r : Nat) (H' : Hp), r ≤ mostC → Upto p H H' → BagAt H' p → Q (.int (r : Int)) H'
def spLSize : Sp := fun vs H Q _ => ∃ (p : Addr) (m : Nat), vs = [.ref p, .int (m : Int)] ∧ BagAt H p ∧ 5 ≤ m ∧ m ≤ 100 ∧ ∀ (r : Nat) (H' : Hp), r ≤ m → Upto p H H' → BagAt H' p → Q (.int (r : Int)) H'
section
variable {P : Program} {w : World} {K : PySem.W.Frag} {mg : Str → Option Value} {base : Heap} {tS tM tL : Tok}
theorem ok_lcubes {f fT : Addr} {fd fdT : FuncData} (F : FnP K "_law_cubes" sLCubes f fd) (F_law_take : FnP K "_law_take" sTake fT fdT) (g_law_take : mg "_law_take" = some (.ref fT)) (B : Bl mg) : FnOk P w K mg base CX0 2 f fd ["_law_bag_here"] spLCubes := by
  have G_law_take : FnOk P w K mg base CX0 1 fT fdT ["_law_bag_here", "_law_many"] spTake := ok_take F_law_take B
  have b_law_take : Binds K fdT ["_law_bag_here", "_law_many"] [] := F_law_take.bindsN fun _ _ _ _ _ _ us hl => match us, hl with | [_, _], _ => rfl
  refine F.ok scLCubes (fun vs H Q E h => ?_) (fun cdv A outer s H vs Q E hr h => ?_)
  · obtain ⟨p, rfl, _⟩ := h
    rfl
  · obtain ⟨p, rfl, hB, kk⟩ := h
    have hr_law_take : Room 1 _ := hr
    refine ⟨_, PSs.nox (pss_cons
      (ps_set (i := 1) scLCubes.nd rfl (Or.inl rfl) (pe_call G_law_take hr_law_take (by rfl) g_law_take F_law_take.kp b_law_take .nil pass0 (pa_cons (pv 0) (pa_cons pe_int pa_nil))))
      (pss_cons
      (ps_if (pt_cmpR op_eq (pv 1) pe_int (nomark _)) (pss_one
      (ps_ret (pe_call G_law_take hr_law_take (by rfl) g_law_take F_law_take.kp b_law_take .nil pass0 (pa_cons (pv 0) (pa_cons (pe_op op_add (pe_op op_pow pe_int pe_int) pe_int) pa_nil))))) pss_nil)
      (pss_one
      (ps_ret (pe_ifExp (pt_cmpR op_lt (pv 1) pe_int (nomark _)) (pe_call G_law_take hr_law_take (by rfl) g_law_take F_law_take.kp b_law_take .nil pass0 (pa_cons (pv 0) (pa_cons pe_int pa_nil))) pe_int))))), ?_⟩
    refine ⟨_, rfl, p, 8, rfl, hB, by decide, by decide, fun r xs hr0 hr1 hx => ?_⟩
    have B1 : BagAt (upd H p (.lst xs)) p := ⟨xs, upd_same, hx⟩
    have u1 : Upto p H (upd H p (.lst xs)) := Upto.at_
    show tSeq _ _ _ _ (upd H p (.lst xs))
    generalize upd H p (.lst xs) = H1 at B1 u1
    refine ⟨_, rfl, rfl, _, rfl, ?_⟩
    refine ite2 (fun _ => ?_) (fun _ => ?_)
    · refine ⟨_, rfl, 10, 30, rfl, rfl, ⟨by decide, by decide, by decide⟩, _, _, rfl, rfl, p, _, rfl, B1, by decide, by decide, fun r2 xs2 hr20 hr21 hx2 => ?_⟩
      have e30 : ((10 : Int) ^ (30 : Int).toNat + 1) = 1000000000000000000000000000001 := by decide +kernel
      have hr21 : r2 < 1000000000000000000000000000001 := by rw [← e30]; exact hr21
      obtain ⟨rn, rfl⟩ : ∃ rn : Nat, r2 = (rn : Int) := ⟨r2.toNat, by omega⟩
      exact kk rn _ (by unfold mostC; omega) (u1.trans Upto.at_) ⟨xs2, upd_same, hx2⟩
    · refine ⟨_, rfl, _, _, rfl, rfl, _, rfl, ?_⟩
      refine ite2 (fun _ => ?_) (fun _ => ?_)
      · refine ⟨_, rfl, p, 4, rfl, B1, by omega, by omega, fun r2 xs2 hr20 hr21 hx2 => ?_⟩
        obtain ⟨rn, rfl⟩ : ∃ rn : Nat, r2 = (rn : Int) := ⟨r2.toNat, by omega⟩
        exact kk rn _ (by unfold mostC; omega) (u1.trans Upto.at_) ⟨xs2, upd_same, hx2⟩
      · exact kk 1 _ (by decide) u1 B1
theorem ok_lsize {f fT : Addr} {fd fdT : FuncData} (F : FnP K "_law_size" sLSize f fd) (F_law_take : FnP K "_law_take" sTake fT fdT) (g_law_take : mg "_law_take" = some (.ref fT)) (B : Bl mg) : FnOk P w K mg base CX0 2 f fd ["_law_bag_here", "_law_most"] spLSize := by
  have G_law_take : FnOk P w K mg base CX0 1 fT fdT ["_law_bag_here", "_law_many"] spTake := ok_take F_law_take B
  have b_law_take : Binds K fdT ["_law_bag_here", "_law_many"] [] := F_law_take.bindsN fun _ _ _ _ _ _ us hl => match us, hl with | [_, _], _ => rfl
  refine F.ok scLSize (fun vs H Q E h => ?_) (fun cdv A outer s H vs Q E hr h => ?_)
  · obtain ⟨p, m, rfl, _⟩ := h
    rfl
  · obtain ⟨p, m, rfl, hB, hm5, hm, kk⟩ := h
    have hr_law_take : Room 1 _ := hr
    refine ⟨_, PSs.nox (pss_cons
      (ps_if (pt_cmpR op_eq (pe_call G_law_take hr_law_take (by rfl) g_law_take F_law_take.kp b_law_take .nil pass0 (pa_cons (pv 0) (pa_cons pe_int pa_nil))) pe_int (nomark _)) (pss_one
      (ps_ret (pe_call G_law_take hr_law_take (by rfl) g_law_take F_law_take.kp b_law_take .nil pass0 (pa_cons (pv 0) (pa_cons (pe_op op_add (pv 1) pe_int) pa_nil))))) pss_nil)
      (pss_one
      (ps_ret (pe_call G_law_take hr_law_take (by rfl) g_law_take F_law_take.kp b_law_take .nil pass0 (pa_cons (pv 0) (pa_cons pe_int pa_nil)))))), ?_⟩
    refine ⟨_, rfl, p, 8, rfl, hB, by decide, by decide, fun r xs hr0 hr1 hx => ?_⟩
    have B1 : BagAt (upd H p (.lst xs)) p := ⟨xs, upd_same, hx⟩
    have u1 : Upto p H (upd H p (.lst xs)) := Upto.at_
    generalize upd H p (.lst xs) = H1 at B1 u1
    refine ⟨rfl, _, rfl, ?_⟩
    refine ite2 (fun _ => ?_) (fun _ => ?_)
    · refine ⟨_, rfl, _, rfl, (m : Int), 1, rfl, rfl, p, (m : Int) + 1, rfl, B1, by omega, by omega, fun r2 xs2 hr20 hr21 hx2 => ?_⟩
      obtain ⟨rn, rfl⟩ : ∃ rn : Nat, r2 = (rn : Int) := ⟨r2.toNat, by omega⟩
      exact kk rn _ (by omega) (u1.trans Upto.at_) ⟨xs2, upd_same, hx2⟩
    · refine ⟨_, rfl, p, 6, rfl, B1, by omega, by omega, fun r2 xs2 hr20 hr21 hx2 => ?_⟩
      obtain ⟨rn, rfl⟩ : ∃ rn : Nat, r2 = (rn : Int) := ⟨r2.toNat, by omega⟩
      exact kk rn _ (by omega) (u1.trans Upto.at_) ⟨xs2, upd_same, hx2⟩
end
end K0
end
section
set_option Elab.async false
set_option linter.all false
set_option maxRecDepth 100000
set_option maxHeartbeats 4000000
namespace K0
open PySem PySem.Spec PyProof.Rows L2
/-! ### amounts -/
abbrev amK (f : Str → Nat) (ns : List Str) : List (Key × V) := kmap (fun y => .int (f y : Int)) ns
abbrev scLAmounts_N : List Str := ["_law_bag_here", "_law_names_here", "_law_name"]
abbrev scLAmounts_S : Stmt := sLAmounts
theorem scLAmounts : FnScope scLAmounts_N ["_law_bag_here", "_law_names_here"] (defScope sLAmounts) := ⟨rfl, rfl, rfl, by decide +kernel, rfl, by decide +kernel, by decide +kernel⟩
def unS : V → Str
  | .str s => s
  | _ => ""
theorem unS_map (ns : List Str) : (ns.map V.str).map unS = ns := by
  rw [List.map_map]
  exact List.map_id' ns
theorem perm_strs {zs : List V} {ns : List Str} (h : zs.Perm (ns.map V.str)) : ∃ ms : List Str, zs = ms.map V.str ∧ ms.Perm ns := by
  refine ⟨zs.map unS, ?_, ?_⟩
  · have key : ∀ ys : List V, (∀ y ∈ ys, ∃ s, y = V.str s) → ys = (ys.map unS).map V.str := by
      intro ys
      induction ys with
      | nil => intro _; rfl
      | cons y r ih =>
        intro hy
        obtain ⟨s, rfl⟩ := hy y List.mem_cons_self
        rw [List.map_cons, List.map_cons, ← ih fun z hz => hy z (List.mem_cons_of_mem _ hz)]
        rfl
    exact key zs fun y hy => by
      obtain ⟨s, _, e⟩ := List.mem_map.mp (h.mem_iff.mp hy)
      exact ⟨s, e.symm⟩
  · have := h.map unS
    rwa [unS_map] at this
theorem merge_kmap {f : Str → V} : ∀ {ms ns : List Str}, (ns ++ ms).Nodup → mergeK (kmap f ns) (kmap f ms) = kmap f (ns ++ ms)
  | [], ns, _ => by
    show kmap f ns = kmap f (ns ++ [])
    rw [List.append_nil]
  | m :: ms, ns, hd => by
    have hm : m ∉ ns := fun z => by
      rw [List.nodup_append] at hd
      exact hd.2.2 m z m List.mem_cons_self rfl
    show mergeK (putK (kmap f ns) (Sum.inr m) (f m)) (kmap f ms) = _
    rw [kmap_put hm]
    have := merge_kmap (f := f) (ms := ms) (ns := ns ++ [m]) (by rw [List.append_assoc]; exact hd)
    rw [this, List.append_assoc]
    rfl
/-- a list of pairs (name, number) -/
def PairN (H : Hp) (D : Addr) (L : List (Addr × Str × Nat)) : Prop := H D = some (.lst (L.map fun q => V.ref q.1)) ∧ ∀ q ∈ L, H q.1 = some (.tup [.str q.2.1, .int (q.2.2 : Int)])
theorem pairN_paired {K : PySem.W.Frag} {H : Hp} {L : List (Addr × Str × Nat)} (h : ∀ q ∈ L, H q.1 = some (.tup [.str q.2.1, .int (q.2.2 : Int)])) : Paired (fun p kv => SqT K H p [kV kv.1, kv.2]) (L.map (·.1)) (L.map fun q => ((Sum.inr q.2.1 : Key), V.int (q.2.2 : Int))) := by
  induction L with
  | nil => exact .nil
  | cons q r ih => exact .cons (.inl (.inl (h q List.mem_cons_self))) (ih fun z hz => h z (List.mem_cons_of_mem _ hz))
/-- what the pairs tell of a name -/
def told (L : List (Addr × Str × Nat)) (y : Str) : Nat := match L.find? (fun q => decide (q.2.1 = y)) with
  | some q => q.2.2
  | none => 0
theorem told_mem {L : List (Addr × Str × Nat)} (hn : (L.map (·.2.1)).Nodup) {q : Addr × Str × Nat} (hq : q ∈ L) : told L q.2.1 = q.2.2 := by
  unfold told
  induction L with
  | nil => cases hq
  | cons z r ih =>
    rw [List.map_cons, List.nodup_cons] at hn
    rcases List.mem_cons.mp hq with rfl | hq
    · rw [List.find?_cons_of_pos (by exact decide_eq_true rfl)]
    · have hne : z.2.1 ≠ q.2.1 := fun e => hn.1 (by rw [e]; exact List.mem_map.mpr ⟨q, hq, rfl⟩)
      rw [List.find?_cons_of_neg (by rw [decide_eq_false hne]; exact Bool.false_ne_true)]
      exact ih hn.2 hq
theorem told_most {L : List (Addr × Str × Nat)} (h : ∀ q ∈ L, q.2.2 ≤ mostC) (y : Str) : told L y ≤ mostC := by
  unfold told
  split
  · rename_i q hq
    exact h q (List.mem_of_find?_eq_some hq)
  · exact Nat.zero_le _
theorem told_kmap {L : List (Addr × Str × Nat)} (hn : (L.map (·.2.1)).Nodup) : (L.map fun q => ((Sum.inr q.2.1 : Key), V.int (q.2.2 : Int))) = amK (told L) (L.map (·.2.1)) := by
  unfold amK kmap
  rw [List.map_map]
  refine List.map_congr_left fun q hq => ?_
  show _ = ((Sum.inr q.2.1 : Key), V.int (told L q.2.1 : Int))
  rw [told_mem hn hq]
def spLAmounts : Sp := fun vs H Q _ => ∃ (p l : Addr) (ns : List Str), vs = [.ref p, .ref l] ∧ BagAt H p ∧ l ≠ p ∧ H l = some (.lst (ns.map V.str)) ∧ ns.Nodup ∧ ns.length ≤ 41 ∧
  ∀ (H' : Hp) (d : Addr) (zs : List Str) (f : Str → Nat), Upto p H H' → BagAt H' p → H d = none → d ≠ p → H' d = some (.dK (amK f zs)) → zs.Perm ns → (∀ y, f y ≤ mostC) → Q (.ref d) H'
section
variable {P : Program} {w : World} {K : PySem.W.Frag} {mg : Str → Option Value} {base : Heap} {tS tM tL : Tok}
theorem ok_lamounts {f fT fX fC : Addr} {fd fdT fdX fdC : FuncData} (F : FnP K "_law_amounts" sLAmounts f fd) (F_law_take : FnP K "_law_take" sTake fT fdT) (g_law_take : mg "_law_take" = some (.ref fT)) (F_law_mixed : FnP K "_law_mixed" sMixed fX fdX) (g_law_mixed : mg "_law_mixed" = some (.ref fX)) (F_law_cubes : FnP K "_law_cubes" sLCubes fC fdC) (g_law_cubes : mg "_law_cubes" = some (.ref fC)) (B : Bl mg) : FnOk P w K mg base CX0 3 f fd ["_law_bag_here", "_law_names_here"] spLAmounts := by
  have G_law_mixed : FnOk P w K mg base CX0 2 fX fdX ["_law_bag_here", "_law_some"] (spMixed K) := ok_mixed F_law_mixed F_law_take B g_law_take
  have b_law_mixed : Binds K fdX ["_law_bag_here", "_law_some"] [] := F_law_mixed.bindsN fun _ _ _ _ _ _ us hl => match us, hl with | [_, _], _ => rfl
  have G_law_cubes : FnOk P w K mg base CX0 2 fC fdC ["_law_bag_here"] spLCubes := ok_lcubes F_law_cubes F_law_take g_law_take B
  have b_law_cubes : Binds K fdC ["_law_bag_here"] [] := F_law_cubes.bindsN fun _ _ _ _ _ _ us hl => match us, hl with | [_], _ => rfl
  refine F.ok scLAmounts (fun vs H Q E h => ?_) (fun cdv A outer s H vs Q E hr h => ?_)
  · obtain ⟨p, l, ns, rfl, _⟩ := h
    rfl
  · obtain ⟨p, l, ns, rfl, hB, nlp, hl, hnd, hn41, kk⟩ := h
    have hr_law_mixed : Room 2 _ := hr
    have hr_law_cubes : Room 2 _ := hr
    refine ⟨_, PSs.nox (pss_one
      (ps_ret (pe_callTy (call_dictP rfl) (by rfl) B.dict (by decide +kernel) (pa_cons (pe_lc (own := [("_law_name", 2)]) (g := gName 2) (tt := tYes) (by rfl) scLAmounts.nd (pi_list (pe_call G_law_mixed hr_law_mixed (by rfl) g_law_mixed F_law_mixed.kp b_law_mixed .nil pass0 (pa_cons (pv 0) (pa_cons (pv 1) pa_nil)))) (blkOk_by (own := [("_law_name", 2)]) (N := scLAmounts_N) (sc := defScope scLAmounts_S) (by decide +kernel)) (fun _ _ _ _ _ => (pg_name (i := 2) scLAmounts.nd rfl (Or.inl rfl))) (fun _ _ _ _ _ => pts_nil) (fun _ _ _ _ _ => (pe_tup (pa_cons (pv 2) (pa_cons (pe_call G_law_cubes hr_law_cubes (by rfl) g_law_cubes F_law_cubes.kp b_law_cubes .nil pass0 (pa_cons (pv 0) pa_nil)) pa_nil))))) pa_nil)))), ?_⟩
    refine ⟨_, rfl, _, rfl, p, l, ns.map V.str, rfl, hB, nlp, .inl (.inl hl), by rw [List.length_map]; omega, fun H1 M zsV u1 B1 nM nMp hM pm => ?_⟩
    obtain ⟨zs, rfl, pz⟩ := perm_strs pm
    have hznd : zs.Nodup := pz.nodup_iff.mpr hnd
    have hzl : zs.length = ns.length := pz.length_eq
    refine ⟨M, rfl, ⟨_, .inl (.inl hM)⟩, fun D hD => ?_⟩
    have nDp : D ≠ p := fun e => by
      obtain ⟨x, hx, _⟩ := B1
      rw [e, hx] at hD
      cases hD
    have nDM : M ≠ D := ne_of_none hM hD
    have nDH : H D = none := by
      cases e : H D with
      | none => rfl
      | some o =>
        rw [u1 _ _ e nDp] at hD
        cases hD
    refine lc_list (K := K) (a := M) (xs := zs.map V.str) (fun i H9 => Upto p H1 H9 ∧ BagAt H9 p ∧ ∃ L : List (Addr × Str × Nat), PairN H9 D L ∧ L.map (·.2.1) = zs.take i ∧ (∀ q ∈ L, q.2.2 ≤ mostC))
      ⟨Upto.of (same_upd hD), ?_, [], ⟨upd_same, fun q hq => by cases hq⟩, rfl, fun q hq => by cases hq⟩ (fun i H9 hi h => .inl (.inl (h.1 _ _ hM nMp))) ?_ ?_
    · obtain ⟨x, hx, hv⟩ := B1
      exact ⟨x, by rw [upd_ne nDp.symm]; exact hx, hv⟩
    · rintro j x H9 hx ⟨u9, B9, L, hP, hLn, hLm⟩
      rw [List.getElem?_map] at hx
      obtain ⟨y, hy, rfl⟩ := Option.map_eq_some_iff.mp hx
      refine ⟨rfl, ?_⟩
      unfold tYes
      refine iteT ?_
      refine ⟨_, rfl, _, rfl, p, rfl, B9, fun r H10 hr u10 B10 => ?_⟩
      refine ⟨by show 2 ≤ sizeLine; decide, fun t nt => ?_⟩
      have hD10 : H10 D = some (.lst (L.map fun q => V.ref q.1)) := u10 _ _ hP.1 nDp
      have tD : D ≠ t := ne_of_none hD10 nt
      have hLl : L.length ≤ 41 := by
        have := congrArg List.length hLn
        rw [List.length_map, List.length_take] at this
        omega
      refine ⟨_, by rw [upd_ne tD]; exact hD10, by rw [List.length_map]; exact small1000 (by omega), fun b o hb hbp => ?_, ?_, L ++ [(t, y, r)], ⟨by rw [upd_same, List.map_append]; rfl, fun q hq => ?_⟩, ?_, fun q hq => ?_⟩
      · rw [upd_ne (ne_of_none hb hD), upd_ne (ne_of_none (u10 _ _ (u9 _ _ hb hbp) hbp) nt)]
        exact u10 _ _ (u9 _ _ hb hbp) hbp
      · obtain ⟨x, hx, hv⟩ := B10
        exact ⟨x, by rw [upd_ne nDp.symm, upd_ne (ne_of_none hx nt)]; exact hx, hv⟩
      · rcases List.mem_append.mp hq with e | e
        · have h4 := hP.2 q e
          have h5 := u10 _ _ h4 (bag_ne B9 h4)
          rw [upd_ne (ne_of h4 hP.1 (fun z => by cases z)), upd_ne (ne_of_none h5 nt)]
          exact h5
        · rw [List.mem_singleton.mp e, upd_ne tD.symm, upd_same]
      · rw [List.map_append, hLn, List.take_add_one, hy]
        rfl
      · rcases List.mem_append.mp hq with e | e
        · exact hLm q e
        · rw [List.mem_singleton.mp e]
          exact hr
    · rintro H9 ⟨u9, B9, L, hP, hLn, hLm⟩
      rw [List.length_map, List.take_length] at hLn
      have hLnd : (L.map (·.2.1)).Nodup := by rw [hLn]; exact hznd
      refine ⟨D, L.map (·.1), _, rfl, .inl (.inl (by rw [List.map_map]; exact hP.1)), pairN_paired hP.2, fun d nd => ?_⟩
      have em : mergeK [] (L.map fun q => ((Sum.inr q.2.1 : Key), V.int (q.2.2 : Int))) = amK (told L) zs := by
        rw [told_kmap hLnd, hLn]
        have := merge_kmap (f := fun y => .int (told L y : Int)) (ms := zs) (ns := []) (by simpa using hznd)
        rw [List.nil_append] at this
        exact this
      rw [em]
      have ndp : d ≠ p := fun e => by
        obtain ⟨x, hx, _⟩ := B9
        rw [e, hx] at nd
        cases nd
      have ndH : H d = none := by
        cases e : H d with
        | none => rfl
        | some o =>
          rw [u9 _ _ (u1 _ _ e ndp) ndp] at nd
          cases nd
      refine kk _ d zs (told L) ((u1.trans u9).trans (.of (same_upd nd))) ?_ ndH ndp upd_same pz (told_most hLm)
      obtain ⟨x, hx, hv⟩ := B9
      exact ⟨x, by rw [upd_ne (ne_of_none hx nd)]; exact hx, hv⟩
end
end K0
end
section
set_option Elab.async false
set_option linter.all false
set_option maxRecDepth 100000
set_option maxHeartbeats 4000000
namespace K0
open PySem PySem.Spec PyProof.Rows L2
/-! ### whole numbers -/
/-- what is asked whether it is a whole number: no object of our own -/
inductive Plv (H : Hp) : V → Prop where
  | int (i : Int) : Plv H (.int i)
  | bl (b : Bool) : Plv H (.bl b)
  | non : Plv H .non
  | str (x : Str) : Plv H (.str x)
  | tup (a : Addr) (xs : List V) (e : H a = some (.tup xs)) : Plv H (.ref a)
def natV : V → Bool
  | .int i => decide (0 ≤ i)
  | _ => false
def wholeV (m : Int) : V → Bool
  | .int i => decide (0 ≤ i) && decide (i ≤ m)
  | _ => false
theorem Plv.ty {K : PySem.W.Frag} {H : Hp} {x : V} (h : Plv H x) : ∃ t b1 b2, TyX K H x t ∧ PySem.W.kitOne K t (.type "int") = some b1 ∧ PySem.W.kitOne K t (.type "bool") = some b2 ∧ ((∃ i, x = .int i ∧ b1 = true ∧ b2 = false) ∨ (natV x = false ∧ (b1 = false ∨ (b1 = true ∧ b2 = true)))) := by
  cases h with
  | int i => exact ⟨_, true, false, .base (.int i), kit_ty (by decide +kernel), kit_ty (by decide +kernel), .inl ⟨i, rfl, rfl, rfl⟩⟩
  | bl b => exact ⟨_, true, true, .base (.bl b), kit_ty (by decide +kernel), kit_ty (by decide +kernel), .inr ⟨rfl, .inr ⟨rfl, rfl⟩⟩⟩
  | non => exact ⟨_, false, false, .base .non, kit_ty (by decide +kernel), kit_ty (by decide +kernel), .inr ⟨rfl, .inl rfl⟩⟩
  | str x => exact ⟨_, false, false, .base (.str x), kit_ty (by decide +kernel), kit_ty (by decide +kernel), .inr ⟨rfl, .inl rfl⟩⟩
  | tup a xs e => exact ⟨_, false, false, .base (.tup e), kit_ty (by decide +kernel), kit_ty (by decide +kernel), .inr ⟨rfl, .inl rfl⟩⟩
abbrev scIsNat_N : List Str := ["value"]
abbrev scIsNat_S : Stmt := sIsNat
theorem scIsNat : FnScope scIsNat_N ["value"] (defScope sIsNat) := ⟨rfl, rfl, rfl, by decide +kernel, rfl, by decide +kernel, by decide +kernel⟩
def spIsNat : Sp := fun vs H Q _ => ∃ x, vs = [x] ∧ Plv H x ∧ Q (.bl (natV x)) H
abbrev scIsWhole_N : List Str := ["value", "most"]
abbrev scIsWhole_S : Stmt := sIsWhole
theorem scIsWhole : FnScope scIsWhole_N ["value", "most"] (defScope sIsWhole) := ⟨rfl, rfl, rfl, by decide +kernel, rfl, by decide +kernel, by decide +kernel⟩
def spIsWhole : Sp := fun vs H Q _ => ∃ (x : V) (m : Int), vs = [x, .int m] ∧ Plv H x ∧ Q (.bl (wholeV m x)) H
section
variable {P : Program} {w : World} {K : PySem.W.Frag} {mg : Str → Option Value} {base : Heap} {tS tM tL : Tok}
theorem ok_isnat {f : Addr} {fd : FuncData} (F : FnP K "is_natural" sIsNat f fd) (B : Bl mg) : FnOk P w K mg base CX0 1 f fd ["value"] spIsNat := by
  refine F.ok scIsNat (fun vs H Q E h => ?_) (fun cdv A outer s H vs Q E hr h => ?_)
  · obtain ⟨x, rfl, _⟩ := h
    rfl
  · obtain ⟨x, rfl, hx, k⟩ := h
    refine ⟨_, PSs.nox (pss_one
      (ps_ret (pe_and (pe_callB call_isi (by rfl) B.isinstance (by decide +kernel) (pa_cons (pv 0) (pa_cons (pe_bltn (v := .ty "int") (by rfl) B.int (by decide +kernel) rfl) pa_nil))) (pe_and (pe_not (pe_callB call_isi (by rfl) B.isinstance (by decide +kernel) (pa_cons (pv 0) (pa_cons (pe_bltn (v := .ty "bool") (by rfl) B.bool (by decide +kernel) rfl) pa_nil)))) (pe_one (pe_cmpR op_ge (pv 0) pe_int (nomark _))))))), ?_⟩
    obtain ⟨t, b1, b2, ty, k1, k2, hc⟩ := hx.ty (K := K)
    refine ⟨_, rfl, x, .ty "int", t, _, b1, rfl, .ty "int", ty, k1, _, rfl, ?_⟩
    rcases hc with ⟨i, rfl, rfl, rfl⟩ | ⟨hn, rfl | ⟨rfl, rfl⟩⟩
    · refine iteT ?_
      refine ⟨_, rfl, .int i, .ty "bool", t, _, false, rfl, .ty "bool", ty, k2, _, rfl, _, rfl, ?_⟩
      refine iteT ?_
      refine ⟨_, rfl, i, 0, rfl, rfl, ?_⟩
      exact k
    · refine iteF ?_
      rw [hn] at k
      exact k
    · refine iteT ?_
      refine ⟨_, rfl, x, .ty "bool", t, _, true, rfl, .ty "bool", ty, k2, _, rfl, _, rfl, ?_⟩
      refine iteF ?_
      rw [hn] at k
      exact k
theorem ok_iswhole {f fN : Addr} {fd fdN : FuncData} (F : FnP K "is_whole" sIsWhole f fd) (Fis_natural : FnP K "is_natural" sIsNat fN fdN) (gis_natural : mg "is_natural" = some (.ref fN)) (B : Bl mg) : FnOk P w K mg base CX0 2 f fd ["value", "most"] spIsWhole := by
  have Gis_natural : FnOk P w K mg base CX0 1 fN fdN ["value"] spIsNat := ok_isnat Fis_natural B
  have bis_natural : Binds K fdN ["value"] [] := Fis_natural.bindsN fun _ _ _ _ _ _ us hl => match us, hl with | [_], _ => rfl
  refine F.ok scIsWhole (fun vs H Q E h => ?_) (fun cdv A outer s H vs Q E hr h => ?_)
  · obtain ⟨x, m, rfl, _⟩ := h
    rfl
  · obtain ⟨x, m, rfl, hx, k⟩ := h
    have hris_natural : Room 1 _ := hr.mono (by decide)
    refine ⟨_, PSs.nox (pss_one
      (ps_ret (pe_and (pe_call Gis_natural hris_natural (by rfl) gis_natural Fis_natural.kp bis_natural .nil pass0 (pa_cons (pv 0) pa_nil)) (pe_one (pe_cmpR op_le (pv 0) (pv 1) (nomark _)))))), ?_⟩
    refine ⟨_, rfl, x, rfl, hx, _, rfl, ?_⟩
    cases hn : natV x with
    | false =>
      refine iteF ?_
      have e : wholeV m x = false := by
        cases x with
        | int i =>
          have h : decide (0 ≤ i) = false := hn
          show (decide (0 ≤ i) && decide (i ≤ m)) = false
          rw [h]
          rfl
        | _ => rfl
      rw [e] at k
      exact k
    | true =>
      refine iteT ?_
      obtain ⟨i, rfl⟩ : ∃ i, x = .int i := by
        cases x with
        | int i => exact ⟨i, rfl⟩
        | _ => cases hn
      have h : decide (0 ≤ i) = true := hn
      have e : wholeV m (.int i) = decide (i ≤ m) := by
        show (decide (0 ≤ i) && decide (i ≤ m)) = _
        rw [h]
        rfl
      rw [e] at k
      exact ⟨_, rfl, _, rfl, i, m, rfl, rfl, k⟩
abbrev scIsCubes_N : List Str := ["value"]
theorem scIsCubes : FnScope scIsCubes_N ["value"] (defScope sIsCubes) := ⟨rfl, rfl, rfl, by decide +kernel, rfl, by decide +kernel, by decide +kernel⟩
abbrev mostI : Int := 1000000000000000000000000000000
def spIsCubes : Sp := fun vs H Q _ => ∃ x, vs = [x] ∧ Plv H x ∧ Q (.bl (wholeV mostI x)) H
theorem ok_iscubes {f fW fN : Addr} {fd fdW fdN : FuncData} {tC : Tok} (F : FnP K "is_cubes" sIsCubes f fd) (Fis_whole : FnP K "is_whole" sIsWhole fW fdW) (gis_whole : mg "is_whole" = some (.ref fW)) (Fis_natural : FnP K "is_natural" sIsNat fN fdN) (gis_natural : mg "is_natural" = some (.ref fN)) (gC : mg "MOST_CUBES" = some (.int mostI tC)) (B : Bl mg) : FnOk P w K mg base CX0 3 f fd ["value"] spIsCubes := by
  have Gis_whole : FnOk P w K mg base CX0 2 fW fdW ["value", "most"] spIsWhole := ok_iswhole Fis_whole Fis_natural gis_natural B
  have bis_whole : Binds K fdW ["value", "most"] [] := Fis_whole.bindsN fun _ _ _ _ _ _ us hl => match us, hl with | [_, _], _ => rfl
  refine F.ok scIsCubes (fun vs H Q E h => ?_) (fun cdv A outer s H vs Q E hr h => ?_)
  · obtain ⟨x, rfl, _⟩ := h
    rfl
  · obtain ⟨x, rfl, hx, k⟩ := h
    have hris_whole : Room 2 _ := hr
    refine ⟨_, PSs.nox (pss_one (ps_ret (pe_call Gis_whole hris_whole (by rfl) gis_whole Fis_whole.kp bis_whole .nil pass0 (pa_cons (pv 0) (pa_cons (pe_glob (v := .int mostI) (by rfl) gC ⟨_, rfl⟩) pa_nil))))), ?_⟩
    exact ⟨_, rfl, x, mostI, rfl, hx, k⟩
theorem whole_nat {n : Nat} (h : n ≤ mostC) : wholeV mostI (.int (n : Int)) = true := by
  have h1 : (0 : Int) ≤ (n : Int) := by omega
  have h2 : (n : Int) ≤ mostI := by
    show (n : Int) ≤ 1000000000000000000000000000000
    unfold mostC at h
    omega
  show (decide ((0 : Int) ≤ (n : Int)) && decide ((n : Int) ≤ mostI)) = true
  rw [decide_eq_true h1, decide_eq_true h2]
  rfl
end
end K0
end
section
set_option Elab.async false
set_option linter.all false
set_option maxRecDepth 100000
set_option maxHeartbeats 4000000
namespace K0
open PySem PySem.Spec PyProof.Rows L2
/-! ### rivers and rights stand apart from bags and amounts -/
def NotI (o : HO) : Prop := (∀ xs, o ≠ .lst xs) ∧ ∀ (f : Str → Nat) z ns, o ≠ .dK (amK f (z :: ns))
def KeepI (H H' : Hp) : Prop := ∀ a o, H a = some o → NotI o → H' a = some o
theorem KeepI.trans {H H1 H2 : Hp} (a : KeepI H H1) (b : KeepI H1 H2) : KeepI H H2 := fun c o h n => b c o (a c o h n) n
theorem Same.keepI {H H' : Hp} (s : Same H H') : KeepI H H' := fun a o h _ => s a o h
theorem bag_keepI {H H' : Hp} {b : Addr} (hB : BagAt H b) (u : Upto b H H') : KeepI H H' := fun a o h n => by
  obtain ⟨xs, hb, _⟩ := hB
  exact u _ _ h (ne_of h hb (n.1 xs))
theorem am_keepI {H H' : Hp} {d : Addr} {f : Str → Nat} {z : Str} {ns : List Str} (hd : H d = some (.dK (amK f (z :: ns)))) (u : Upto d H H') : KeepI H H' := fun a o h n => u _ _ h (ne_of h hd (n.2 f z ns))
theorem not_ins {C d : Addr} {fs : List (Str × V)} : NotI (.ins C d fs) := ⟨fun _ z => (by cases z), fun _ _ _ z => by cases z⟩
theorem not_tup {xs : List V} : NotI (.tup xs) := ⟨fun _ z => (by cases z), fun _ _ _ z => by cases z⟩
theorem not_frz {o : Obj} {h : HO} : NotI (.frz o h) := ⟨fun _ z => (by cases z), fun _ _ _ z => by cases z⟩
theorem not_kmap {g : Str → V} (hg : ∀ y i, g y ≠ .int i) {ms : List Str} : NotI (.dK (kmap g ms)) := ⟨fun _ z => (by cases z), fun f z ns e => by
  have e2 : kmap g ms = amK f (z :: ns) := HO.dK.inj e
  cases ms with
  | nil => cases e2
  | cons m r =>
    have e3 : ((Sum.inr m : Key), g m) = ((Sum.inr z : Key), V.int (f z : Int)) := (List.cons.inj e2).1
    exact hg m _ (Prod.mk.inj e3).2⟩
theorem TxR.kI {H H' : Hp} {t : Addr} {l : List Str} (k : KeepI H H') (h : TxR H t l) : TxR H' t l := by
  rcases h with e | ⟨o, e⟩
  · exact .inl (k _ _ e not_tup)
  · exact .inr ⟨o, k _ _ e not_frz⟩
theorem TupsR.kI {H H' : Hp} {c : Addr} {ns : List Str} {g : Str → List Str} (k : KeepI H H') (t : TupsR H c ns g) : TupsR H' c ns g := by
  obtain ⟨ta, q1, q2⟩ := t.ex
  exact ⟨ta, k _ _ q1 (not_kmap fun _ _ z => by cases z), fun x hx => (q2 x hx).kI k⟩
theorem rivI {Cr : Addr} {H H' : Hp} {p : Addr} {AR : List (Addr × Row)} (k : KeepI H H') (r : RivAt Cr H p AR) : RivAt Cr H' p AR := by
  obtain ⟨dx, tw, tr, db, dc, da, du, o, h1, h2, h3, h4, h5, h6, h7, h8, h9⟩ := r.ex
  have tp : ∀ {c : Addr} {ns : List Str} {g : Str → List Str}, TupsAt H c ns g → TupsAt H' c ns g := fun t => by
    obtain ⟨ta, q1, q2⟩ := t.ex
    refine ⟨ta, k _ _ q1 (not_kmap fun _ _ z => by cases z), fun x hx => ?_⟩
    obtain ⟨o, e1, e2⟩ := q2 x hx
    exact ⟨o, e1, k _ _ e2 not_frz⟩
  exact ⟨dx, tw, tr, db, dc, da, du, o, k _ _ h1 not_ins, k _ _ h2 not_tup, k _ _ h3 not_tup, fun q hq => k _ _ (h4 q hq) not_tup, k _ _ h5 (not_kmap fun _ _ z => by cases z), tp h6, tp h7, tp h8, h9.to fun _ e => k _ _ e not_tup⟩
theorem rigI {Cg Cr : Addr} {H H' : Hp} {p q : Addr} {AR : List (Addr × Row)} {BR : List (Addr × RRow)} (k : KeepI H H') (r : RigOk Cg Cr H p q AR BR) : RigOk Cg Cr H' p q AR BR := by
  obtain ⟨dx, tn, tr, dw, dl, dp, h1, h2, h3, h4, h5, h6, h7, h8⟩ := r.at_.ex
  have h3' : FT H' tn (rnm (bOf BR)) := by
    obtain ⟨o, e1, e2⟩ := h3
    exact ⟨o, e1, k _ _ e2 not_frz⟩
  exact ⟨⟨dx, tn, tr, dw, dl, dp, k _ _ h1 not_ins, rivI k h2, h3', k _ _ h4 not_tup, fun z hz => k _ _ (h5 z hz) not_tup, h6.kI k, h7.kI k, k _ _ h8 (not_kmap fun _ _ z => by cases z)⟩, r.g, r.b⟩
theorem upd_id {H : Hp} {a : Addr} {o : HO} (h : H a = some o) : upd H a o = H := funext fun b => by
  by_cases q : b = a
  · rw [q, upd_same, h]
  · rw [upd_ne q]
theorem upd_upd {H : Hp} {a : Addr} {o o' : HO} : upd (upd H a o) a o' = upd H a o' := funext fun b => by
  by_cases q : b = a
  · rw [q, upd_same, upd_same]
  · rw [upd_ne q, upd_ne q, upd_ne q]
/-! ### _need_cubes, for good cubes -/
abbrev scNeedC_N : List Str := ["known", "cubes", "key"]
theorem scNeedC : FnScope scNeedC_N ["known", "cubes"] (defScope sNeedCubes) := ⟨rfl, rfl, rfl, by decide +kernel, rfl, by decide +kernel, by decide +kernel⟩
def spNeedCR (Cr : Addr) : Sp := fun vs H Q _ => ∃ (p d : Addr) (AR : List (Addr × Row)) (f : Str → Nat) (zs : List Str), vs = [.ref p, .ref d] ∧ H d = some (.dK (amK f zs)) ∧ RivAt Cr H p AR ∧ zs.Nodup ∧ (∀ z ∈ zs, z ∈ namesOf AR) ∧ (∀ z, f z ≤ mostC) ∧ Q .non H
def spNeedCG (Cg Cr : Addr) : Sp := fun vs H Q _ => ∃ (p q d : Addr) (AR : List (Addr × Row)) (BR : List (Addr × RRow)) (f : Str → Nat) (zs : List Str), vs = [.ref p, .ref d] ∧ H d = some (.dK (amK f zs)) ∧ RigOk Cg Cr H p q AR BR ∧ zs.Nodup ∧ (∀ z ∈ zs, z ∈ rnm (bOf BR)) ∧ (∀ z, f z ≤ mostC) ∧ Q .non H
section
variable {P : Program} {w : World} {K : PySem.W.Frag} {mg : Str → Option Value} {base : Heap} {tS tM tL : Tok}
/-- is_cubes and what it promises -/
structure Cb (P : Program) (w : World) (K : PySem.W.Frag) (mg : Str → Option Value) (base : Heap) : Prop where
  ex : ∃ f fd, FnP K "is_cubes" sIsCubes f fd ∧ mg "is_cubes" = some (.ref f) ∧ FnOk P w K mg base CX0 3 f fd ["value"] spIsCubes
theorem ok_needCR {f Cr : Addr} {fd : FuncData} (F : FnP K "_need_cubes" sNeedCubes f fd) (CB : Cb P w K mg base) (M : Sc K Cr) (T : Rv K mg Cr) (B : Bl mg) : FnOk P w K mg base CX0 4 f fd ["known", "cubes"] (spNeedCR Cr) := by
  obtain ⟨fC, fdC, FC, hs, hf⟩ := M.has
  have GC : FnOk P w K mg base CX0 1 fC fdC ["self", "x"] (spHas (GHasS Cr)) := ok_containsS FC T B
  have bC : Binds K fdC ["self", "x"] [] := FC.bindsN fun _ _ _ _ _ _ us hl => match us, hl with | [_, _], _ => rfl
  obtain ⟨fK, fdK, Fis_cubes, gis_cubes, Gis_cubes⟩ := CB.ex
  have bis_cubes : Binds K fdK ["value"] [] := Fis_cubes.bindsN fun _ _ _ _ _ _ us hl => match us, hl with | [_], _ => rfl
  refine F.ok scNeedC (fun vs H Q E h => ?_) (fun cdv A outer s H vs Q E hr h => ?_)
  · obtain ⟨p, d, AR, f, zs, rfl, _⟩ := h
    rfl
  · obtain ⟨p, d, AR, f, zs, rfl, hd, hR, hnd, hin, hmost, kk⟩ := h
    have hu := hu_of hr
    have hrC : Room 1 _ := hr.mono (by decide)
    have hris_cubes : Room 3 _ := hr
    refine ⟨_, PSs.nox (pss_one
      (ps_lock (ps_for PassesOwn.never rfl (pi_keys (pv 1)) (pg_name (i := 2) scNeedC.nd rfl (Or.inl rfl)) (pss_one
        (ps_if (PW.pt (pw_or (pt_cmpR (k0_notIn_own (K := K) GC hrC hs hf bC) (pv 2) (pv 0) (by rfl)) (pw_or1 (pt_not (pt_val (pe_call Gis_cubes hris_cubes (by rfl) gis_cubes Fis_cubes.kp bis_cubes .nil pass0 (pa_cons (pe_dget hu (pv 1) (pv 2) (fun _ _ => rfl)) pa_nil))))))) (pss_one
          ps_never) pss_nil))))), ?_⟩
    refine ⟨d, _, hd, trivial, fun o => ?_⟩
    have hl : (upd H d (.frz o (.dK (amK f zs)))) d = some (.frz o (.dK (amK f zs))) := upd_same
    refine ⟨_, rfl, d, o, rfl, .inl ⟨_, hl, ?_⟩⟩
    refine for_it walk_keys (fun i σ H2 => H2 = upd H d (.frz o (.dK (amK f zs))) ∧ (∃ v, σ = [some (.ref p), some (.ref d), v])) ⟨rfl, ⟨_, rfl⟩⟩ (fun i σ H2 hi h => by rw [h.1]; exact hl) ?_ ?_
    · rintro i x σ H2 H3 hi ⟨rfl, ⟨v, rfl⟩⟩ ⟨rfl, k, v2, ek, rfl⟩
      obtain ⟨y, hy, rfl, rfl⟩ := kmap_get ek
      have hym : y ∈ zs := List.mem_of_getElem? hy
      have hz : ∃ z0 zr, zs = z0 :: zr := by
        cases zs with
        | nil => cases hym
        | cons z0 zr => exact ⟨z0, zr, rfl⟩
      obtain ⟨z0, zr, ez⟩ := hz
      have hR2 : RivAt Cr (upd H d (.frz o (.dK (amK f zs)))) p AR := rivI (am_keepI (by rw [ez] at hd; exact hd) Upto.at_) hR
      obtain ⟨dx, tw, tr, db, dc, da, du, oo, h1, _⟩ := id hR2.ex
      refine ⟨_, rfl, _, rfl, p, dx, _, true, rfl, h1, ⟨AR, y, hR2, rfl, (decide_eq_true (hin y hym)).symm⟩, _, rfl, ?_⟩
      refine iteF ?_
      have dg : DGet (upd H d (.frz o (.dK (amK f zs)))) d (.str y) (some (.int (f y : Int))) := .inl ⟨amK f zs, Sum.inr y, .inr ⟨o, hl⟩, rfl, (kmap_at (f := fun y => .int (f y : Int)) hym).symm⟩
      refine ⟨_, rfl, _, rfl, d, _, rfl, dg, _, rfl, .int _, ?_⟩
      rw [whole_nat (hmost y)]
      refine ⟨_, rfl, iteF ?_⟩
      exact ⟨rfl, ⟨_, rfl⟩⟩
    · rintro σ H2 ⟨rfl, ⟨v, rfl⟩⟩
      refine ⟨hl, ?_⟩
      rw [upd_upd, upd_id hd]
      exact kk
theorem ok_needCG {f Cg Cr : Addr} {fd : FuncData} (F : FnP K "_need_cubes" sNeedCubes f fd) (CB : Cb P w K mg base) (M : Gm K Cg) (TG : Rg K mg Cg) (B : Bl mg) : FnOk P w K mg base CX0 4 f fd ["known", "cubes"] (spNeedCG Cg Cr) := by
  obtain ⟨fC, fdC, FC, hs, hf⟩ := M.has
  have GC : FnOk P w K mg base CX0 1 fC fdC ["self", "x"] (spHas (GHasG Cg Cr)) := ok_gcontains FC TG B
  have bC : Binds K fdC ["self", "x"] [] := FC.bindsN fun _ _ _ _ _ _ us hl => match us, hl with | [_, _], _ => rfl
  obtain ⟨fK, fdK, Fis_cubes, gis_cubes, Gis_cubes⟩ := CB.ex
  have bis_cubes : Binds K fdK ["value"] [] := Fis_cubes.bindsN fun _ _ _ _ _ _ us hl => match us, hl with | [_], _ => rfl
  refine F.ok scNeedC (fun vs H Q E h => ?_) (fun cdv A outer s H vs Q E hr h => ?_)
  · obtain ⟨p, q, d, AR, BR, f, zs, rfl, _⟩ := h
    rfl
  · obtain ⟨p, q, d, AR, BR, f, zs, rfl, hd, hR, hnd, hin, hmost, kk⟩ := h
    have hu := hu_of hr
    have hrC : Room 1 _ := hr.mono (by decide)
    have hris_cubes : Room 3 _ := hr
    refine ⟨_, PSs.nox (pss_one
      (ps_lock (ps_for PassesOwn.never rfl (pi_keys (pv 1)) (pg_name (i := 2) scNeedC.nd rfl (Or.inl rfl)) (pss_one
        (ps_if (PW.pt (pw_or (pt_cmpR (k0_notIn_own (K := K) GC hrC hs hf bC) (pv 2) (pv 0) (by rfl)) (pw_or1 (pt_not (pt_val (pe_call Gis_cubes hris_cubes (by rfl) gis_cubes Fis_cubes.kp bis_cubes .nil pass0 (pa_cons (pe_dget hu (pv 1) (pv 2) (fun _ _ => rfl)) pa_nil))))))) (pss_one
          ps_never) pss_nil))))), ?_⟩
    refine ⟨d, _, hd, trivial, fun o => ?_⟩
    have hl : (upd H d (.frz o (.dK (amK f zs)))) d = some (.frz o (.dK (amK f zs))) := upd_same
    refine ⟨_, rfl, d, o, rfl, .inl ⟨_, hl, ?_⟩⟩
    refine for_it walk_keys (fun i σ H2 => H2 = upd H d (.frz o (.dK (amK f zs))) ∧ (∃ v, σ = [some (.ref p), some (.ref d), v])) ⟨rfl, ⟨_, rfl⟩⟩ (fun i σ H2 hi h => by rw [h.1]; exact hl) ?_ ?_
    · rintro i x σ H2 H3 hi ⟨rfl, ⟨v, rfl⟩⟩ ⟨rfl, k, v2, ek, rfl⟩
      obtain ⟨y, hy, rfl, rfl⟩ := kmap_get ek
      have hym : y ∈ zs := List.mem_of_getElem? hy
      have hz : ∃ z0 zr, zs = z0 :: zr := by
        cases zs with
        | nil => cases hym
        | cons z0 zr => exact ⟨z0, zr, rfl⟩
      obtain ⟨z0, zr, ez⟩ := hz
      have hR2 : RigOk Cg Cr (upd H d (.frz o (.dK (amK f zs)))) p q AR BR := rigI (am_keepI (by rw [ez] at hd; exact hd) Upto.at_) hR
      obtain ⟨dx, tn, tr, dw, dl, dp, h1, _⟩ := id hR2.at_.ex
      refine ⟨_, rfl, _, rfl, p, dx, _, true, rfl, h1, ⟨q, AR, BR, y, hR2.at_, rfl, (decide_eq_true (hin y hym)).symm⟩, _, rfl, ?_⟩
      refine iteF ?_
      have dg : DGet (upd H d (.frz o (.dK (amK f zs)))) d (.str y) (some (.int (f y : Int))) := .inl ⟨amK f zs, Sum.inr y, .inr ⟨o, hl⟩, rfl, (kmap_at (f := fun y => .int (f y : Int)) hym).symm⟩
      refine ⟨_, rfl, _, rfl, d, _, rfl, dg, _, rfl, .int _, ?_⟩
      rw [whole_nat (hmost y)]
      refine ⟨_, rfl, iteF ?_⟩
      exact ⟨rfl, ⟨_, rfl⟩⟩
    · rintro σ H2 ⟨rfl, ⟨v, rfl⟩⟩
      refine ⟨hl, ?_⟩
      rw [upd_upd, upd_id hd]
      exact kk
end
end K0
end
section
set_option Elab.async false
set_option linter.all false
set_option maxRecDepth 100000
set_option maxHeartbeats 8000000
namespace K0
open PySem PySem.Spec PyProof.Rows L2
/-! ### Day.__init__, for good cubes -/
abbrev sDInit : Stmt := inClass sDay 0
abbrev sDEq : Stmt := inClass sDay 1
abbrev sDCalls : Stmt := inClass sDay 5
abbrev sDWaters : Stmt := inClass sDay 6
abbrev FnDI (K : PySem.W.Frag) (f : Addr) (fd : FuncData) : Prop := FunD K "__init__" "Day.__init__" (defArgs sDInit) (defBody sDInit) (defScope sDInit) [] [("call", .int 0), ("water", .int 0)] f fd
structure Dv1 (K : PySem.W.Frag) (mg : Str → Option Value) (C : Addr) : Prop where
  cl : Cls K C
  rights : NoAttr K C "rights"
  _calls : NoAttr K C "_calls"
  _waters : NoAttr K C "_waters"
  mgC : mg "Day" = some (.ref C)
def e1 (a : V) : List (Str × V) := putF "rights" a []
def e2 (a b : V) : List (Str × V) := putF "_calls" b (e1 a)
def e3 (a b c : V) : List (Str × V) := putF "_waters" c (e2 a b)
theorem e1_len (a : V) : (e1 a).length < 1000 := by have := putF_len "rights" a []; have e : ([] : List (Str × V)).length = 0 := rfl; unfold e1; omega
theorem e2_len (a b : V) : (e2 a b).length < 1000 := by have := putF_len "_calls" b (e1 a); have h := putF_len "rights" a []; have e : ([] : List (Str × V)).length = 0 := rfl; unfold e2; unfold e1 at this ⊢; omega
theorem e3r (a b c : V) : (e3 a b c).lookup ("rights" : Str) = some a := by
  rw [e3, lookup_putF, if_neg (by decide +kernel), e2, lookup_putF, if_neg (by decide +kernel), e1, lookup_putF, if_pos rfl]
theorem e3c (a b c : V) : (e3 a b c).lookup ("_calls" : Str) = some b := by
  rw [e3, lookup_putF, if_neg (by decide +kernel), e2, lookup_putF, if_pos rfl]
theorem e3w (a b c : V) : (e3 a b c).lookup ("_waters" : Str) = some c := by
  rw [e3, lookup_putF, if_pos rfl]
theorem e3no {a b c : V} {m : Str} (h1 : (["rights", "_calls", "_waters"] : List Str).contains m = false) : (e3 a b c).lookup m = none := by
  simp only [List.contains_cons, List.contains_nil, Bool.or_false, Bool.or_eq_false_iff, beq_eq_false_iff_ne] at h1
  rw [e3, lookup_putF, if_neg h1.2.2, e2, lookup_putF, if_neg h1.2.1, e1, lookup_putF, if_neg h1.1]
  rfl
/-- a day stands at p: over the rights at g, with these calls and waters -/
structure DayAt (Cd : Addr) (H : Hp) (p g : Addr) (ns ms : List Str) (f h : Str → Nat) : Prop where
  ex : ∃ (dx dc dw : Addr), H p = some (.ins Cd dx (e3 (.ref g) (.ref dc) (.ref dw))) ∧ H dc = some (.dK (amK f ns)) ∧ H dw = some (.dK (amK h ms))
theorem DayAt.same {Cd : Addr} {H H' : Hp} {p g : Addr} {ns ms : List Str} {f h : Str → Nat} (d : DayAt Cd H p g ns ms f h) (s : Same H H') : DayAt Cd H' p g ns ms f h := by
  obtain ⟨dx, dc, dw, h1, h2, h3⟩ := d.ex
  exact ⟨dx, dc, dw, s _ _ h1, s _ _ h2, s _ _ h3⟩
theorem rig_upto {Cg Cr : Addr} {H H' : Hp} {p g q : Addr} {AR : List (Addr × Row)} {BR : List (Addr × RRow)} (u : Upto p H H') (hp : ∃ C dx fs, H p = some (.ins C dx fs)) (n1 : g ≠ p) (n2 : q ≠ p) (r : RigOk Cg Cr H g q AR BR) : RigOk Cg Cr H' g q AR BR := by
  have hp' := hp
  obtain ⟨C, dx0, fs, hp⟩ := hp
  have k : ∀ {a : Addr} {o : HO}, H a = some o → (∀ z1 z2 z3, o ≠ .ins z1 z2 z3) → H' a = some o := fun h n => u _ _ h (ne_of h hp (n _ _ _))
  obtain ⟨dx, tn, tr, dw, dl, dp, h1, h2, h3, h4, h5, h6, h7, h8⟩ := r.at_.ex
  have kx : ∀ {t : Addr} {l : List Str}, TxR H t l → TxR H' t l := fun h => by
    rcases h with e | ⟨o, e⟩
    · exact .inl (k e (fun _ _ _ z => by cases z))
    · exact .inr ⟨o, k e (fun _ _ _ z => by cases z)⟩
  have kt : ∀ {c : Addr} {ns : List Str} {g : Str → List Str}, TupsR H c ns g → TupsR H' c ns g := fun t => by
    obtain ⟨ta, q1, q2⟩ := t.ex
    exact ⟨ta, k q1 (fun _ _ _ z => by cases z), fun x hx => kx (q2 x hx)⟩
  have h3' : FT H' tn (rnm (bOf BR)) := by
    obtain ⟨o, e1, e2⟩ := h3
    exact ⟨o, e1, k e2 (fun _ _ _ z => by cases z)⟩
  exact ⟨⟨dx, tn, tr, dw, dl, dp, u _ _ h1 n1, riv_upto u hp' n2 h2, h3', k h4 (fun _ _ _ z => by cases z), fun z hz => k (h5 z hz) (fun _ _ _ z => by cases z), kt h6, kt h7, k h8 (fun _ _ _ z => by cases z)⟩, r.g, r.b⟩
/-- what a dict of amounts has, 0 for what is left out -/
def fillN (f : Str → Nat) (zs : List Str) (y : Str) : Nat := if y ∈ zs then f y else 0
theorem fill_am (f : Str → Nat) (zs : List Str) (y : Str) : (valV (amK f zs) (Sum.inr y)).getD (.int 0) = .int (fillN f zs y : Int) := by
  unfold fillN
  by_cases h : y ∈ zs
  · rw [if_pos h, kmap_at (f := fun y => .int (f y : Int)) h]
    rfl
  · rw [if_neg h, kmap_not h]
    rfl
theorem fill_most {f : Str → Nat} (h : ∀ y, f y ≤ mostC) (zs : List Str) (y : Str) : fillN f zs y ≤ mostC := by
  unfold fillN
  split
  · exact h y
  · exact Nat.zero_le _
abbrev scDInit_N : List Str := ["self", "rights", "calls", "waters", "call", "water", "name", "weir"]
abbrev scDInit_S : Stmt := sDInit
theorem scDInit : FnScope scDInit_N ["self", "rights", "calls", "waters", "call", "water"] (defScope sDInit) := ⟨rfl, rfl, rfl, by decide +kernel, rfl, by decide +kernel, by decide +kernel⟩
/-- amounts in a dict, for some of the names -/
structure Am (H : Hp) (d : Addr) (ns : List Str) (f : Str → Nat) (zs : List Str) : Prop where
  at_ : H d = some (.dK (amK f zs))
  nd : zs.Nodup
  inn : ∀ z ∈ zs, z ∈ ns
  most : ∀ z, f z ≤ mostC
theorem Am.same {H H' : Hp} {d : Addr} {ns : List Str} {f : Str → Nat} {zs : List Str} (a : Am H d ns f zs) (s : Same H H') : Am H' d ns f zs := ⟨s _ _ a.at_, a.nd, a.inn, a.most⟩
def spDInit (Cd Cg Cr : Addr) : Sp := fun vs H Q _ => ∃ (p g q d1 d2 dx : Addr) (AR : List (Addr × Row)) (BR : List (Addr × RRow)) (f1 f2 : Str → Nat) (z1 z2 : List Str), vs = [.ref p, .ref g, .ref d1, .ref d2, .int 0, .int 0] ∧ H p = some (.ins Cd dx []) ∧ RigOk Cg Cr H g q AR BR ∧
  Am H d1 (rnm (bOf BR)) f1 z1 ∧ Am H d2 (namesOf AR) f2 z2 ∧ ∀ H', Upto p H H' → DayAt Cd H' p g (rnm (bOf BR)) (namesOf AR) (fillN f1 z1) (fillN f2 z2) → Q .non H'
section
variable {P : Program} {w : World} {K : PySem.W.Frag} {mg : Str → Option Value} {base : Heap} {tS tM tL : Tok}
theorem ok_dinit {f fN Cd Cg Cr : Addr} {fd fdN : FuncData} (F : FnDI K f fd) (CB : Cb P w K mg base) (F_need_cubes : FnP K "_need_cubes" sNeedCubes fN fdN) (g_need_cubes : mg "_need_cubes" = some (.ref fN)) (M : Gm K Cg) (S : Sc K Cr) (TG : Rg K mg Cg) (T : Rv K mg Cr) (TD : Dv1 K mg Cd) (B : Bl mg) : FnOk P w K mg base CX0 5 f fd ["self", "rights", "calls", "waters", "call", "water"] (spDInit Cd Cg Cr) := by
  have GN1 : FnOk P w K mg base CX0 4 fN fdN ["known", "cubes"] (spNeedCG Cg Cr) := ok_needCG F_need_cubes CB M TG B
  have GN2 : FnOk P w K mg base CX0 4 fN fdN ["known", "cubes"] (spNeedCR Cr) := ok_needCR F_need_cubes CB S T B
  have bN : Binds K fdN ["known", "cubes"] [] := F_need_cubes.bindsN fun _ _ _ _ _ _ us hl => match us, hl with | [_, _], _ => rfl
  obtain ⟨fK, fdK, Fis_cubes, gis_cubes, Gis_cubes⟩ := CB.ex
  have bis_cubes : Binds K fdK ["value"] [] := Fis_cubes.bindsN fun _ _ _ _ _ _ us hl => match us, hl with | [_], _ => rfl
  refine F.ok scDInit (fun vs H Q E h => ?_) (fun cdv A outer s H vs Q E hr h => ?_)
  · obtain ⟨p, g, q, d1, d2, dx, AR, BR, f1, f2, z1, z2, rfl, _⟩ := h
    rfl
  · obtain ⟨p, g, q, d1, d2, dx, AR, BR, f1, f2, z1, z2, rfl, hp, R, A1, A2, kk⟩ := h
    have hu := hu_of hr
    have hrN : Room 4 _ := hr
    have hris_cubes : Room 3 _ := hr.mono (by decide)
    refine ⟨_, PSs.nox (pss_cons
      (ps_if (PW.pt (pw_or (pt_not (pt_val (pe_call Gis_cubes hris_cubes (by rfl) gis_cubes Fis_cubes.kp bis_cubes .nil pass0 (pa_cons (pv 4) pa_nil)))) (pw_or1 (pt_not (pt_val (pe_call Gis_cubes hris_cubes (by rfl) gis_cubes Fis_cubes.kp bis_cubes .nil pass0 (pa_cons (pv 5) pa_nil))))))) (pss_one
      ps_never) pss_nil)
      (pss_cons
      (ps_expr (pe_call GN1 hrN (by rfl) g_need_cubes F_need_cubes.kp bN .nil pass0 (pa_cons (pv 1) (pa_cons (pv 2) pa_nil))))
      (pss_cons
      (ps_expr (pe_call GN2 hrN (by rfl) g_need_cubes F_need_cubes.kp bN .nil pass0 (pa_cons (fldK (K := K) (pv 1) rfl) (pa_cons (pv 3) pa_nil))))
      (pss_cons
      (ps_fld (pv 0) (pv 1) rfl)
      (pss_cons
      (ps_fld (pv 0) (pe_dc (own := [("name", 6)]) (g := gName 6) (tt := tYes) (by rfl) scDInit.nd (pi_tup (fldK (K := K) (pv 1) rfl)) (blkOk_by (own := [("name", 6)]) (N := scDInit_N) (sc := defScope scDInit_S) (by decide +kernel)) (fun _ _ _ _ _ => (pg_name (i := 6) scDInit.nd rfl (Or.inl rfl))) (fun _ _ _ _ _ => pts_nil) (fun _ _ _ _ _ => (pv 6)) (fun _ _ _ _ _ => (pe_dget2 hu (pv 2) (pv 6) (pv 4) ⟨rfl, rfl, rfl, rfl⟩))) rfl)
      (pss_one
      (ps_fld (pv 0) (pe_dc (own := [("weir", 7)]) (g := gName 7) (tt := tYes) (by rfl) scDInit.nd (pi_tup (fldK (K := K) (fldK (K := K) (pv 1) rfl) rfl)) (blkOk_by (own := [("weir", 7)]) (N := scDInit_N) (sc := defScope scDInit_S) (by decide +kernel)) (fun _ _ _ _ _ => (pg_name (i := 7) scDInit.nd rfl (Or.inl rfl))) (fun _ _ _ _ _ => pts_nil) (fun _ _ _ _ _ => (pv 7)) (fun _ _ _ _ _ => (pe_dget2 hu (pv 3) (pv 7) (pv 5) ⟨rfl, rfl, rfl, rfl⟩))) rfl))))))), ?_⟩
    have hnl : (namesOf AR).length = AR.length := nmlen AR
    have hRm := R.g.most
    have hAl : (rowsOf AR).length = AR.length := List.length_map _
    have hBm := R.b.most
    have hln : (rnm (bOf BR)).length = (bOf BR).length := List.length_map _
    have hnd1 := R.b.nd
    have hnd2 := R.g.nm.nd
    have w0 : wholeV mostI (.int 0) = true := by decide
    refine ⟨_, rfl, _, rfl, .int 0, ?_⟩
    rw [w0]
    refine ⟨_, rfl, iteF ?_⟩
    refine ⟨_, rfl, _, rfl, .int 0, ?_⟩
    rw [w0]
    refine ⟨_, rfl, iteF ?_⟩
    obtain ⟨dxg, tn, tr, dw, dl, dp, h1, h2, h3, h4, h5, h6, h7, h8⟩ := id R.at_.ex
    obtain ⟨dxq, tw, tqr, db, dc, da, du, o, q1, q2, q3, q4, q5, q6, q7, q8, q9⟩ := id h2.ex
    have hgp : g ≠ p := fun z => by
      rw [z, hp] at h1
      have e2 := congrArg (fun z : List (Str × V) => z.lookup ("river" : Str)) (HO.ins.inj (Option.some.inj h1)).2.2
      have e3 : ([] : List (Str × V)).lookup ("river" : Str) = (r6 (.ref q) (.ref tn) (.ref tr) (.ref dw) (.ref dl) (.ref dp)).lookup ("river" : Str) := e2
      rw [rr6r] at e3
      cases e3
    have hqp : q ≠ p := fun z => by
      rw [z, hp] at q1
      have e2 := congrArg (fun z : List (Str × V) => z.lookup ("weirs" : Str)) (HO.ins.inj (Option.some.inj q1)).2.2
      have e3 : ([] : List (Str × V)).lookup ("weirs" : Str) = (f7 (.ref tw) (.ref tqr) (.ref db) (.ref dc) (.ref da) (.ref du) o).lookup ("weirs" : Str) := e2
      rw [g7w] at e3
      cases e3
    refine ⟨_, rfl, _, rfl, g, q, d1, AR, BR, f1, z1, rfl, A1.at_, R, A1.nd, A1.inn, A1.most, ?_⟩
    refine ⟨_, rfl, g, Cg, dxg, _, _, rfl, h1, TG.cl, TG.river, rr6r _ _ _ _ _ _, _, rfl, q, d2, AR, f2, z2, rfl, A2.at_, h2, A2.nd, A2.inn, A2.most, ?_⟩
    refine ⟨_, rfl, _, rfl, p, Cd, dx, _, rfl, hp, TD.cl, TD.rights, by show 0 < 1000; decide, ?_⟩
    have u1 : Upto p H (upd H p (.ins Cd dx (e1 (.ref g)))) := Upto.at_
    have p1 : (upd H p (.ins Cd dx (e1 (.ref g)))) p = some (.ins Cd dx (e1 (.ref g))) := upd_same
    show tSeq _ _ _ _ (upd H p (.ins Cd dx (e1 (.ref g))))
    generalize upd H p (.ins Cd dx (e1 (.ref g))) = H1 at u1 p1
    have k1 : ∀ {a : Addr} {o : HO}, H a = some o → (∀ z1 z2 z3, o ≠ .ins z1 z2 z3) → a ≠ p := fun h n => ne_of h hp (n _ _ _)
    have a1 := u1 _ _ A1.at_ (k1 A1.at_ (fun _ _ _ z => by cases z))
    have a2 := u1 _ _ A2.at_ (k1 A2.at_ (fun _ _ _ z => by cases z))
    have R1 := rig_upto u1 ⟨_, _, _, hp⟩ hgp hqp R
    clear h1 h2 h3 h4 h5 h6 h7 h8 q1 q2 q3 q4 q5 q6 q7 q8 q9
    obtain ⟨dxg, tn, tr, dw, dl, dp, h1, h2, h3, h4, h5, h6, h7, h8⟩ := id R1.at_.ex
    obtain ⟨dxq, tw, tqr, db, dc, da, du, o, q1, q2, q3, q4, q5, q6, q7, q8, q9⟩ := id h2.ex
    refine ⟨_, rfl, g, Cg, dxg, _, _, rfl, h1, TG.cl, TG.names, rr6n _ _ _ _ _ _, tn, rfl, ⟨_, .inl h3.rd⟩, fun D hD => ?_⟩
    refine dc_tup (K := K) (a := tn) (xs := (rnm (bOf BR)).map V.str) (fun i H2 => Same H1 H2 ∧ H2 D = some (.dK (amK (fillN f1 z1) ((rnm (bOf BR)).take i)))) ⟨same_upd hD, by rw [upd_same, List.take_zero]; rfl⟩ (fun i H2 hi h => .inl (same_rd h.1 h3.rd)) ?_ ?_
    · rintro i x H2 hx ⟨s2, hD2⟩
      rw [List.getElem?_map] at hx
      obtain ⟨y, hy, rfl⟩ := Option.map_eq_some_iff.mp hx
      refine ⟨rfl, ?_⟩
      unfold tYes
      refine iteT ?_
      have hd2 : Rd H2 d1 (.dK (amK f1 z1)) := .inl (s2 _ _ a1)
      refine ⟨_, rfl, _, rfl, d1, rfl, .inl ⟨_, hd2⟩, _, rfl, _, rfl, _, .inl ⟨_, Sum.inr y, hd2, rfl, rfl⟩, ?_⟩
      rw [fill_am]
      refine ⟨_, Sum.inr y, rfl, hD2, ?_, fun b o hb => ?_, ?_⟩
      · rw [kmap_len, List.length_take]
        exact small1000 (by omega)
      · rw [upd_ne (ne_of_none hb hD)]
        exact s2 b o hb
      · have e := kmap_put (f := fun y => .int (fillN f1 z1 y : Int)) (nodup_take hnd1 hy)
        rw [upd_same, List.take_add_one, hy]
        exact congrArg (fun z => some (HO.dK z)) e
    rintro H2 ⟨s2, hD2⟩
    have e7 : ((rnm (bOf BR)).map V.str).length = (rnm (bOf BR)).length := List.length_map _
    rw [e7, List.take_length] at hD2
    have p2 := s2 _ _ p1
    have nDp : D ≠ p := ne_of hD2 p2 (fun z => by cases z)
    refine ⟨_, rfl, p, Cd, dx, _, rfl, p2, TD.cl, TD._calls, e1_len _, ?_⟩
    have R2 := R1.same s2
    have u3 : Upto p H2 (upd H2 p (.ins Cd dx (e2 (.ref g) (.ref D)))) := Upto.at_
    have p3 : (upd H2 p (.ins Cd dx (e2 (.ref g) (.ref D)))) p = some (.ins Cd dx (e2 (.ref g) (.ref D))) := upd_same
    show Ends.nx _ _ (upd H2 p (.ins Cd dx (e2 (.ref g) (.ref D))))
    generalize upd H2 p (.ins Cd dx (e2 (.ref g) (.ref D))) = H3 at u3 p3
    have a23 := u3 _ _ (s2 _ _ a2) (k1 A2.at_ (fun _ _ _ z => by cases z))
    have hD3 := u3 _ _ hD2 nDp
    have R3 := rig_upto u3 ⟨_, _, _, p2⟩ hgp hqp R2
    clear h1 h2 h3 h4 h5 h6 h7 h8 q1 q2 q3 q4 q5 q6 q7 q8 q9
    obtain ⟨dxg, tn, tr, dw, dl, dp, h1, h2, h3, h4, h5, h6, h7, h8⟩ := id R3.at_.ex
    obtain ⟨dxq, tw, tqr, db, dc, da, du, o, q1, q2, q3, q4, q5, q6, q7, q8, q9⟩ := id h2.ex
    refine ⟨_, rfl, g, Cg, dxg, _, _, rfl, h1, TG.cl, TG.river, rr6r _ _ _ _ _ _, q, Cr, dxq, _, _, rfl, q1, T.cl, T.weirs, g7w _ _ _ _ _ _ _, tw, rfl, ⟨_, .inl (.inl q2)⟩, fun D2 hD2' => ?_⟩
    refine dc_tup (K := K) (a := tw) (xs := (namesOf AR).map V.str) (fun i H4 => Same H3 H4 ∧ H4 D2 = some (.dK (amK (fillN f2 z2) ((namesOf AR).take i)))) ⟨same_upd hD2', by rw [upd_same, List.take_zero]; rfl⟩ (fun i H4 hi h => .inl (.inl (h.1 _ _ q2))) ?_ ?_
    · rintro i x H4 hx ⟨s4, hD4⟩
      rw [List.getElem?_map] at hx
      obtain ⟨y, hy, rfl⟩ := Option.map_eq_some_iff.mp hx
      refine ⟨rfl, ?_⟩
      unfold tYes
      refine iteT ?_
      have hd2 : Rd H4 d2 (.dK (amK f2 z2)) := .inl (s4 _ _ a23)
      refine ⟨_, rfl, _, rfl, d2, rfl, .inl ⟨_, hd2⟩, _, rfl, _, rfl, _, .inl ⟨_, Sum.inr y, hd2, rfl, rfl⟩, ?_⟩
      rw [fill_am]
      refine ⟨_, Sum.inr y, rfl, hD4, ?_, fun b o hb => ?_, ?_⟩
      · rw [kmap_len, List.length_take]
        exact small1000 (by omega)
      · rw [upd_ne (ne_of_none hb hD2')]
        exact s4 b o hb
      · have e := kmap_put (f := fun y => .int (fillN f2 z2 y : Int)) (nodup_take hnd2 hy)
        rw [upd_same, List.take_add_one, hy]
        exact congrArg (fun z => some (HO.dK z)) e
    rintro H4 ⟨s4, hD4⟩
    have e8 : ((namesOf AR).map V.str).length = (namesOf AR).length := List.length_map _
    rw [e8, List.take_length] at hD4
    have p4 := s4 _ _ p3
    have nDp2 : D2 ≠ p := ne_of hD4 p4 (fun z => by cases z)
    refine ⟨_, rfl, p, Cd, dx, _, rfl, p4, TD.cl, TD._waters, e2_len _ _, ?_⟩
    refine kk _ (((((u1.trans (.of s2)).trans u3).trans (.of s4))).trans Upto.at_) ⟨dx, D, D2, ?_, ?_, ?_⟩
    · exact upd_same
    · rw [upd_ne nDp]
      exact s4 _ _ hD3
    · rw [upd_ne nDp2]
      exact hD4
end
end K0
end
section
set_option Elab.async false
set_option linter.all false
set_option maxRecDepth 100000
namespace L2
open PySem PySem.Spec PyProof.Rows
open PySem.W
/-! ### == and != by an own __eq__ -/
section
variable {prog : Program} {w : World} {M : Model} {A : Around} {E : Value → Shared → Prop} {s : Shared} {K : Frag} {x C f : Addr} {ox : Obj} {od : Option Obj} {y tb : Value}
theorem k0_ne_bound {Q : Option Value → Shared → Prop} (X : K.In s.heap) (I : InstAt s.heap x ox C od) (hs : findIn K (.ref C) "__ne__" = some (some (.builtin "object.__ne__")))
    (h : wpAny M A (call (.builtin "object.__ne__") [.ref x, y]) (fun v => Q (some v)) E s) : wpAny M A (callSpecialIfBound? (.ref x) "__ne__" [y]) Q E s := by
  simp only [callSpecialIfBound?, bindSpecialIfBound?]
  refine wpAny_holding (wpAny_bind (wpAny_bind (wpAny_bind (I.type.here ((looks_findIn X hs).here ?_)))))
  simp only [F.cmp_object.ne.bind]
  refine wpAny_bind (wpAny_askSetting (wpAny_ite ?_))
  have fin : wpAny M A (call (.builtin "object.__ne__") ([.ref x] ++ [y]) >>= fun v => pure (some v)) Q E s := wpAny_bind (wpAny_mono h (fun v s' h' => wpAny_pure h') fun _ _ h' => h')
  split
  · exact wpAny_bind (wpAny_pure (wpAny_pure (by exact fin)))
  · exact wpAny_tryCatch (wpAny_bind (wpAny_pure (wpAny_pure (by exact fin))))
theorem k0_ne_entry {Q : Fin → Shared → Prop} (hu : A.units < cLine) (X : K.In s.heap) (I : InstAt s.heap x ox C od) (hs : findIn K (.ref C) "__eq__" = some (some (.ref f))) (hf : isFn K (.ref f) = true)
    (hcall : wpAny (model prog w) A (call (.ref f) [.ref x, y]) (fun v s' => ∃ b, v = .bool b ∧ Q (.done (.ret (.bool (!b)))) s') E s) : wpAny (model prog w) A (Builtin.«object.__ne__» ⟨[.ref x, y], []⟩) Q E s := by
  unfold Builtin.«object.__ne__»
  refine wpAny_bind (m := slotArgs "__ne__" 1 _) (wpAny_pure ?_)
  show wpAny _ _ (cRoomFor "comparison" [.ref x, y] >>= _) _ _ _
  refine wpAny_bind (wpAny_cRoomFor hu ?_)
  refine wpAny_bind (m := callSpecialIfBound? (.ref x) (Str.ofString "__eq__") [y]) (ifBound_K X I hs hf (wpAny_mono hcall (fun v s' hv => ?_) fun _ _ e => e))
  obtain ⟨b, rfl, q⟩ := hv
  refine wpAny_bind (m := truthy (.bool b)) (wpAny_truthy_bool ?_)
  exact wpAny_pure q
theorem k0_ne_K {Q : Value → Shared → Prop} (hu : A.units + 1 < cLine) (X : K.In s.heap) (I : InstAt s.heap x ox C od) (hb : Looks (model prog w) s.heap (typeOf y) tb) (hn : notFirst K C tb = true)
    (hn2 : findIn K (.ref C) "__ne__" = some (some (.builtin "object.__ne__"))) (hs : findIn K (.ref C) "__eq__" = some (some (.ref f))) (hf : isFn K (.ref f) = true) (ho : mroIn K C (.type "object") = some true)
    (h : wpAny (model prog w) A.in1 (call (.ref f) [.ref x, y]) (fun v s' => ∃ b, v = .bool b ∧ Q (.bool (!b)) s') E s) : wpAny (model prog w) A (richCompare .NotEq (.ref x) y) Q E s := by
  have sub : Looks (model prog w) s.heap (isInstance (.ref x) (.type "object")) true := I.type.andThen (looks_mroIn X ho)
  have one : wpAny (model prog w) A (tryCompare (.ref x) "__ne__" y) (fun r s' => ∃ v, r = some v ∧ Q v s') E s := by
    unfold tryCompare
    refine wpAny_bind (k0_ne_bound X I hn2 (wpAny_call (codeAny_call_builtin F.cmp_object.ne.plain F.cmpEntry_ne (@check_slot (model prog w) _ _ s "object.__ne__" "object" "__ne__" (.ref x) [y] [] _ F.cmpKind_ne F.cmpSplit_ne sub (F.cmpArgs_ne _ _)
      (k0_ne_entry (A := A.in1) hu X I hs hf (wpAny_mono h (fun v s' hv => ?_) fun _ _ e => e))))))
    obtain ⟨b, rfl, q⟩ := hv
    exact ⟨b, rfl, wpAny_pure ⟨_, rfl, q⟩⟩
  unfold richCompare
  simp only [oneThing_ref]
  refine wpAny_holding (wpAny_bind (wpAny_cRoomFor (Nat.lt_of_succ_lt hu) ?_))
  refine wpAny_bind (I.type.here (wpAny_bind (hb.here ?_)))
  split
  · rename_i q
    have e : subIn K tb (.ref C) = some false := by
      rcases Bool.or_eq_true_iff.mp hn with e | e
      · rw [beq_iff_eq.mp e] at q; simp at q
      · exact beq_iff_eq.mp e
    refine wpAny_bind ((looks_subIn X e).here ?_)
    simp only [Bool.false_eq_true, if_false]
    refine wpAny_bind (wpAny_mono one (fun r s' z => ?_) fun _ _ e => e)
    obtain ⟨v, rfl, hq⟩ := z
    exact wpAny_pure hq
  · refine wpAny_bind (wpAny_pure ?_)
    simp only [Bool.false_eq_true, if_false]
    refine wpAny_bind (wpAny_mono one (fun r s' z => ?_) fun _ _ e => e)
    obtain ⟨v, rfl, hq⟩ := z
    exact wpAny_pure hq
end
end L2
namespace L2
open PySem PySem.Spec PyProof.Rows
section
variable {X : Cx} {k : Nat} {C f : Addr} {fd : FuncData}
def rOwnEq (K : PySem.W.Frag) (C : Addr) (neg : Bool) (G : Hp → Addr → V → Bool → Prop) : R2 := fun x y H Q => ∃ (p dx : Addr) (fs : List (Str × V)) (b : Bool) (t : Value), x = .ref p ∧ H p = some (.ins C dx fs) ∧ G H p y b ∧ TyX K H y t ∧ PySem.W.notFirst K C t = true ∧ Q (.bl (if neg then !b else b)) H
theorem k0_eq_run {ps : List Str} {G : Hp → Addr → V → Bool → Prop} (F : FnOk X.prog X.w X.K X.mg X.base CX0 k f fd ps (spHas G)) {A : Around} (hr : Room k A) (hl : ps.length = 2) (hb : Binds X.K fd ps []) {pins : List (Addr × Obj)} {σ : St} {H : Hp} {s : Shared} (I : Inv X pins σ H s)
    (e0 : Env0 X.prog X.w X.K X.mg X.base A X.stack s H) {E : Value → Shared → Prop} {p : Addr} {x : V} {u : Value} {b : Bool} (rx : RelV x u) (hG : G H p x b)
    {R : Value → Shared → Prop} (h : ∀ s', Inv X pins σ H s' → R (.bool b) s') : wpAny (model X.prog X.w) A (call (.ref f) [.ref p, u]) R E s := by
  have hsp : spHas G [.ref p, x] H (fun v H' => v = .bl b ∧ H' = H) E0 := ⟨p, x, b, rfl, hG, rfl, rfl⟩
  have r2 : Vals [V.ref p, x] [Value.ref p, u] := .cons rfl (.cons rx .nil)
  refine wpAny_call (codeAny_mono (F.run A X.stack s H ⟨[.ref p, u], []⟩ [.ref p, u] [.ref p, x] _ E0 hr e0 (by
    have := hb s [.ref p, u] I.kIn (by rw [hl]; rfl)
    simpa using this) r2 hsp) fun r s' hq => ?_)
  cases r with
  | error e => exact hq.elim
  | ok fl =>
    cases fl with
    | ret w =>
      obtain ⟨z, H', I', rz, ez, eH⟩ := I.after hq
      subst ez
      subst eH
      cases rz
      exact h s' I'
    | next => exact hq.elim
    | brk => exact hq.elim
    | cont => exact hq.elim
theorem k0_ty_looks {pins : List (Addr × Obj)} {σ : St} {H : Hp} {s : Shared} {x : V} {u t : Value} (I : Inv X pins σ H s) (rx : RelV x u) (ty : TyX X.K H x t) : PySem.W.Looks (model X.prog X.w) s.heap (typeOf u) t := by
  obtain ⟨Pz, Z, pz, _⟩ := kit_of I rx ty
  exact Z.ty _ _ I.kIn pz
theorem k0_eq_own {ps : List Str} {G : Hp → Addr → V → Bool → Prop} (F : FnOk X.prog X.w X.K X.mg X.base CX0 k f fd ps (spHas G)) (hr : Room k X.A) (hl : ps.length = 2)
    (hs : PySem.W.findIn X.K (.ref C) "__eq__" = some (some (.ref f))) (hf : PySem.W.isFn X.K (.ref f) = true) (hb : Binds X.K fd ps []) : OpR X (compareOp .Eq) (rOwnEq X.K C false G) := by
  intro pins s σ H x y v u Q I rx ry h
  obtain ⟨p, dx, fs, b, t, rfl, hp, hG, ty, hn, q⟩ := h
  cases rx
  obtain ⟨mA, J, _⟩ := ins_get I.hok hp
  obtain ⟨od, J, _⟩ := J.look
  obtain ⟨m, hF⟩ := I.fr
  show wpAny _ _ (compareOp .Eq (.ref p) u) _ _ _
  unfold compareOp
  refine PySem.W.cmp_K (op := .Eq) hr.units0 hF I.ok.mod.kin J (k0_ty_looks I ry ty) hn hs hf (k0_eq_run F hr hl hb I I.env0 ry hG fun s' I' => ?_)
  exact ⟨.bl b, H, I', rfl, q⟩
theorem k0_ne_own {ps : List Str} {G : Hp → Addr → V → Bool → Prop} (F : FnOk X.prog X.w X.K X.mg X.base CX0 k f fd ps (spHas G)) (hr : Room (k + 1) X.A) (hl : ps.length = 2)
    (hs : PySem.W.findIn X.K (.ref C) "__eq__" = some (some (.ref f))) (hn2 : PySem.W.findIn X.K (.ref C) "__ne__" = some (some (.builtin "object.__ne__"))) (ho : PySem.W.mroIn X.K C (.type "object") = some true)
    (hf : PySem.W.isFn X.K (.ref f) = true) (hb : Binds X.K fd ps []) : OpR X (compareOp .NotEq) (rOwnEq X.K C true G) := by
  intro pins s σ H x y v u Q I rx ry h
  obtain ⟨p, dx, fs, b, t, rfl, hp, hG, ty, hn, q⟩ := h
  cases rx
  obtain ⟨mA, J, _⟩ := ins_get I.hok hp
  obtain ⟨od, J, _⟩ := J.look
  show wpAny _ _ (compareOp .NotEq (.ref p) u) _ _ _
  unfold compareOp
  have hu := hr.units
  refine k0_ne_K (by omega) I.kIn J (k0_ty_looks I ry ty) hn hn2 hs hf ho (k0_eq_run F hr.in1 hl hb I I.env0.in1 ry hG fun s' I' => ?_)
  exact ⟨b, rfl, .bl (!b), H, I', rfl, q⟩
end
end L2
namespace K0
open PySem PySem.Spec PyProof.Rows L2
theorem scEq : FnScope ["self", "other"] ["self", "other"] (defScope sEq) := ⟨rfl, rfl, rfl, by decide +kernel, rfl, by decide +kernel, by decide +kernel⟩
/-- what == answers -/
def GEq (K : PySem.W.Frag) (Cr : Addr) : Hp → Addr → V → Bool → Prop := fun H p x b => ∃ AR, RivAt Cr H p AR ∧ GoodRows (rowsOf AR) ∧ ((∃ q AR2, x = .ref q ∧ RivAt Cr H q AR2 ∧ GoodRows (rowsOf AR2) ∧ b = decide (rowsOf AR = rowsOf AR2)) ∨ ∃ t, TyX K H x t ∧ PySem.W.kitOne K t (.ref Cr) = some false ∧ b = false)
/-- what isinstance asks of River -/
structure Ri (K : PySem.W.Frag) (Cr : Addr) : Prop where
  ha : PySem.W.findIn K (.ref Cr) "__class__" = some (some (.builtin "object.__class__"))
  hn : PySem.W.specialIn K (.builtin "object.__class__") "__get__" = some (some (.builtin "getset_descriptor.__get__"))
  htk : PySem.W.takesIn K (.builtin "object.__class__") = some true
  hm : PySem.W.mroIn K Cr (.type "object") = some true
section
variable {P : Program} {w : World} {K : PySem.W.Frag} {mg : Str → Option Value} {base : Heap} {tS tM tL : Tok}
/-- rows as data -/
def rowD (r : Row) : PyData := .tuple [.str r.1, .str r.2]
theorem eqv_rows : ∀ a b : List Row, PyData.eqvAll (a.map rowD) (b.map rowD) = decide (a = b)
  | [], [] => by simp only [List.map_nil, PyData.eqvAll]; rfl
  | [], _ :: _ => by simp only [List.map_nil, List.map_cons, PyData.eqvAll]; rfl
  | _ :: _, [] => by simp only [List.map_nil, List.map_cons, PyData.eqvAll]; rfl
  | (x1, x2) :: a, (y1, y2) :: b => by
    have ih := eqv_rows a b
    simp only [List.map_cons, PyData.eqvAll, rowD, PyData.eqv, Bool.and_true]
    rw [Bool.eq_iff_iff]
    have ih2 : PyData.eqvAll (a.map rowD) (b.map rowD) = true ↔ a = b := by rw [ih]; simp
    simp only [Bool.and_eq_true, beq_iff_eq, decide_eq_true_eq, List.cons.injEq, Prod.mk.injEq, ih2]
theorem canLay_rows : ∀ {a : List Row}, (∀ r ∈ a, Plain r.1 ∧ Plain r.2) → PyData.canLayAll0 (a.map rowD) = true
  | [], _ => by simp only [List.map_nil, PyData.canLayAll0]
  | r :: a, h => by
    have ih := canLay_rows fun z hz => h z (List.mem_cons_of_mem _ hz)
    obtain ⟨h1, h2⟩ := h r List.mem_cons_self
    simp only [List.map_cons, PyData.canLayAll0, ih, rowD, PyData.canLay0, plain_ok h1, plain_ok h2]
    rfl
theorem depth_rows : ∀ a : List Row, PyData.depthAll (a.map rowD) ≤ 1
  | [] => by simp only [List.map_nil, PyData.depthAll]; omega
  | r :: a => by
    have ih := depth_rows a
    simp only [List.map_cons, PyData.depthAll, rowD, PyData.depth]
    omega
theorem good_plain {R : List Row} (h : GoodRows R) : ∀ r ∈ R, Plain r.1 ∧ Plain r.2 := fun r hr => by
  have hk := h.row hr
  exact ⟨name_plain hk.a, name_plain hk.b⟩
theorem dp_rows {H : Hp} : ∀ {AR : List (Addr × Row)}, (∀ q ∈ AR, H q.1 = some (.tup [.str q.2.1, .str q.2.2])) → DpAll K H (AR.map fun q => V.ref q.1) ((rowsOf AR).map rowD)
  | [], _ => .nil
  | (a, r) :: AR, h => .cons (.tup (.inl (.inl (h (a, r) List.mem_cons_self))) (.cons (.str r.1) (.cons (.str r.2) .nil))) (dp_rows fun q hq => h q (List.mem_cons_of_mem _ hq))
theorem shaped_rows {R : List Row} (h : ∀ r ∈ R, Plain r.1 ∧ Plain r.2) : SeqAt.shaped (.tuple (R.map rowD)) = true ∧ SeqAt.shaped (.list (R.map rowD)) = true := by
  have h2 := depth_rows R
  have h3 : PyData.depthAll (R.map rowD) + 1 ≤ 64 := by omega
  constructor
  all_goals
    unfold SeqAt.shaped
    simp only [PyData.canLay0, PyData.depth, canLay_rows h, h3]
    rfl
theorem ok_eq {f Cr : Addr} {fd : FuncData} (F : FnM K "__eq__" "River.__eq__" sEq f fd) (T : Rv K mg Cr) (I : Ri K Cr) (hty : PySem.W.typeIn K (.ref Cr) = some (.type "type")) (B : Bl mg) : FnOk P w K mg base CX0 1 f fd ["self", "other"] (spHas (GEq K Cr)) := by
  refine F.ok scEq (fun vs H Q E h => ?_) (fun cdv A outer s H vs Q E hr h => ?_)
  · obtain ⟨p, x, b, rfl, _⟩ := h
    rfl
  · obtain ⟨p, x, b, rfl, ⟨AR, R, G, hx⟩, k⟩ := h
    have hu64 := hr.units
    refine ⟨_, PSs.nox (pss_one
      (ps_ret (pe_and (pe_callB call_isi (by rfl) B.isinstance (by decide +kernel) (pa_cons (pv 1) (pa_cons (pe_glob (v := .ref Cr) (by rfl) T.mgC rfl) pa_nil))) (pe_one (pe_cmpR (op_eqD hu64) (fldK (K := K) (pv 0) rfl) (fldK (K := K) (pv 1) rfl) (nomark _)))))), ?_⟩
    obtain ⟨dx, tw, tr, db, dc, da, du, o, h1, h2, h3, h4, h5, h6, h7, h8, h9⟩ := R.ex
    rcases hx with ⟨q, AR2, rfl, R2, G2, rfl⟩ | ⟨t, ht, kt, rfl⟩
    · obtain ⟨dx2, tw2, tr2, db2, dc2, da2, du2, o2, i1, i2, i3, i4, i5, i6, i7, i8, i9⟩ := R2.ex
      have kit : PySem.W.kitOne K (.ref Cr) (.ref Cr) = some true := by unfold PySem.W.kitOne; simp
      refine ⟨_, rfl, _, .ref Cr, .ref Cr, _, true, rfl, .own Cr, .base (.ins i1 T.cl I.ha I.hn I.htk I.hm), kit, true, rfl, iteT ?_⟩
      refine ⟨_, rfl, p, Cr, dx, _, _, rfl, h1, T.cl, T._rows, g7r _ _ _ _ _ _ _, _, rfl, q, Cr, dx2, _, _, rfl, i1, T.cl, T._rows, g7r _ _ _ _ _ _ _, ?_⟩
      refine ⟨.tuple ((rowsOf AR).map rowD), .tuple ((rowsOf AR2).map rowD), .tup (.inl (.inl h3)) (dp_rows h4), .tup (.inl (.inl i3)) (dp_rows i4), (shaped_rows (good_plain G)).1, (shaped_rows (good_plain G2)).1, ?_⟩
      have e : PyData.eqv (.tuple ((rowsOf AR).map rowD)) (.tuple ((rowsOf AR2).map rowD)) = decide (rowsOf AR = rowsOf AR2) := by
        simp only [PyData.eqv]
        exact eqv_rows _ _
      rw [e]
      exact k
    · refine ⟨_, rfl, x, .ref Cr, t, .ref Cr, false, rfl, .own Cr, ht, kt, false, rfl, iteF ?_⟩
      exact k
end
end K0
end
section
set_option Elab.async false
set_option linter.all false
set_option maxRecDepth 100000
set_option maxHeartbeats 2000000
namespace K0
open PySem PySem.Spec PyProof.Rows L2
section
variable {K : PySem.W.Frag}
def rrD (r : RRow) : PyData := .tuple [.str r.1, .str r.2.1, .str r.2.2]
theorem eqv_rr : ∀ a : List RRow, PyData.eqvAll (a.map rrD) (a.map rrD) = true
  | [] => by simp only [List.map_nil, PyData.eqvAll]
  | r :: a => by simp only [List.map_cons, PyData.eqvAll, rrD, PyData.eqv, beq_self_eq_true, eqv_rr a, Bool.and_self]
theorem canLay_rr : ∀ {a : List RRow}, (∀ r ∈ a, Plain r.1 ∧ Plain r.2.1 ∧ Plain r.2.2) → PyData.canLayAll0 (a.map rrD) = true
  | [], _ => by simp only [List.map_nil, PyData.canLayAll0]
  | r :: a, h => by
    have ih := canLay_rr fun z hz => h z (List.mem_cons_of_mem _ hz)
    obtain ⟨h1, h2, h3⟩ := h r List.mem_cons_self
    simp only [List.map_cons, PyData.canLayAll0, ih, rrD, PyData.canLay0, plain_ok h1, plain_ok h2, plain_ok h3]
    rfl
theorem depth_rr : ∀ a : List RRow, PyData.depthAll (a.map rrD) ≤ 1
  | [] => by simp only [List.map_nil, PyData.depthAll]; omega
  | r :: a => by
    have ih := depth_rr a
    simp only [List.map_cons, PyData.depthAll, rrD, PyData.depth]
    omega
theorem dp_rr {H : Hp} : ∀ {BR : List (Addr × RRow)}, (∀ q ∈ BR, H q.1 = some (.tup [.str q.2.1, .str q.2.2.1, .str q.2.2.2])) → DpAll K H (BR.map fun q => V.ref q.1) ((bOf BR).map rrD)
  | [], _ => .nil
  | (a, r) :: BR, h => .cons (.tup (.inl (.inl (h (a, r) List.mem_cons_self))) (.cons (.str r.1) (.cons (.str r.2.1) (.cons (.str r.2.2) .nil)))) (dp_rr fun q hq => h q (List.mem_cons_of_mem _ hq))
theorem shaped_rr {B : List RRow} (h : ∀ r ∈ B, Plain r.1 ∧ Plain r.2.1 ∧ Plain r.2.2) : SeqAt.shaped (.list (B.map rrD)) = true := by
  have h2 := depth_rr B
  have h3 : PyData.depthAll (B.map rrD) + 1 ≤ 64 := by omega
  unfold SeqAt.shaped
  simp only [PyData.canLay0, PyData.depth, canLay_rr h, h3]
  rfl
theorem rr_plain {R : List Row} {B : List RRow} (g : GoodRows R) (b : RtOk R B) : ∀ r ∈ B, Plain r.1 ∧ Plain r.2.1 ∧ Plain r.2.2 := fun r hr => by
  refine ⟨name_plain (b.ok r hr), plain_name g (b.inn r hr), ?_⟩
  rcases b.last r hr with e | e
  · rw [e]
    exact sea_plain
  · exact plain_name g (course_sub g (b.inn r hr) _ e)
end
/-! ### rights are equal, or not -/
abbrev sGEq : Stmt := inClass sRights 1
theorem scGEq : FnScope ["self", "other"] ["self", "other"] (defScope sGEq) := ⟨rfl, rfl, rfl, by decide +kernel, rfl, by decide +kernel, by decide +kernel⟩
theorem eqv_rr2 : ∀ a b : List RRow, PyData.eqvAll (a.map rrD) (b.map rrD) = decide (a = b)
  | [], [] => by simp only [List.map_nil, PyData.eqvAll]; rfl
  | [], _ :: _ => by simp only [List.map_nil, List.map_cons, PyData.eqvAll]; rfl
  | _ :: _, [] => by simp only [List.map_nil, List.map_cons, PyData.eqvAll]; rfl
  | (x1, x2, x3) :: a, (y1, y2, y3) :: b => by
    have ih := eqv_rr2 a b
    simp only [List.map_cons, PyData.eqvAll, rrD, PyData.eqv, Bool.and_true]
    rw [Bool.eq_iff_iff]
    have ih2 : PyData.eqvAll (a.map rrD) (b.map rrD) = true ↔ a = b := by rw [ih]; simp
    simp only [Bool.and_eq_true, beq_iff_eq, decide_eq_true_eq, List.cons.injEq, Prod.mk.injEq, ih2]
theorem shaped_rrT {B : List RRow} (h : ∀ r ∈ B, Plain r.1 ∧ Plain r.2.1 ∧ Plain r.2.2) : SeqAt.shaped (.tuple (B.map rrD)) = true := by
  have h2 := depth_rr B
  have h3 : PyData.depthAll (B.map rrD) + 1 ≤ 64 := by omega
  unfold SeqAt.shaped
  simp only [PyData.canLay0, PyData.depth, canLay_rr h, h3]
  rfl
def GGEq (K : PySem.W.Frag) (Cg Cr : Addr) : Hp → Addr → V → Bool → Prop := fun H p x b => ∃ q AR BR, RigOk Cg Cr H p q AR BR ∧ ((∃ p2 q2 AR2 BR2, x = .ref p2 ∧ RigOk Cg Cr H p2 q2 AR2 BR2 ∧ b = (decide (rowsOf AR = rowsOf AR2) && decide (bOf BR = bOf BR2))) ∨ ∃ t, TyX K H x t ∧ PySem.W.kitOne K t (.ref Cg) = some false ∧ b = false)
/-- River's own == -/
structure Rq (K : PySem.W.Frag) (Cr : Addr) : Prop where
  ex : ∃ f fd, FnM K "__eq__" "River.__eq__" sEq f fd ∧ PySem.W.findIn K (.ref Cr) "__eq__" = some (some (.ref f)) ∧ PySem.W.isFn K (.ref f) = true
  nf : PySem.W.notFirst K Cr (.ref Cr) = true
  I : Ri K Cr
  hty : PySem.W.typeIn K (.ref Cr) = some (.type "type")
section
variable {P : Program} {w : World} {K : PySem.W.Frag} {mg : Str → Option Value} {base : Heap} {tS tM tL : Tok}
theorem ok_geq {f Cg Cr : Addr} {fd : FuncData} (F : FnM K "__eq__" "Rights.__eq__" sGEq f fd) (TG : Rg K mg Cg) (I : Ri K Cg) (hty : PySem.W.typeIn K (.ref Cg) = some (.type "type")) (T : Rv K mg Cr) (J : Rq K Cr) (B : Bl mg) : FnOk P w K mg base CX0 2 f fd ["self", "other"] (spHas (GGEq K Cg Cr)) := by
  obtain ⟨fE, fdE, FE, hs, hf⟩ := J.ex
  have GE : FnOk P w K mg base CX0 1 fE fdE ["self", "other"] (spHas (GEq K Cr)) := ok_eq FE T J.I J.hty B
  have bE : Binds K fdE ["self", "other"] [] := FE.bindsN fun _ _ _ _ _ _ us hl => match us, hl with | [_, _], _ => rfl
  refine F.ok scGEq (fun vs H Q E h => ?_) (fun cdv A outer s H vs Q E hr h => ?_)
  · obtain ⟨p, x, b, rfl, _⟩ := h
    rfl
  · obtain ⟨p, x, b, rfl, ⟨q, AR, BR, R, hx⟩, k⟩ := h
    have hu64 := hr.units
    refine ⟨_, PSs.nox (pss_one
      (ps_ret (pe_and (pe_callB call_isi (by rfl) B.isinstance (by decide +kernel) (pa_cons (pv 1) (pa_cons (pe_glob (v := .ref Cg) (by rfl) TG.mgC rfl) pa_nil))) (pe_and (pe_cmpR (k0_eq_own GE hr rfl hs hf bE) (fldK (K := K) (pv 0) rfl) (fldK (K := K) (pv 1) rfl) (nomark _)) (pe_one (pe_cmpR (op_eqD hu64) (fldK (K := K) (pv 0) rfl) (fldK (K := K) (pv 1) rfl) (nomark _))))))), ?_⟩
    obtain ⟨dx, tn, tr, dw, dl, dp, h1, h2, h3, h4, h5, h6, h7, h8⟩ := id R.at_.ex
    rcases hx with ⟨p2, q2, AR2, BR2, rfl, R2, rfl⟩ | ⟨t, ht, kt, rfl⟩
    · obtain ⟨dx2, tn2, tr2, dw2, dl2, dp2, i1, i2, i3, i4, i5, i6, i7, i8⟩ := id R2.at_.ex
      obtain ⟨dr, tw, trr, db, dc, da, du, o, j1, _⟩ := id h2.ex
      obtain ⟨dr2, tw2, trr2, db2, dc2, da2, du2, o2, l1, _⟩ := id i2.ex
      have kit : PySem.W.kitOne K (.ref Cg) (.ref Cg) = some true := by unfold PySem.W.kitOne; simp
      refine ⟨_, rfl, _, .ref Cg, .ref Cg, _, true, rfl, .own Cg, .base (.ins i1 TG.cl I.ha I.hn I.htk I.hm), kit, true, rfl, iteT ?_⟩
      refine ⟨_, rfl, p, Cg, dx, _, _, rfl, h1, TG.cl, TG.river, rr6r _ _ _ _ _ _, _, rfl, p2, Cg, dx2, _, _, rfl, i1, TG.cl, TG.river, rr6r _ _ _ _ _ _, ?_⟩
      refine ⟨q, dr, _, decide (rowsOf AR = rowsOf AR2), .ref Cr, rfl, j1, ⟨AR, h2, R.g, .inl ⟨q2, AR2, rfl, i2, R2.g, rfl⟩⟩, .base (.ins l1 T.cl J.I.ha J.I.hn J.I.htk J.I.hm), J.nf, ?_⟩
      rw [if_neg Bool.false_ne_true]
      by_cases er : rowsOf AR = rowsOf AR2
      · rw [decide_eq_true er, Bool.true_and] at k
        rw [decide_eq_true er]
        refine ⟨_, rfl, iteT ?_⟩
        refine ⟨_, rfl, p, Cg, dx, _, _, rfl, h1, TG.cl, TG._rows, rr6o _ _ _ _ _ _, _, rfl, p2, Cg, dx2, _, _, rfl, i1, TG.cl, TG._rows, rr6o _ _ _ _ _ _, ?_⟩
        refine ⟨.tuple ((bOf BR).map rrD), .tuple ((bOf BR2).map rrD), .tup (.inl (.inl h4)) (dp_rr h5), .tup (.inl (.inl i4)) (dp_rr i5), shaped_rrT (rr_plain R.g R.b), shaped_rrT (rr_plain R2.g R2.b), ?_⟩
        have e : PyData.eqv (.tuple ((bOf BR).map rrD)) (.tuple ((bOf BR2).map rrD)) = decide (bOf BR = bOf BR2) := by
          simp only [PyData.eqv]
          exact eqv_rr2 _ _
        rw [e]
        exact k
      · rw [decide_eq_false er, Bool.false_and] at k
        rw [decide_eq_false er]
        exact ⟨_, rfl, iteF k⟩
    · refine ⟨_, rfl, x, .ref Cg, t, .ref Cg, false, rfl, .own Cg, ht, kt, false, rfl, iteF ?_⟩
      exact k
end
end K0
end
section
set_option Elab.async false
set_option linter.all false
set_option maxRecDepth 100000
set_option maxHeartbeats 4000000
namespace L2
open PySem PySem.Spec PyProof.Rows
/-! ### two dicts of whole numbers, equal or not -/
def intB : V → V → Bool
  | .int i, .int j => i == j
  | _, _ => false
def eqKB (ls : List (Key × V)) : List (Key × V) → Bool
  | [] => true
  | p :: r => match valV ls p.1 with
    | none => false
    | some y => intB p.2 y && eqKB ls r
theorem hits_int {A : Around} {s : Shared} {kvs : List (Key × V)} {vb : List (Key × Value)} (rb : KV kvs vb) (hb : ∀ k v, valV kvs k = some v → ∃ i, v = .int i) {ks : List (Key × V)} {va : List (Key × Value)} (ra : KV ks va) :
    (∀ p ∈ ks, ∃ i, p.2 = .int i) → PySem.W.KeqHits A s vb va (eqKB kvs ks) := by
  unfold KV at ra
  induction ra with
  | nil => intro _; exact .nil
  | @cons p q ps qs h t ih =>
    intro hp
    obtain ⟨h1, h2⟩ := h
    obtain ⟨i, ei⟩ := hp p List.mem_cons_self
    have rr : RelO (valV kvs p.1) (valueAt vb p.1) := rb.val p.1
    obtain ⟨k, v⟩ := q
    have h1' : p.1 = k := h1
    have ih' := ih fun p' hm => hp p' (List.mem_cons_of_mem _ hm)
    cases e : valV kvs p.1 with
    | none =>
      rw [e] at rr
      have hn : valueAt vb k = none := by
        rw [← h1']
        cases e2 : valueAt vb p.1 with
        | none => rfl
        | some y => rw [e2] at rr; cases rr
      have e3 : eqKB kvs (p :: ps) = false := by
        show (match valV kvs p.1 with | none => false | some y => intB p.2 y && eqKB kvs ps) = false
        rw [e]
      rw [e3]
      exact .miss hn
    | some y =>
      rw [e] at rr
      obtain ⟨y', hy, ry⟩ := rr.some_of
      obtain ⟨j, ej⟩ := hb _ _ e
      have e3 : eqKB kvs (p :: ps) = ((i == j) && eqKB kvs ps) := by
        show (match valV kvs p.1 with | none => false | some y => intB p.2 y && eqKB kvs ps) = _
        rw [e, ei, ej]
        rfl
      rw [e3]
      rw [h1'] at hy
      have h2 : RelV p.2 v := h2
      rw [ei] at h2
      rw [ej] at ry
      obtain ⟨t, rfl⟩ := (show ∃ t, v = Value.int i t from h2)
      obtain ⟨t', rfl⟩ := (show ∃ t, y' = Value.int j t from ry)
      exact .hit hy (SeqAt.EqAt.int_int (A := A) (s := s) i t j t') ih'
def rEqDI : R2 := fun x y H Q => ∃ a b ks ls, x = .ref a ∧ y = .ref b ∧ H a = some (.dK ks) ∧ H b = some (.dK ls) ∧ (∀ p ∈ ks, ∃ i, p.2 = .int i) ∧ (∀ p ∈ ls, ∃ i, p.2 = .int i) ∧ Q (.bl (ks.length == ls.length && eqKB ls ks)) H
section
variable {X : Cx}
theorem op_eq_dictI (hu : X.A.units < cLine) : OpR X (compareOp .Eq) rEqDI := by
  intro pins s σ H x y v u Q I rx ry h
  obtain ⟨a, b, ks, ls, rfl, rfl, ea, eb, hk, hl, q⟩ := h
  obtain rfl : v = Value.ref a := rx
  obtain rfl : u = Value.ref b := ry
  obtain ⟨_, ya, va, ra, da⟩ := (show ObjOk X.prog X.w H s.heap a (.dK ks) from I.hok a _ ea)
  obtain ⟨_, yb, vb, rb, db⟩ := (show ObjOk X.prog X.w H s.heap b (.dK ls) from I.hok b _ eb)
  have hb : ∀ k v, valV ls k = some v → ∃ i, v = .int i := fun k v e => by
    unfold valV at e
    obtain ⟨kv, h1, h2⟩ := Option.map_eq_some_iff.mp e
    obtain ⟨i, hi⟩ := hl kv (List.mem_of_find?_eq_some h1)
    exact ⟨i, h2.symm.trans hi⟩
  exact PySem.W.keq_eq (knd := mixKind X.prog X.w) (r := eqKB ls ks) ya yb da db hu (fun _ => hits_int rb hb ra hk) (fin_bl I q (by rw [← ra.length, ← rb.length]))
end
end L2
end
section
set_option Elab.async false
set_option linter.all false
set_option maxRecDepth 100000
set_option maxHeartbeats 4000000
namespace K0
open PySem PySem.Spec PyProof.Rows L2
/-! ### a day's calls and waters, days that are equal -/
theorem scDCalls : FnScope ["self"] ["self"] (defScope sDCalls) := ⟨rfl, rfl, rfl, by decide +kernel, rfl, by decide +kernel, by decide +kernel⟩
theorem scDWaters : FnScope ["self"] ["self"] (defScope sDWaters) := ⟨rfl, rfl, rfl, by decide +kernel, rfl, by decide +kernel, by decide +kernel⟩
theorem scDEq : FnScope ["self", "other"] ["self", "other"] (defScope sDEq) := ⟨rfl, rfl, rfl, by decide +kernel, rfl, by decide +kernel, by decide +kernel⟩
def spDCalls (Cd : Addr) : Sp := fun vs H Q _ => ∃ (p g : Addr) (ns ms : List Str) (f h : Str → Nat), vs = [.ref p] ∧ DayAt Cd H p g ns ms f h ∧ ∀ d, H d = none → Q (.ref d) (upd H d (.dK (amK f ns)))
def spDWaters (Cd : Addr) : Sp := fun vs H Q _ => ∃ (p g : Addr) (ns ms : List Str) (f h : Str → Nat), vs = [.ref p] ∧ DayAt Cd H p g ns ms f h ∧ ∀ d, H d = none → Q (.ref d) (upd H d (.dK (amK h ms)))
/-- equal days over the same rights -/
def GDEq (K : PySem.W.Frag) (Cd Cg Cr : Addr) : Hp → Addr → V → Bool → Prop := fun H p x b => ∃ p2 g q AR BR f h f2 h2, x = .ref p2 ∧ DayAt Cd H p g (rnm (bOf BR)) (namesOf AR) f h ∧ DayAt Cd H p2 g (rnm (bOf BR)) (namesOf AR) f2 h2 ∧ RigOk Cg Cr H g q AR BR ∧
  (∀ y ∈ rnm (bOf BR), f y = f2 y) ∧ (∀ y ∈ namesOf AR, h y = h2 y) ∧ b = true
theorem am_same {f f2 : Str → Nat} {ns : List Str} (h : ∀ y ∈ ns, f y = f2 y) : ∀ z ∈ amK f ns, valV (amK f2 ns) z.1 = some z.2 ∧ flatB z.2 = true := fun z hz => by
  obtain ⟨y, hy, rfl⟩ := List.mem_map.mp hz
  refine ⟨?_, rfl⟩
  show valV (amK f2 ns) (Sum.inr y) = some (V.int (f y : Int))
  rw [kmap_at (f := fun y => .int (f2 y : Int)) hy, h y hy]
section
variable {P : Program} {w : World} {K : PySem.W.Frag} {mg : Str → Option Value} {base : Heap} {tS tM tL : Tok}
theorem ok_dcalls {f Cd : Addr} {fd : FuncData} (F : FnM K "calls" "Day.calls" sDCalls f fd) (TD : Dv1 K mg Cd) (B : Bl mg) : FnOk P w K mg base CX0 1 f fd ["self"] (spDCalls Cd) := by
  refine F.ok scDCalls (fun vs H Q E h => ?_) (fun cdv A outer s H vs Q E hr h => ?_)
  · obtain ⟨p, g, ns, ms, f, h, rfl, _⟩ := h
    rfl
  · obtain ⟨p, g, ns, ms, f, h, rfl, D, k⟩ := h
    refine ⟨_, PSs.nox (pss_one (ps_ret (pe_callTy call_dictD (by rfl) B.dict (by decide +kernel) (pa_cons (fldK (K := K) (pv 0) rfl) pa_nil)))), ?_⟩
    obtain ⟨dx, dc, dw, h1, h2, h3⟩ := D.ex
    exact ⟨_, rfl, p, Cd, dx, _, _, rfl, h1, TD.cl, TD._calls, e3c _ _ _, dc, _, rfl, .inl h2, fun d nd => k d nd⟩
theorem ok_dwaters {f Cd : Addr} {fd : FuncData} (F : FnM K "waters" "Day.waters" sDWaters f fd) (TD : Dv1 K mg Cd) (B : Bl mg) : FnOk P w K mg base CX0 1 f fd ["self"] (spDWaters Cd) := by
  refine F.ok scDWaters (fun vs H Q E h => ?_) (fun cdv A outer s H vs Q E hr h => ?_)
  · obtain ⟨p, g, ns, ms, f, h, rfl, _⟩ := h
    rfl
  · obtain ⟨p, g, ns, ms, f, h, rfl, D, k⟩ := h
    refine ⟨_, PSs.nox (pss_one (ps_ret (pe_callTy call_dictD (by rfl) B.dict (by decide +kernel) (pa_cons (fldK (K := K) (pv 0) rfl) pa_nil)))), ?_⟩
    obtain ⟨dx, dc, dw, h1, h2, h3⟩ := D.ex
    exact ⟨_, rfl, p, Cd, dx, _, _, rfl, h1, TD.cl, TD._waters, e3w _ _ _, dw, _, rfl, .inl h3, fun d nd => k d nd⟩
/-- Rights' own == -/
structure Gq (P : Program) (w : World) (K : PySem.W.Frag) (mg : Str → Option Value) (base : Heap) (Cg Cr : Addr) : Prop where
  ex : ∃ f fd, FnM K "__eq__" "Rights.__eq__" sGEq f fd ∧ PySem.W.findIn K (.ref Cg) "__eq__" = some (some (.ref f)) ∧ PySem.W.isFn K (.ref f) = true ∧ FnOk P w K mg base CX0 2 f fd ["self", "other"] (spHas (GGEq K Cg Cr))
  nf : PySem.W.notFirst K Cg (.ref Cg) = true
theorem ok_deq {f Cd Cg Cr : Addr} {fd : FuncData} (F : FnM K "__eq__" "Day.__eq__" sDEq f fd) (TD : Dv1 K mg Cd) (I : Ri K Cd) (TG : Rg K mg Cg) (IG : Ri K Cg) (J : Gq P w K mg base Cg Cr) (B : Bl mg) : FnOk P w K mg base CX0 3 f fd ["self", "other"] (spHas (GDEq K Cd Cg Cr)) := by
  obtain ⟨fE, fdE, FE, hs, hf, GE⟩ := J.ex
  have bE : Binds K fdE ["self", "other"] [] := FE.bindsN fun _ _ _ _ _ _ us hl => match us, hl with | [_, _], _ => rfl
  refine F.ok scDEq (fun vs H Q E h => ?_) (fun cdv A outer s H vs Q E hr h => ?_)
  · obtain ⟨p, x, b, rfl, _⟩ := h
    rfl
  · obtain ⟨p, x, b, rfl, ⟨p2, g, q, AR, BR, f, h, f2, h2, rfl, D, D2, R, e1, e2, rfl⟩, k⟩ := h
    have hu64 := hr.units
    have hul : (A.deeper (envOfC "Day.__eq__" (defScope sDEq) s.heap.objs.size _ cdv)).units < cLine := Nat.lt_of_le_of_lt (Nat.le_add_right _ 64) hu64
    refine ⟨_, PSs.nox (pss_cons (ps_if (pt_not (pt_val (pe_callB call_isi (by rfl) B.isinstance (by decide +kernel) (pa_cons (pv 1) (pa_cons (pe_glob (v := .ref Cd) (by rfl) TD.mgC rfl) pa_nil))))) (pss_one (ps_ret pe_bl)) pss_nil)
      (pss_one (ps_ret (pe_and (pe_cmpR (k0_eq_own GE hr rfl hs hf bE) (fldK (K := K) (pv 0) rfl) (fldK (K := K) (pv 1) rfl) (nomark _))
        (pe_and (pe_cmpR (op_eq_dictA hul) (fldK (K := K) (pv 0) rfl) (fldK (K := K) (pv 1) rfl) (nomark _)) (pe_one (pe_cmpR (op_eq_dictA hul) (fldK (K := K) (pv 0) rfl) (fldK (K := K) (pv 1) rfl) (nomark _)))))))), ?_⟩
    obtain ⟨dx, dc, dw, i1, i2, i3⟩ := id D.ex
    obtain ⟨dx2, dc2, dw2, j1, j2, j3⟩ := id D2.ex
    obtain ⟨dxg, tn, tr, dww, dl, dp, h1, _⟩ := id R.at_.ex
    have kit : PySem.W.kitOne K (.ref Cd) (.ref Cd) = some true := by unfold PySem.W.kitOne; simp
    refine ⟨_, rfl, _, .ref Cd, .ref Cd, _, true, rfl, .own Cd, .base (.ins j1 TD.cl I.ha I.hn I.htk I.hm), kit, _, rfl, ?_⟩
    refine iteF ?_
    refine ⟨_, rfl, p, Cd, dx, _, _, rfl, i1, TD.cl, TD.rights, e3r _ _ _, _, rfl, p2, Cd, dx2, _, _, rfl, j1, TD.cl, TD.rights, e3r _ _ _, ?_⟩
    refine ⟨g, dxg, _, decide (rowsOf AR = rowsOf AR) && decide (bOf BR = bOf BR), .ref Cg, rfl, h1, ⟨q, AR, BR, R, .inl ⟨g, q, AR, BR, rfl, R, rfl⟩⟩, .base (.ins h1 TG.cl IG.ha IG.hn IG.htk IG.hm), J.nf, _, rfl, ?_⟩
    rw [decide_eq_true rfl, decide_eq_true rfl, if_neg Bool.false_ne_true]
    refine iteT ?_
    refine ⟨_, rfl, p, Cd, dx, _, _, rfl, i1, TD.cl, TD._calls, e3c _ _ _, _, rfl, p2, Cd, dx2, _, _, rfl, j1, TD.cl, TD._calls, e3c _ _ _, ?_⟩
    refine ⟨dc, dc2, _, _, rfl, rfl, i2, j2, by rw [kmap_len, kmap_len], am_same e1, _, rfl, iteT ?_⟩
    refine ⟨_, rfl, p, Cd, dx, _, _, rfl, i1, TD.cl, TD._waters, e3w _ _ _, _, rfl, p2, Cd, dx2, _, _, rfl, j1, TD.cl, TD._waters, e3w _ _ _, ?_⟩
    exact ⟨dw, dw2, _, _, rfl, rfl, i3, j3, by rw [kmap_len, kmap_len], am_same e2, k⟩
end
end K0
end
section
set_option Elab.async false
set_option linter.all false
set_option maxRecDepth 100000
set_option maxHeartbeats 4000000
namespace K0
open PySem PySem.Spec PyProof.Rows L2 TL
/-! ### is_numeral -/
def digB (c : Nat) : Bool := decide (48 ≤ c) && decide (c ≤ 57)
theorem lt1 (a b : Nat) : decide (([a] : List Nat) < [b]) = decide (a < b) := by
  refine decide_eq_decide.mpr ⟨fun z => ?_, fun z => ?_⟩
  · rw [List.cons_lt_cons_iff] at z
    rcases z with z | ⟨_, z⟩
    · exact z
    · exact absurd z (List.not_lt_nil _)
  · rw [List.cons_lt_cons_iff]
    exact .inl z
abbrev scNumeral_N : List Str := ["word", "digit"]
abbrev scNumeral_S : Stmt := sNumeral
theorem scNumeral : FnScope scNumeral_N ["word"] (defScope sNumeral) := ⟨rfl, rfl, rfl, by decide +kernel, rfl, by decide +kernel, by decide +kernel⟩
def spNumeral : Sp := fun vs H Q _ => ∃ (x : Str), vs = [.str x] ∧ x.length ≤ 6000 ∧ ∀ H', Same H H' → Q (.bl (numB (tl x))) H'
section
variable {P : Program} {w : World} {K : PySem.W.Frag} {mg : Str → Option Value} {base : Heap} {tS tM tL : Tok}
theorem ok_numeral {f : Addr} {fd : FuncData} {tN : Tok} (F : FnP K "is_numeral" sNumeral f fd) (B : Bl mg) (gL : mg "LONGEST_NUMERAL" = some (.int 31 tN)) : FnOk P w K mg base CX0 1 f fd ["word"] spNumeral := by
  refine F.ok scNumeral (fun vs H Q E h => ?_) (fun cdv A outer s H vs Q E hr h => ?_)
  · obtain ⟨x, rfl, _⟩ := h
    rfl
  · obtain ⟨x, rfl, hx, k⟩ := h
    refine ⟨_, PSs.nox (pss_cons
      (ps_if (PW.pt (pw_or (pt_not (pt_chain op_le op_le pe_int (pe_callB call_len_str (by rfl) B.len PySem.boot_len (pa_cons (pv 0) pa_nil)) (pe_glob (v := .int 31) (by rfl) gL ⟨_, rfl⟩))) (pw_or1 (pt_not (pt_val (pe_callB (cr_all rfl) (by rfl) B.all (by decide +kernel) (pa_cons (pe_lc (own := [("digit", 1)]) (g := gName 1) (tt := tYes) (by rfl) scNumeral.nd (pi_str (pv 0)) (blkOk_by (own := [("digit", 1)]) (N := scNumeral_N) (sc := defScope scNumeral_S) (by decide +kernel)) (fun _ _ _ _ _ => (pg_name (i := 1) scNumeral.nd rfl (Or.inl rfl))) (fun _ _ _ _ _ => pts_nil) (fun _ _ _ _ _ => (pe_chain op_le_str op_le_str pe_str (pv 1) pe_str))) pa_nil))))))) (pss_one
      (ps_ret pe_bl)) pss_nil)
      (pss_one
      (ps_ret (pe_or (pe_cmpR op_eq (pv 0) pe_str (nomark _)) (pe_one (pe_cmpR op_ne (pe_item_str (pv 0) pe_int (fun _ _ => rfl)) pe_str (nomark _))))))), ?_⟩
    have z40 : 40000 ≤ sizeLine := by rw [sizeLine_eq]; omega
    have hz : x.length ≤ sizeLine := by omega
    have hlen : x.length = (tl x).length := len_list x
    have bad : numB (tl x) = false → ∀ H', Same H H' → Q (.bl false) H' := fun e H' s => by
      have := k H' s
      rwa [e] at this
    refine ⟨_, rfl, x, rfl, hz, 1, (x.length : Int), rfl, rfl, _, rfl, ?_⟩
    by_cases h1 : 1 ≤ x.length
    · refine iteD (by omega) ?_
      refine ⟨_, _, rfl, rfl, _, rfl, ?_⟩
      by_cases h2 : x.length ≤ 31
      · refine iteNo (fun z => z (by omega)) ?_
        refine ⟨_, rfl, x, rfl, fun D hD => ?_⟩
        have hszx : x.cps.toList.length ≤ 31 := by rw [← hlen]; exact h2
        refine lc_it (walk_str (z := x)) (fun i H2 => Same H H2 ∧ H2 D = some (.lst (((x.cps.toList.take i).map digB).map V.bl))) ⟨same_upd hD, by rw [upd_same, List.take_zero]; rfl⟩ (fun _ _ _ _ => trivial) ?_ ?_
        · rintro i v H2 H3 hi ⟨s2, hD2⟩ ⟨e, c, hc, ev⟩
          subst e
          subst ev
          rw [← Array.getElem?_toList] at hc
          have hsz : (((x.cps.toList.take i).map digB).map V.bl).length < sizeLine := by
            rw [List.length_map, List.length_map, List.length_take]
            exact small1000 (by omega)
          have nx : Same H (upd H3 D (.lst ((((x.cps.toList.take i).map digB).map V.bl) ++ [V.bl (digB c)]))) ∧ (upd H3 D (.lst ((((x.cps.toList.take i).map digB).map V.bl) ++ [V.bl (digB c)]))) D = some (.lst (((x.cps.toList.take (i + 1)).map digB).map V.bl)) := by
            refine ⟨fun b o hb => ?_, ?_⟩
            · rw [upd_ne (ne_of_none hb hD)]
              exact s2 b o hb
            · rw [upd_same, List.take_add_one, hc, List.map_append, List.map_append]
              rfl
          refine ⟨rfl, ?_⟩
          unfold tYes
          refine iteT ?_
          refine ⟨_, rfl, "0", ⟨#[c]⟩, rfl, rfl, _, rfl, ?_⟩
          have la : (("0" : Str)).cps.toList = [48] := by decide +kernel
          have lz : (("9" : Str)).cps.toList = [57] := by decide +kernel
          have lc : (⟨#[c]⟩ : Str).cps.toList = [c] := rfl
          have q1 : (!decide ((⟨#[c]⟩ : Str).cps.toList < (("0" : Str)).cps.toList)) = decide (48 ≤ c) := by
            rw [la, lc, lt1]
            by_cases z : c < 48
            · rw [decide_eq_true z, decide_eq_false (by omega)]; rfl
            · rw [decide_eq_false z, decide_eq_true (by omega)]; rfl
          have q2 : (!decide ((("9" : Str)).cps.toList < (⟨#[c]⟩ : Str).cps.toList)) = decide (c ≤ 57) := by
            rw [lz, lc, lt1]
            by_cases z : 57 < c
            · rw [decide_eq_true z, decide_eq_false (by omega)]; rfl
            · rw [decide_eq_false z, decide_eq_true (by omega)]; rfl
          unfold digB at nx
          by_cases z : 48 ≤ c
          · have q3 := q1.trans (decide_eq_true z)
            rw [decide_eq_true z, Bool.true_and, ← q2] at nx
            refine Eq.mpr (if_pos q3) ?_
            exact ⟨⟨#[c]⟩, "9", rfl, rfl, _, hD2, hsz, nx⟩
          · have q3 := q1.trans (decide_eq_false z)
            rw [decide_eq_false z, Bool.false_and] at nx
            refine Eq.mpr (if_neg (fun y => Bool.false_ne_true (q3.symm.trans y))) ?_
            exact ⟨_, hD2, hsz, nx⟩
        · rintro H2 ⟨s2, hD2⟩
          have e : x.cps.toList.take x.cps.size = x.cps.toList := List.take_of_length_le (by rw [Array.length_toList]; exact Nat.le_refl _)
          rw [e] at hD2
          refine ⟨D, x.cps.toList.map digB, rfl, .inl (.inl hD2), _, rfl, ?_⟩
          have eall : ((x.cps.toList.map digB).all id) = (tl x).all (fun c => decide (48 ≤ c) && decide (c ≤ 57)) := by
            rw [List.all_map]
            rfl
          rw [eall]
          have hn : numB (tl x) = ((tl x).all (fun c => decide (48 ≤ c) && decide (c ≤ 57)) && (decide (tl x = [48]) || decide ((tl x).headD 0 ≠ 48))) := by
            unfold numB
            rw [decide_eq_true (show 1 ≤ (tl x).length by omega), decide_eq_true (show (tl x).length ≤ 31 by omega)]
            rfl
          cases hall : (tl x).all (fun c => decide (48 ≤ c) && decide (c ≤ 57)) with
          | false =>
            refine iteT ?_
            refine bad ?_ _ s2
            rw [hn, hall]
            rfl
          | true =>
            refine iteF ?_
            rw [hn, hall, Bool.true_and] at k
            have l0 : ("0" : Str).cps.toList = [48] := by decide +kernel
            refine ⟨_, rfl, rfl, _, rfl, ?_⟩
            by_cases hx0 : x = "0"
            · rw [decide_eq_true (show V.str x = V.str "0" by rw [hx0])]
              have e48 : tl x = [48] := by rw [hx0]; exact l0
              have := k H2 s2
              rw [decide_eq_true e48, Bool.true_or] at this
              exact iteT this
            · rw [decide_eq_false (show ¬ V.str x = V.str "0" from fun z => hx0 (V.str.inj z))]
              refine iteF ?_
              have e48 : ¬ tl x = [48] := fun z => hx0 (ext_tl (z.trans l0.symm))
              obtain ⟨c0, r0, hc0⟩ : ∃ c0 r0, tl x = c0 :: r0 := by
                cases e : tl x with
                | nil => rw [e] at hlen; simp at hlen; omega
                | cons a b => exact ⟨a, b, rfl⟩
              have hat : x.cps[(0 : Int).toNat]? = some c0 := by
                rw [← Array.getElem?_toList]
                show (tl x)[0]? = some c0
                rw [hc0]
                rfl
              refine ⟨_, rfl, x, 0, c0, rfl, rfl, by decide, by decide, by omega, hat, rfl, ?_⟩
              have := k H2 s2
              rw [decide_eq_false e48, Bool.false_or, hc0] at this
              have eb : (!decide (V.str (⟨#[c0]⟩ : Str) = V.str "0")) = decide ((c0 :: r0).headD 0 ≠ 48) := by
                show _ = decide (c0 ≠ 48)
                by_cases z : c0 = 48
                · subst z
                  rw [decide_eq_true (show V.str (⟨#[48]⟩ : Str) = V.str "0" from congrArg V.str (ext_tl l0.symm)), decide_eq_false (fun h => h rfl)]
                  rfl
                · rw [decide_eq_false (show ¬ V.str (⟨#[c0]⟩ : Str) = V.str "0" from fun h => z (by
                    have h2 : ([c0] : List Nat) = [48] := (congrArg tl (V.str.inj h)).trans l0
                    exact (List.cons.inj h2).1)), decide_eq_true z]
                  rfl
              rw [eb]
              exact this
      · refine iteYes (fun z => h2 (by omega)) ?_
        refine bad ?_ _ (.refl _)
        unfold numB
        rw [decide_eq_false (show ¬ (tl x).length ≤ 31 by omega)]
        simp
    · refine iteDn (by omega) ?_
      refine ⟨_, rfl, ?_⟩
      refine iteT ?_
      refine bad ?_ _ (.refl _)
      unfold numB
      rw [decide_eq_false (show ¬ 1 ≤ (tl x).length by omega)]
      simp
end
end K0
end
section
set_option Elab.async false
set_option linter.all false
set_option maxRecDepth 100000
set_option maxHeartbeats 4000000
namespace K0
open PySem PySem.Spec PyProof.Rows L2 TL
/-! ### _is_line -/
def lineB (ns ms zc zw : List Str) : List Str → Bool
  | [a, b, c] => (if a = "call" then decide (b ∈ ns) && !decide (b ∈ zc) else decide (a = "water") && (decide (b ∈ ms) && !decide (b ∈ zw))) && numOk (tl c)
  | _ => false
def toldF (dc dw : Addr) (y : Str) : V := if y = "call" then .ref dc else .ref dw
def cwL : List Str := ["call", "water"]
abbrev toldK (dc dw : Addr) : List (Key × V) := kmap (toldF dc dw) cwL
abbrev scIsLine_N : List Str := ["rights", "told", "words", "names"]
abbrev scIsLine_S : Stmt := sIsLine
theorem scIsLine : FnScope scIsLine_N ["rights", "told", "words"] (defScope sIsLine) := ⟨rfl, rfl, rfl, by decide +kernel, rfl, by decide +kernel, by decide +kernel⟩
/-- what is told so far -/
structure Told (H : Hp) (T dc dw : Addr) (fc fw : Str → Nat) (zc zw : List Str) : Prop where
  at_ : H T = some (.dK (toldK dc dw))
  c : H dc = some (.dK (amK fc zc))
  w : H dw = some (.dK (amK fw zw))
theorem Told.same {H H' : Hp} {T dc dw : Addr} {fc fw : Str → Nat} {zc zw : List Str} (t : Told H T dc dw fc fw zc zw) (s : Same H H') : Told H' T dc dw fc fw zc zw := ⟨s _ _ t.at_, s _ _ t.c, s _ _ t.w⟩
def spIsLine (Cg Cr : Addr) : Sp := fun vs H Q _ => ∃ (g q T wl dc dw : Addr) (AR : List (Addr × Row)) (BR : List (Addr × RRow)) (fc fw : Str → Nat) (zc zw ws : List Str), vs = [.ref g, .ref T, .ref wl] ∧ RigOk Cg Cr H g q AR BR ∧ Told H T dc dw fc fw zc zw ∧ H wl = some (.lst (ws.map V.str)) ∧ 1 ≤ ws.length ∧ ws.length ≤ 6000 ∧ (∀ x ∈ ws, x.length ≤ 6000) ∧
  ∀ H', Same H H' → Q (.bl (lineB (rnm (bOf BR)) (namesOf AR) zc zw ws)) H'
section
variable {P : Program} {w : World} {K : PySem.W.Frag} {mg : Str → Option Value} {base : Heap} {tS tM tL : Tok}
theorem ok_isline {f fN Cg Cr : Addr} {fd fdN : FuncData} {tN tC : Tok} (F : FnP K "_is_line" sIsLine f fd) (Fis_numeral : FnP K "is_numeral" sNumeral fN fdN) (gis_numeral : mg "is_numeral" = some (.ref fN)) (gL : mg "LONGEST_NUMERAL" = some (.int 31 tN)) (gC : mg "MOST_CUBES" = some (.int mostI tC)) (TG : Rg K mg Cg) (T0 : Rv K mg Cr) (B : Bl mg) : FnOk P w K mg base CX0 2 f fd ["rights", "told", "words"] (spIsLine Cg Cr) := by
  have Gis_numeral : FnOk P w K mg base CX0 1 fN fdN ["word"] spNumeral := ok_numeral Fis_numeral B gL
  have bis_numeral : Binds K fdN ["word"] [] := Fis_numeral.bindsN fun _ _ _ _ _ _ us hl => match us, hl with | [_], _ => rfl
  refine F.ok scIsLine (fun vs H Q E h => ?_) (fun cdv A outer s H vs Q E hr h => ?_)
  · obtain ⟨g, q, T, wl, dc, dw, AR, BR, fc, fw, zc, zw, ws, rfl, _⟩ := h
    rfl
  · obtain ⟨g, q, T, wl, dc, dw, AR, BR, fc, fw, zc, zw, ws, rfl, R, t, hw, hw1, hw6, hws, kk⟩ := h
    have hu := hu_of hr
    have hris_numeral : Room 1 _ := hr
    refine ⟨_, PSs.nox (pss_cons
      (ps_if (PW.pt (pw_or (pt_cmpR op_ne (pe_callB (lenK (K := K)) (by rfl) B.len PySem.boot_len (pa_cons (pv 2) pa_nil)) pe_int (nomark _)) (pw_or1 (pt_cmp (pc_dnotin hu (pe_ix (ixLK (K := K)) (pv 2) pe_int (fun _ _ => rfl)) (pv 1)))))) (pss_one
      (ps_ret pe_bl)) pss_nil)
      (pss_cons
      (ps_set (i := 3) scIsLine.nd rfl (Or.inl rfl) (pe_ifExp (pt_cmpR op_eq (pe_ix (ixLK (K := K)) (pv 2) pe_int (fun _ _ => rfl)) pe_str (nomark _)) (fldK (K := K) (pv 0) rfl) (fldK (K := K) (fldK (K := K) (pv 0) rfl) rfl)))
      (pss_cons
      (ps_if (PW.pt (pw_or (pt_cmpR (notInK (K := K)) (pe_ix (ixLK (K := K)) (pv 2) pe_int (fun _ _ => rfl)) (pv 3) (by rfl)) (pw_or1 (pt_cmp (pc_din hu (pe_ix (ixLK (K := K)) (pv 2) pe_int (fun _ _ => rfl)) (pe_dget hu (pv 1) (pe_ix (ixLK (K := K)) (pv 2) pe_int (fun _ _ => rfl)) (fun _ _ => rfl))))))) (pss_one
      (ps_ret pe_bl)) pss_nil)
      (pss_one
      (ps_ret (pe_and (pe_call Gis_numeral hris_numeral (by rfl) gis_numeral Fis_numeral.kp bis_numeral .nil pass0 (pa_cons (pe_ix (ixLK (K := K)) (pv 2) pe_int (fun _ _ => rfl)) pa_nil)) (pe_one (pe_cmpR op_le (pe_callTy call_int_str (by rfl) B.int (by decide +kernel) (pa_cons (pe_ix (ixLK (K := K)) (pv 2) pe_int (fun _ _ => rfl)) pa_nil)) (pe_glob (v := .int mostI) (by rfl) gC ⟨_, rfl⟩) (nomark _))))))))), ?_⟩
    obtain ⟨dxg, tn, tr, dww, dl, dp, h1, h2, h3, h4, h5, h6, h7, h8⟩ := id R.at_.ex
    obtain ⟨dxq, tw, tqr, db, dcc, da, du, o, q1, q2, q3, q4, q5, q6, q7, q8, q9⟩ := id h2.ex
    refine ⟨_, rfl, wl, _, rfl, .inl (.inl (.inl hw)), ?_⟩
    refine ⟨rfl, _, rfl, ?_⟩
    have three : (∃ a b c, ws = [a, b, c]) ∨ ((ws.length ≠ 3) ∧ lineB (rnm (bOf BR)) (namesOf AR) zc zw ws = false) := by
      match ws with
      | [] => exact .inr ⟨by decide, rfl⟩
      | [_] => exact .inr ⟨by simp, rfl⟩
      | [_, _] => exact .inr ⟨by simp, rfl⟩
      | [a, b, c] => exact .inl ⟨a, b, c, rfl⟩
      | _ :: _ :: _ :: _ :: r => exact .inr ⟨by simp, rfl⟩
    rcases three with ⟨a, b, c, rfl⟩ | ⟨hn, hf⟩
    case inr =>
      have e3 : (!decide (V.int (((ws.map V.str).length : Nat) : Int) = V.int 3)) = true := by
        rw [decide_eq_false (show ¬ V.int (((ws.map V.str).length : Nat) : Int) = V.int 3 from fun z => by
          have := V.int.inj z
          rw [List.length_map] at this
          omega)]
        rfl
      rw [e3]
      refine iteT (iteT ?_)
      have := kk H (.refl _)
      rwa [hf] at this
    have e3 : (!decide (V.int ((([a, b, c].map V.str).length : Nat) : Int) = V.int 3)) = false := by
      rw [decide_eq_true (show V.int ((([a, b, c].map V.str).length : Nat) : Int) = V.int 3 from rfl)]
      rfl
    rw [e3]
    refine iteF ?_
    have hw0 : H wl = some (.lst [.str a, .str b, .str c]) := hw
    have hc6 := hws c (by simp)
    have done : ∀ bb, lineB (rnm (bOf BR)) (namesOf AR) zc zw [a, b, c] = bb → ∀ H', Same H H' → Q (.bl bb) H' := fun bb e H' s => by
      have := kk H' s
      rwa [e] at this
    have hlB : lineB (rnm (bOf BR)) (namesOf AR) zc zw [a, b, c] = ((if a = "call" then decide (b ∈ rnm (bOf BR)) && !decide (b ∈ zc) else decide (a = "water") && (decide (b ∈ namesOf AR) && !decide (b ∈ zw))) && numOk (tl c)) := rfl
    have ne : ¬ ("water" : Str) = "call" := by decide +kernel
    by_cases hcw : a ∈ cwL
    case neg =>
      have hna : ¬ a = "call" ∧ ¬ a = "water" := by
        constructor
        · exact fun e => hcw (by rw [e]; exact List.mem_cons_self)
        · exact fun e => hcw (by rw [e]; exact List.mem_cons_of_mem _ List.mem_cons_self)
      refine ⟨_, rfl, wl, _, _, .str a, rfl, rfl, .inl (.inl hw0), atI_nat (j := 0) rfl, _, rfl, T, none, rfl, .inl ⟨_, Sum.inr a, .inl t.at_, rfl, (kmap_not hcw).symm⟩, ?_⟩
      refine ⟨_, rfl, iteT ?_⟩
      refine done _ ?_ _ (.refl _)
      rw [hlB, if_neg hna.1, decide_eq_false hna.2]
      rfl
    refine ⟨_, rfl, wl, _, _, .str a, rfl, rfl, .inl (.inl hw0), atI_nat (j := 0) rfl, _, rfl, T, some (toldF dc dw a), rfl, .inl ⟨_, Sum.inr a, .inl t.at_, rfl, (kmap_at hcw).symm⟩, ?_⟩
    refine ⟨_, rfl, iteF ?_⟩
    have ix0 : atI [V.str a, .str b, .str c] 0 = some (.str a) := atI_nat (j := 0) rfl
    have ix1 : atI [V.str a, .str b, .str c] 1 = some (.str b) := atI_nat (j := 1) rfl
    have ix2 : atI [V.str a, .str b, .str c] 2 = some (.str c) := atI_nat (j := 2) rfl
    refine split_if' (α := Addr) (R := fun z => Rd H z (.tup ((if a = "call" then rnm (bOf BR) else namesOf AR).map V.str))) (C := ?C) ?use ?key
    case use =>
      intro key
      refine ⟨_, rfl, wl, _, _, .str a, rfl, rfl, .inl (.inl hw0), ix0, rfl, _, rfl, ?_⟩
      by_cases ha : a = "call"
      · rw [decide_eq_true (show V.str a = V.str "call" by rw [ha])]
        refine iteT ?_
        obtain ⟨z0, ez⟩ : ∃ z0, z0 = tn := ⟨_, rfl⟩
        refine ⟨_, rfl, g, Cg, dxg, _, .ref z0, rfl, h1, TG.cl, TG.names, by rw [ez]; exact rr6n _ _ _ _ _ _, ?_⟩
        have hz0 : Rd H z0 (.tup ((if a = "call" then rnm (bOf BR) else namesOf AR).map V.str)) := by rw [if_pos ha, ez]; exact h3.rd
        exact key z0 hz0
      · rw [decide_eq_false (show ¬ V.str a = V.str "call" from fun z => ha (V.str.inj z))]
        refine iteF ?_
        obtain ⟨z0, ez⟩ : ∃ z0, z0 = tw := ⟨_, rfl⟩
        refine ⟨_, rfl, g, Cg, dxg, _, _, rfl, h1, TG.cl, TG.river, rr6r _ _ _ _ _ _, q, Cr, dxq, _, .ref z0, rfl, q1, T0.cl, T0.weirs, by rw [ez]; exact g7w _ _ _ _ _ _ _, ?_⟩
        have hz0 : Rd H z0 (.tup ((if a = "call" then rnm (bOf BR) else namesOf AR).map V.str)) := by rw [if_neg ha, ez]; exact .inl q2
        exact key z0 hz0
    case key =>
      intro z hz
      generalize hl : (if a = "call" then rnm (bOf BR) else namesOf AR) = l at hz
      refine ⟨_, rfl, wl, _, _, .str b, rfl, rfl, .inl (.inl hw0), ix1, _, rfl, z, _, rfl, .inr (.inl hz), rfl, flat_strs _, _, rfl, ?_⟩
      rw [inV_str]
      have hbad : b ∉ l → lineB (rnm (bOf BR)) (namesOf AR) zc zw [a, b, c] = false := fun hb => by
        rw [hlB]
        by_cases ha : a = "call"
        · rw [if_pos ha] at hl ⊢
          rw [hl, decide_eq_false hb]
          rfl
        · rw [if_neg ha] at hl ⊢
          rw [hl, decide_eq_false hb]
          simp
      by_cases hb : b ∈ l
      case neg =>
        rw [decide_eq_false hb]
        refine iteT (iteT ?_)
        exact done _ (hbad hb) _ (.refl _)
      rw [decide_eq_true hb]
      refine iteF ?_
      obtain ⟨d0, f0, z0, e0, hd0, hline⟩ : ∃ (d0 : Addr) (f0 : Str → Nat) (z0 : List Str), toldF dc dw a = .ref d0 ∧ H d0 = some (.dK (amK f0 z0)) ∧ lineB (rnm (bOf BR)) (namesOf AR) zc zw [a, b, c] = (!decide (b ∈ z0) && numOk (tl c)) := by
        by_cases ha : a = "call"
        · refine ⟨dc, fc, zc, by unfold toldF; rw [if_pos ha], t.c, ?_⟩
          rw [hlB, if_pos ha]
          rw [if_pos ha] at hl
          rw [hl, decide_eq_true hb, Bool.true_and]
        · have ha2 : a = "water" := by
            rcases List.mem_cons.mp hcw with e | e
            · exact absurd e ha
            · exact List.mem_singleton.mp e
          refine ⟨dw, fw, zw, by unfold toldF; rw [if_neg ha], t.w, ?_⟩
          rw [hlB, if_neg ha, decide_eq_true ha2, Bool.true_and]
          rw [if_neg ha] at hl
          rw [hl, decide_eq_true hb, Bool.true_and]
      refine ⟨_, rfl, wl, _, _, .str b, rfl, rfl, .inl (.inl hw0), ix1, _, rfl, _, rfl, wl, _, _, .str a, rfl, rfl, .inl (.inl hw0), ix0, T, toldF dc dw a, rfl, .inl ⟨_, Sum.inr a, .inl t.at_, rfl, (kmap_at hcw).symm⟩, ?_⟩
      rw [e0]
      by_cases hbz : b ∈ z0
      · refine ⟨d0, some (.int (f0 b : Int)), rfl, .inl ⟨_, Sum.inr b, .inl hd0, rfl, (kmap_at (f := fun y => .int (f0 y : Int)) hbz).symm⟩, ?_⟩
        refine ⟨_, rfl, iteT ?_⟩
        refine done _ ?_ _ (.refl _)
        rw [hline, decide_eq_true hbz]
        rfl
      refine ⟨d0, none, rfl, .inl ⟨_, Sum.inr b, .inl hd0, rfl, (kmap_not hbz).symm⟩, ?_⟩
      refine ⟨_, rfl, iteF ?_⟩
      rw [decide_eq_false hbz] at hline
      refine ⟨_, rfl, wl, _, _, .str c, rfl, rfl, .inl (.inl hw0), ix2, c, rfl, hc6, fun H2 s2 => ?_⟩
      have hw2 := s2 _ _ hw0
      cases hnb : numB (tl c) with
      | false =>
        refine ⟨_, rfl, iteF ?_⟩
        refine done _ ?_ _ s2
        rw [hline]
        unfold numOk
        rw [hnb]
        rfl
      | true =>
        refine ⟨_, rfl, iteT ?_⟩
        have hl31 : (tl c).length ≤ 31 := by
          unfold numB at hnb
          rw [Bool.and_eq_true, Bool.and_eq_true] at hnb
          exact of_decide_eq_true hnb.1.2
        refine ⟨_, rfl, wl, _, _, .str c, rfl, rfl, .inl (.inl hw2), ix2, c, _, rfl, num_reads2 hnb, by rw [len_list]; show (tl c).length ≤ 640; omega, ?_⟩
        refine ⟨_, _, rfl, rfl, ?_⟩
        refine done _ ?_ _ s2
        rw [hline]
        unfold numOk
        rw [hnb]
        show decide (digV (tl c) ≤ mostC) = decide (((digV (tl c) : Nat) : Int) ≤ mostI)
        refine decide_eq_decide.mpr ?_
        show digV (tl c) ≤ 1000000000000000000000000000000 ↔ ((digV (tl c) : Nat) : Int) ≤ 1000000000000000000000000000000
        omega
end
end K0
end
section
set_option Elab.async false
set_option linter.all false
set_option maxRecDepth 100000
namespace PySem
open Sem PySem.Spec PyProof.Rows
/-! ### list.__repr__, whatever is under way -/
theorem k0_list_head {M : Model} {A : Around} {E : Value → Shared → Prop} {s : Shared} {Q : Fin → Shared → Prop} {a : Addr} {o : Obj} {x : Value} {l : List Value} {n} {b : Nat}
    (hget : s.heap.get? a = some o) (hd : o.data = .seq (x :: l).toArray n)
    (h : wpAny M A (do again (.builtin "list.__repr__.loop" ⟨[.ref a, rawInt 0, ← newList [], rawInt b], []⟩)) Q E s)
    (h2 : wpAny M A (do rule "list.__repr__.in-itself"; retStr "[...]") Q E s) : wpAny M A (Builtin.listReprAt b ⟨[.ref a], []⟩) Q E s := by
  intro Γ p hΓ
  have q1 := h Γ p hΓ
  have q2 := h2 Γ p hΓ
  unfold Builtin.listReprAt
  simp [slotArgs, Builtin.List.listItems, seqItems?, wp_load_of (h := hget), hd, stack]
  show wp M Γ (if (Γ.below.any _) = true then _ else _) _ _ p s
  split
  · exact q2
  · exact q1
section
variable {prog : Program} {w : World} {A : Around} {E : Value → Shared → Prop} {s : Shared} {a : Addr} {oa : Obj} {x : Value} {l : List Value} {na : Nat} {ts : List Str}
theorem k0_way : ("[...]" : Str).length ≤ 5 := by decide +kernel
theorem k0_list_fin {R : Result → Shared → Prop} {b : Nat}
    (ha : s.heap.get? a = some oa) (hda : oa.data = .seq (x :: l).toArray na) (hlen : ts.length = (x :: l).toArray.size)
    (hT : ∀ (i : Nat) (y : Value), (x :: l).toArray[i]? = some y → ∃ t, ts[i]? = some t ∧ ReprIs prog w y t)
    (hR : ∀ h' (m : Str) (u : Tok) tk, m.length ≤ (listText ts).length + 5 → (∀ b o, s.heap.get? b = some o → h'.get? b = some o) → R (.ok (.ret (.str m u))) { s with heap := h', toks := tk })
    (hsz : b + (listText ts).length ≤ sizeLine) :
    wpAny (model prog w) A.in1 (Builtin.listReprAt b ⟨[.ref a], []⟩)
      (fun fin s' => match fin with | .done f => R (.ok f) s' | .again c' => c'.quiet = true ∧ codeAny (model prog w) A c' R s') (fun e s' => R (.error e) s') s := by
  refine k0_list_head (A := A.in1) ha hda ?_ ?_
  · refine wpAny_bind (m := newList []) (wpAny_newObj_type ?_)
    refine wpAny_pure ⟨F.quiet_list_repr_loop _, ?_⟩
    refine codeAny_list_repr_start (P := s.heap.objs.size) (Nat.ne_of_lt (Heap.lt_size ha)) hlen hT (Heap.get?_push_of_some _ ha) hda (Heap.get?_push_size _ rfl) (fun h' u tk hk => ?_) hsz
    exact hR h' (listText ts) u tk (Nat.le_add_right _ _) fun b o e => hk b o (Nat.ne_of_lt (Heap.lt_size e)) (Heap.get?_push_of_some _ e)
  · refine wpAny_bind (wpAny_rule ?_)
    refine wpAny_bind (wpAny_mkStr (wpAny_pure ?_) (by decide +kernel))
    exact hR s.heap "[...]" _ _ (Nat.le_trans k0_way (Nat.le_add_left _ _)) fun _ _ e => e
theorem k0_list_repr {Q : Value → Shared → Prop} (hTy : s.TypeIs (.ref a) "list") (hu : A.units < cLine)
    (ha : s.heap.get? a = some oa) (hda : oa.data = .seq (x :: l).toArray na) (hlen : ts.length = (x :: l).toArray.size)
    (hT : ∀ (i : Nat) (y : Value), (x :: l).toArray[i]? = some y → ∃ t, ts[i]? = some t ∧ ReprIs prog w y t)
    (hQ : ∀ h' (m : Str) (u : Tok) tk, m.length ≤ (listText ts).length + 5 → (∀ b o, s.heap.get? b = some o → h'.get? b = some o) → Q (.str m u) { s with heap := h', toks := tk })
    (hsz : (listText ts).length ≤ sizeLine) : wpAny (model prog w) A (pyReprObj (.ref a)) Q E s := by
  refine wpAny_pyReprObj_slot hu hTy F.slot_list_repr.toG ?_
  refine wpAny_call (codeAny_call_builtin F.slot_list_repr.plain F.entry_list_repr (F.slot_list_repr.check _ _ _ _ _ _ _ _ hTy (F.args_list_repr_1 _)
    (k0_list_fin (b := 0) (R := fun r s' => match r with | .ok (.ret v) => ∃ x t, v = .str x t ∧ Q v s' | .ok _ => False | .error e => E e s') ha hda hlen hT (fun h' m u tk hm k => ⟨m, u, rfl, hQ h' m u tk hm k⟩) (by omega))))
end
end PySem
namespace L2
open PySem PySem.Spec PyProof.Rows
/-! ### {x!r} of a value that is no weir -/
def Plain (y : Str) : Prop := ∀ c ∈ y.cps.toList, c < 1114112
theorem Plain.hex {y : Str} (h : Plain y) : ∀ c ∈ y.cps.toList, c < 16 ^ 8 := fun c hc => Nat.lt_trans (h c hc) (by decide)
/-- values whose text is short: texts, None, a bool, a whole number, lists and tuples of texts -/
inductive Shown (K : PySem.W.Frag) (H : Hp) : V → Prop where
  | str (y : Str) (h : Plain y) (z : y.length ≤ 1000) : Shown K H (.str y)
  | non : Shown K H .non
  | bl (b : Bool) : Shown K H (.bl b)
  | int (i : Int) (h : i.natAbs.log2 < 1920) (z : (Str.ofString (toString i)).length ≤ 30000) : Shown K H (.int i)
  | lst {a : Addr} {l : List Str} (e : H a = some (.lst (l.map V.str))) (h : ∀ y ∈ l, Plain y) (z : fmtCost l ≤ 20000) : Shown K H (.ref a)
  | tup {a : Addr} {l : List Str} (e : H a = some (.tup (l.map V.str))) (h : ∀ y ∈ l, Plain y) (z : fmtCost l ≤ 20000) : Shown K H (.ref a)
theorem Shown.same {K : PySem.W.Frag} {H H' : Hp} {x : V} (h : Shown K H x) (s : ∀ b o, H b = some o → (∀ z1 z2 z3, o ≠ .ins z1 z2 z3) → H' b = some o) : Shown K H' x := by
  cases h with
  | str y h z => exact .str y h z
  | non => exact .non
  | bl b => exact .bl b
  | int i h z => exact .int i h z
  | lst e h z => exact .lst (s _ _ e (fun _ _ _ q => by cases q)) h z
  | tup e h z => exact .tup (s _ _ e (fun _ _ _ q => by cases q)) h z
def tShow (K : PySem.W.Frag) (te : TE) : TE := fun σ H Q => te σ H fun x H1 => Shown K H1 x ∧ ∀ m : Str, m.length ≤ 30000 → Q (.str m) H1
section
variable {X : Cx}
theorem piled_sum : ∀ ts : List Str, (ts.map (·.length)).sum + 2 * ts.length = piled ts
  | [] => rfl
  | t :: r => by
    have ih := piled_sum r
    rw [piled_cons, List.map_cons, List.sum_cons, List.length_cons]
    omega
theorem list_text (ts : List Str) : (listText ts).length ≤ piled ts + 2 := by
  have e2 : ((("]" : String) : Str)).length = 1 := rfl
  have h := textFrom_len_le ts 0 "["
  have e1 : ((("[" : String) : Str)).length = 1 := rfl
  have h3 := piled_sum ts
  show (textFrom 0 "[" ts ++ "]").length ≤ _
  rw [strLen_append, e2]
  omega
theorem k0_30 : 30000 ≤ sizeLine := by rw [sizeLine_eq]; omega
theorem pe_show {e : Expr} {te : TE} {pos : Pos} {k : Nat} (hr : Room k X.A) (he : PE X e te) : PE X (.FormattedValue e 114 none pos) (tShow X.K te) := by
  refine ⟨fun pins s σ H Q I h => ?_⟩
  refine wpAny_FormattedValue_repr (thn (he.run pins s σ H _ I h) fun v s1 hv => ?_)
  obtain ⟨x, H1, I1, r1, sh, q⟩ := hv
  have hu := hr.units
  have fin : ∀ (m : Str) (t : Tok) (s2 : Shared), Inv X pins σ H1 s2 → m.length ≤ 30000 → wpAny (model X.prog X.w) X.A (formatField (.str m t) Str.empty) (EP X pins σ Q) X.xe s2 := fun m t s2 I2 hm =>
    wpAny_formatField_str ⟨.str m, H1, I2, ⟨t, rfl⟩, q m hm⟩ ⟨.str m, H1, I2.tok _, ⟨_, rfl⟩, q m hm⟩ (Nat.le_trans hm k0_30)
  cases sh with
  | str y hc z =>
    obtain ⟨t, rfl⟩ := r1
    have h1 := StrLaws.reprText_len y hc.hex
    exact pyReprObj_str (fin _ _ _ (I1.tok _) (by omega)) (by have := k0_30; omega)
  | non =>
    cases r1
    exact pyReprObj_none (fin _ _ _ (I1.tok _) (by decide +kernel))
  | bl b =>
    cases r1
    refine pyReprObj_bool (fin _ _ _ (I1.tok _) ?_)
    cases b <;> decide +kernel
  | int i hi z =>
    obtain ⟨t, rfl⟩ := r1
    exact pyReprObj_int hi (fin _ _ _ (I1.tok _) z)
  | @lst a l ea hc z =>
    cases r1
    have hp := fmt_piled l fun y hy => (hc y hy).hex
    have ht := list_text (l.map reprText)
    have h30 := k0_30
    obtain ⟨u1, its, n, rv, ho⟩ := (show ObjOk X.prog X.w H1 s1.heap a (.lst (l.map V.str)) from I1.hok a _ ea)
    have hl : ∀ y ∈ l, (reprText y).length ≤ sizeLine := fun y hy => by
      have h1 := StrLaws.reprText_len y (hc y hy).hex
      have h2 := fmtCost_mem hy
      omega
    have hT : ∀ (i : Nat) (y : Value), its.toArray[i]? = some y → ∃ t, (l.map reprText)[i]? = some t ∧ ReprIs X.prog X.w y t := fun i y hy => by
      rw [List.getElem?_toArray] at hy
      have hlen := rv.length
      have hi : i < its.length := (List.getElem?_eq_some_iff.mp hy).1
      rw [List.length_map] at hlen
      have hi2 : i < l.length := by omega
      have e1 : (l.map V.str)[i]? = some (V.str l[i]) := by rw [List.getElem?_map, List.getElem?_eq_getElem hi2]; rfl
      obtain ⟨u, hu2, ru⟩ := rv.get e1
      rw [hy] at hu2
      have e2 := Option.some.inj hu2
      subst e2
      obtain ⟨t, rfl⟩ := ru
      exact ⟨reprText l[i], by rw [List.getElem?_map, List.getElem?_eq_getElem hi2]; rfl, ReprIs.str l[i] t (hl _ (List.getElem_mem hi2))⟩
    have hlen : (l.map reprText).length = its.toArray.size := by
      have hlen := rv.length
      rw [List.length_map] at hlen
      rw [List.length_map, List.size_toArray]
      exact hlen
    cases its with
    | nil => exact wpAny_pyReprObj_list_empty ⟨_, ho, rfl⟩ (by omega) ho rfl (fin _ _ _ (I1.tok _) (by decide +kernel))
    | cons u0 us => exact k0_list_repr ⟨_, ho, rfl⟩ (by omega) ho rfl hlen hT (fun h' m u tk hm k => fin m u _ (I1.kept k) (by omega)) (by omega)
  | @tup a l ea hc z =>
    cases r1
    have hp := fmt_piled l fun y hy => (hc y hy).hex
    have ht := fmt_text (l.map reprText)
    have h30 := k0_30
    obtain ⟨u1, its, rv, o, ho, hcl, n, hd⟩ := (show ObjOk X.prog X.w H1 s1.heap a (.tup (l.map V.str)) from I1.hok a _ ea)
    have hl : ∀ y ∈ l, (reprText y).length ≤ sizeLine := fun y hy => by
      have h1 := StrLaws.reprText_len y (hc y hy).hex
      have h2 := fmtCost_mem hy
      omega
    refine wpAny_pyReprObj_slot (by omega) ⟨o, ho, hcl⟩ F.slot_tuple_repr ?_
    exact fmt_tuple_repr (ts := l.map reprText) ho hcl hd (repr_all rv hl) (by omega) fun m u tk hm => ⟨m, u, rfl, fin m u _ (I1.tok _) (by omega)⟩
end
end L2
end
section
set_option Elab.async false
set_option linter.all false
set_option maxRecDepth 100000
set_option maxHeartbeats 1000000
namespace L2
open PySem PySem.Spec PyProof.Rows
open PySem.W (kxs_mw ks_superObj)
/-! ### an own exception whose __init__ says super().__init__(e) and self.f = v -/
/-- such an __init__, as the top has made it: C its class -/
structure SupF (P : Program) (K : PySem.W.Frag) (mg : Str → Option Value) (C : Addr) (x qual : Str) (params : Arguments) (body : List Stmt) (scope : Scope) (f : Addr) (fd : FuncData) : Prop where
  ex : ∃ (oc : Value) (od : Option Addr) (doc pm : Value) (cda : Addr) (ct : Value) (cc : Addr) (osl : Array (Option Value)),
    fd = PySem.W.ksFn x qual params body scope .none .none doc pm none (.ref cda) ct cc ∧ K.lookup f = some ⟨oc, od, .func fd, osl⟩ ∧ PySem.W.codeIn K (.ref cda) qual = true ∧
    (∃ (ccl : Value) (cdd : Option Addr) (vs : Array Value) (ccs : Array (Option Value)) (file : Str) (tf : Tok), K.lookup cda = some ⟨ccl, cdd, .fields vs, ccs⟩ ∧ vs[2]? = some (.str file tf) ∧ ((P.main.file : Str) == file) = true) ∧
    ∃ (cl : Value) (cld : Option Addr) (csl : Array (Option Value)), K.lookup cc = some ⟨cl, cld, .cell (some (.ref C)), csl⟩
  top : (P.main.scope.names.lookup ("super" : Str)).isSome = false
  exc : OexC K C
  sub : PySem.W.mroIn K C (.ref C) = some true
  subV : PySem.W.subIn K (.ref C) (.type "ValueError") = some true
  sup : PySem.W.ks_superIn K C C "__init__" = some (some (.builtin "ValueError.__init__"))
  opq : PySem.W.nsIn K cStatics "thirdparty.any" = some none
  sg : mg "super" = none
section
variable {X : Cx} {pins : List (Addr × Obj)} {σ : St} {H : Hp} {s : Shared} {a C u : Addr} {E : Value → Shared → Prop} {A : Around}
/-- the built-in __init__, bound to the object, called -/
theorem k0_mw_call {us : List Value} {Q : Value → Shared → Prop} (T : OexC X.K C) (I : Inv X pins σ H s) (e : H a = some (exo a C none)) (hu : s.heap.get? u = some (kxs_mw "ValueError.__init__" a)) (hl : us.length ≤ sizeLine) (h : ∀ s', Inv X pins σ H s' → Q .none s') :
    wpAny (model X.prog X.w) A (call (.ref u) us) Q E s := by
  obtain ⟨nm, q, N, bs, bm, sn, sub, ab, col, dd, k0, k1, k2, k3, k5, hC, hbm⟩ := T.cls
  obtain ⟨t1, ho⟩ := exo_at I.hok e
  have hC' := I.kIn _ _ hC
  obtain ⟨hh, g, d, tk, os⟩ := s
  refine wpAny_call (codeAny_of_tree ?_)
  show wpAny _ A.in1 (callAny (.ref u) ⟨us, []⟩) _ _ _
  simp only [callAny]
  refine wpAny_bind (wpAny_load hu ?_)
  simp only [kxs_mw, show (Value.type "method-wrapper" == Value.type "method" || Value.type "method-wrapper" == Value.type "builtin_function_or_method" || Value.type "method-wrapper" == Value.type "method-wrapper") = true by decide, if_true]
  refine PySem.W.KFB.if_so (by decide) ?_
  refine wpAny_bind (PySem.W.check_bound_init F.excBase_ValueError.toExcCallFacts hC' ho rfl ?_)
  refine wpAny_bind (wpAny_pure (wpAny_pure ?_))
  refine ⟨plainId_quiet F.excBase_ValueError.init.plain _, codeAny_builtin F.excBase_ValueError.initEntry ?_⟩
  refine PySem.W.exc_init_tree (cls := .ref C) (t0 := t1) (dv := none) (c2 := .none) (c3 := .none) (b4 := .bool false) ho hl fun h' k e' t' => ?_
  have J := I.write (t' := tk) (x := a) (e := a) (o := exo a C none) (by rw [e]; exact True.intro) (.inl rfl) k ⟨_, e'⟩ (exo_ok e')
  have eu : upd H a (exo a C none) = H := by
    funext b
    by_cases hb : b = a
    · rw [hb, upd_same, e]
    · rw [upd_ne hb]
  rw [eu] at J
  exact h _ J
end

/-! ### its body walked -/
abbrev supScope : Scope := { kind := .function, names := [("self", .local), ("name", .local), ("__class__", .free), ("super", .globalImplicit)], isGenerator := false, isCoroutine := false, more := [] }
abbrev supN : List Str := ["self", "name", "__class__"]
theorem supNS : NdefX.NScope supN ["self", "name"] ["__class__"] supScope := NdefX.nscope_by (by decide +kernel)
def spSup (K : PySem.W.Frag) (C : Addr) : Sp := fun vs H Q _ => ∃ (a : Addr) (x : V), vs = [.ref a, x] ∧ H a = some (exo a C none) ∧ Shown K H x ∧
  ∀ dx, H dx = none → dx ≠ a → Q .non (upd (upd H dx (exd dx [(("name" : Str), x)])) a (exo a C (some dx)))
section
variable {P : Program} {w : World} {K : PySem.W.Frag} {mg : Str → Option Value} {base : Heap} {C f : Addr} {fd : FuncData} {x qual : Str} {params : Arguments}
theorem ok_sup {txt : Str} {n : Nat} {p0 p1 p2 p3 p4 p5 p6 p7 p8 p9 p10 p11 p12 : Pos} {ar : Arg} (hp : (params.posonlyargs ++ params.args).head? = some ar) (har : ar.arg = "self") (htx : txt.length ≤ 1000)
    (S : SupF P K mg C x qual params [.Expr (.Call (.Attribute (.Call (.Name "super" p0) [] [] p1) "__init__" p2) [.JoinedStr [.Constant (.str txt) n p3, .FormattedValue (.Name "name" p4) 114 none p5] p6] [] p7) p8, .Assign [.Attribute (.Name "self" p9) "name" p10] (.Name "name" p11) p12] supScope f fd)
    (hno : PySem.W.findIn K (.ref C) "name" = some none)
    (he : ∀ (q : Str) (L f0 : Addr) (cd : Value) (cl : List (Str × Addr)), ∃ pl : Sem Bool, eval (.Call (.Attribute (.Call (.Name "super" p0) [] [] p1) "__init__" p2) [.JoinedStr [.Constant (.str txt) n p3, .FormattedValue (.Name "name" p4) 114 none p5] p6] [] p7) (PySem.W.envX q supScope L f0 cd cl) = (do
      let ov ← attributeBase (.Call (.Name "super" p0) [] [] p1) "__init__" (PySem.W.envX q supScope L f0 cd cl) (eval (.Call (.Name "super" p0) [] [] p1) (PySem.W.envX q supScope L f0 cd cl))
      standAt p2.atName
      let (f, first) ← holding [ov] (getMethod ov "__init__" pl)
      callWith p7 f first (backTo p7 (starEach [.JoinedStr [.Constant (.str txt) n p3, .FormattedValue (.Name "name" p4) 114 none p5] p6] (PySem.W.envX q supScope L f0 cd cl))) [])) :
    FnOk P w K mg base CX0 1 f fd ["self", "name"] (spSup K C) := by
  obtain ⟨oc, od, doc, pm, cda, ct, cc, osl, rfl, lk, hcd, ⟨ccl, cdd, cvs, ccs, file, tf, hcode, hvs, hfile⟩, cl, cld, csl, hcell⟩ := S.ex
  refine ⟨fun vs H Q E h => ?_, fun A outer s H args us vs Q E hr e0 hb r hsp => ?_⟩
  · obtain ⟨a, y, rfl, _⟩ := h
    rfl
  obtain ⟨a, y, rfl, ha, sh, k⟩ := hsp
  have KX : K.In s.heap := e0.mod.kin.keeps fun b o e => (e0.bs b o e).1
  have lim : s.heap.NoLimit := e0.mod.nolimit.keeps fun b o e => (e0.bs b o e).1
  have kN : ∀ {b : Addr} {o : Obj}, K.lookup b = some o → H b = none := fun e => (e0.bs _ _ (e0.mod.kin _ _ e)).2
  refine ks_codeAny_call_defAt hr.depth (KX _ _ lk) rfl lim (PySem.W.codeRec_of KX hcd) rfl hb (show ∀ y ∈ supScope.names, y.2 ≠ .cell by decide) (fun ⟨n, v⟩ hy => ?_) (fun h₁ hns kp => ?_)
  · have := supNS.par n (List.of_mem_zip hy).1
    exact this
  have CA : NdefX.CellsAt [(("__class__" : Str), cc)] ["__class__"] [some (V.ref C)] s.heap H := {
    len := rfl
    all := fun y c e => by
      have e2 : c = cc := by
        by_cases hy : y = "__class__"
        · subst hy
          simpa [List.lookup] using e.symm
        · have : (y == ("__class__" : Str)) = false := by simpa using hy
          simp [List.lookup, this] at e
      subst e2
      exact ⟨kN hcell, ⟨_, ⟨_, KX _ _ hcell, rfl⟩⟩⟩
    inj := fun y1 y2 c e1 e2 => by
      have key : ∀ {y : Str}, List.lookup y [(("__class__" : Str), cc)] = some c → y = "__class__" := fun {y} e => by
        by_cases hy : y = "__class__"
        · exact hy
        · have : (y == ("__class__" : Str)) = false := by simpa using hy
          simp [List.lookup, this] at e
      rw [key e1, key e2]
    has := fun i y e => by
      cases i with
      | zero =>
        cases e
        refine ⟨cc, by simp [List.lookup], fun v e2 => ?_⟩
        cases e2
        exact ⟨.ref C, rfl, ⟨_, KX _ _ hcell, rfl⟩⟩
      | succ i => cases e }
  have I0 := NdefX.inv_startN (CX := CX0) (E := E) (f := f) (tk := s.toks + ((["self", "name"] : List Str).zip us).length) (F := ⟨x, qual, params, [.Expr (.Call (.Attribute (.Call (.Name "super" p0) [] [] p1) "__init__" p2) [.JoinedStr [.Constant (.str txt) n p3, .FormattedValue (.Name "name" p4) 114 none p5] p6] [] p7) p8, .Assign [.Attribute (.Name "self" p9) "name" p10] (.Name "name" p11) p12], supScope, [("__class__", cc)], cda⟩) supNS hr.hd e0 rfl r CA hns kp
  generalize hs1 : ({ s with heap := h₁, toks := s.toks + ((["self", "name"] : List Str).zip us).length } : Shared) = s1 at I0
  obtain ⟨pl, hpl⟩ := he qual s.heap.objs.size f (.ref cda) [(("__class__" : Str), cc)]
  refine ks_wpAt_execs_cons (ks_wpAt_Expr_any (ks_wpAt_MethodCall (pl := pl) ?_ hpl))
  have hmg : mg "super" = none := S.sg
  have hos := exo_at I0.hok ha
  obtain ⟨t1, ho⟩ := hos
  obtain ⟨nm, q, N, bs, bm, sn, sub, ab, col, dd, k0, k1, k2, k3, k5, hC, hbm⟩ := S.exc.cls
  have hC1 := I0.kIn _ _ hC
  obtain ⟨mb, hb1, hb2⟩ := I0.mod.blt
  obtain ⟨m, hm, hlook⟩ := I0.loc
  have hself : m "self" = some (.ref a) := by
    obtain ⟨u, ru, lk2⟩ := hlook 0 "self" (.ref a) rfl rfl (.inl rfl)
    cases ru
    rcases lk2 with ⟨_, e⟩ | ⟨e, _⟩
    · exact e
    · exfalso
      revert e
      show ¬ ((List.lookup ("self" : Str) supScope.names = some .cell) ∨ (List.lookup ("self" : Str) supScope.names = some .free))
      decide
  refine ks_wpAt_super_base rfl rfl (by decide) rfl (I0.kIn _ _ lk) rfl hp rfl (I0.kIn _ _ hcode) rfl hvs hfile S.top ?_
  rw [har]
  refine PySem.W.ks_loadName_global rfl rfl (Calls.loadGlobal_builtin (I0.mod.glob.keeps I0.bk) hmg (hb1.keeps I0.bk) ((hb2 "super" (by decide)).trans Boot.super) ⟨rfl, ?_⟩)
  refine wpAny_loadName_free rfl rfl rfl ⟨_, I0.kIn _ _ hcell, rfl⟩ ?_
  refine wpAny_loadName_local rfl rfl hm hself ?_
  refine ks_wpAny_isType_cls hC1 rfl ⟨rfl, ?_⟩
  clear hs1
  obtain ⟨hh, g, d, tk, os⟩ := s1
  refine ks_wpAny_call_super hC1 rfl ho rfl (fun c e => by cases e) (PySem.W.looks_mroIn I0.kIn S.sub) (fun h' e kk => ?_)
  have I1 := I0.kept (h' := h') (t' := tk) kk
  have hcls : PySem.W.clsIn K C = some { name := nm, bases := bs, mro := .ref C :: bm, ns := N, qualname := q, hasDict := true, slotNames := sn, subclasses := sub, abstract := ab, collection := col, hasDel := false } := by unfold PySem.W.clsIn; rw [hC]
  have hsup := S.sup
  unfold PySem.W.ks_superIn at hsup
  rw [hcls] at hsup
  have J : PySem.W.InstAt h' a { cls := .ref C, dict := none, data := .fields #[.ref t1, .none, .none, .none, .bool false, .none] } C none := ⟨kk _ _ ho, rfl, rfl, trivial⟩
  refine PySem.W.kxs_getMethod PySem.W.kxs_ValueError e (PySem.W.looks_opaque I1.kIn S.opq) (l₀ := .ref C :: bm) (fun A Q E s k q => wpAny_bind ((PySem.W.looks_clsIn I1.kIn hcls) A _ E s k (wpAny_pure q))) rfl I1.kIn hsup (J.type.andThen (PySem.W.looks_subIn I1.kIn S.subV)) (PySem.W.ks_ne I1.kIn J hcls) (by decide) ?_
  have I2 := I1.kept (h' := h'.push (kxs_mw "ValueError.__init__" a)) (t' := tk + 1) fun b o e => Heap.get?_push_of_some _ e
  have hu0 : (h'.push (kxs_mw "ValueError.__init__" a)).get? h'.objs.size = some (kxs_mw "ValueError.__init__" a) := Heap.get?_push_size _ rfl
  have I3 := I2.pins_of (pins' := [(h'.objs.size, kxs_mw "ValueError.__init__" a)]) fun p hp => by
    cases List.mem_singleton.mp hp
    exact ⟨hu0, I1.hok.fresh (Nat.le_refl _), Nat.ne_of_gt I1.lt, I1.nofs (Nat.le_refl _), fun v z => by cases z⟩
  generalize h'.push (kxs_mw "ValueError.__init__" a) = h2 at hu0 I2 I3
  have hrX : Room 0 (A.deeper (NdefX.envF ⟨x, qual, params, [.Expr (.Call (.Attribute (.Call (.Name "super" p0) [] [] p1) "__init__" p2) [.JoinedStr [.Constant (.str txt) n p3, .FormattedValue (.Name "name" p4) 114 none p5] p6] [] p7) p8, .Assign [.Attribute (.Name "self" p9) "name" p10] (.Name "name" p11) p12], supScope, [(("__class__" : Str), cc)], cda⟩ f s.heap.objs.size)) := hr.deeper _
  show wpAny _ _ (callWith p7 (.ref h'.objs.size) [] (backTo p7 (starEach [.JoinedStr [.Constant (.str txt) n p3, .FormattedValue (.Name "name" p4) 114 none p5] p6] _)) []) _ _ _
  refine PySem.W.kxs_callWith (i := "ValueError.__init__") (x := a) rfl (PySem.Calls.evalArgs_plain ?_)
  have hPA : PA (NdefX.ncx CX0 P w K mg base supN ⟨x, qual, params, [.Expr (.Call (.Attribute (.Call (.Name "super" p0) [] [] p1) "__init__" p2) [.JoinedStr [.Constant (.str txt) n p3, .FormattedValue (.Name "name" p4) 114 none p5] p6] [] p7) p8, .Assign [.Attribute (.Name "self" p9) "name" p10] (.Name "name" p11) p12], supScope, [(("__class__" : Str), cc)], cda⟩ f A outer s H E) [.JoinedStr [.Constant (.str txt) n p3, .FormattedValue (.Name "name" p4) 114 none p5] p6] _ :=
    pa_cons (pe_joined (.cons pe_str (.cons (pe_show hrX (pv 1)) .nil))) pa_nil
  have hz : ∀ m : Str, m.length ≤ 30000 → (Str.empty ++ txt ++ m).length ≤ sizeLine := fun m hm => by
    have h30 : 40000 ≤ sizeLine := by rw [sizeLine_eq]; omega
    have e0 : Str.empty.length = 0 := rfl
    rw [strLen_append, strLen_append, e0]
    omega
  have hz0 : (Str.empty ++ txt).length ≤ sizeLine := by
    have h30 : 40000 ≤ sizeLine := by rw [sizeLine_eq]; omega
    have e0 : Str.empty.length = 0 := rfl
    rw [strLen_append, e0]
    omega
  refine thn (hPA.run p7 _ _ _ H (fun vs H2 => H2 = H ∧ ∃ m : Str, vs = [.str m]) I3 ?_) fun us s3 ⟨vs, H3, I4, r4, eH, m4, ev⟩ => ?_
  · refine ⟨txt, rfl, hz0, y, rfl, sh, fun m hm => ⟨m, rfl, hz m hm, rfl, _, rfl⟩⟩
  subst ev
  have eH2 : H = H3 := eH.symm
  clear eH
  subst eH2
  obtain ⟨u4, rfl, _⟩ := vals1 r4
  have hu3 : s3.heap.get? h'.objs.size = some (kxs_mw "ValueError.__init__" a) := (I4.pin _ (List.mem_append_right _ (List.mem_singleton.mpr rfl))).1
  refine ⟨hu3, ?_⟩
  show wpAny _ _ (call (.ref h'.objs.size) [u4]) _ _ _
  have I5 := I4.pins_of (pins' := []) fun p hp => by cases hp
  refine k0_mw_call S.exc I5 ha hu3 (by rw [sizeLine_eq]; show 1 ≤ _; omega) fun s5 I6 => ?_
  refine wpAt_of_wpAny ?_
  have hP2 : PSs (NdefX.ncx CX0 P w K mg base supN ⟨x, qual, params, [.Expr (.Call (.Attribute (.Call (.Name "super" p0) [] [] p1) "__init__" p2) [.JoinedStr [.Constant (.str txt) n p3, .FormattedValue (.Name "name" p4) 114 none p5] p6] [] p7) p8, .Assign [.Attribute (.Name "self" p9) "name" p10] (.Name "name" p11) p12], supScope, [(("__class__" : Str), cc)], cda⟩ f A outer s H E) [.Assign [.Attribute (.Name "self" p9) "name" p10] (.Name "name" p11) p12] _ :=
    pss_one (ps_ost (pv 0) (pv 1))
  refine wpAny_mono (hP2.run [] s5 _ H { nx := fun _ H' => Q .non H', rt := Q } I6 ⟨y, rfl, .ref a, rfl, a, C, rfl, S.exc, hno, .inl ⟨ha, fun dx h1 h2 => k dx h1 h2⟩⟩) (fun fl s' hs => ?_) fun e s' hs => hs
  cases fl with
  | ret u =>
    obtain ⟨v, σ', H', J, rv, q⟩ := hs
    exact ⟨v, H', J.os, J.bare, J.base, J.hok, rv, q⟩
  | next =>
    obtain ⟨σ', H', J, q⟩ := hs
    exact ⟨.non, H', J.os, J.bare, J.base, J.hok, rfl, q⟩
  | brk =>
    obtain ⟨_, _, _, q⟩ := hs
    exact False.elim q
  | cont =>
    obtain ⟨_, _, _, q⟩ := hs
    exact False.elim q
end
end L2
end
section
set_option Elab.async false
set_option linter.all false
set_option maxRecDepth 100000
set_option maxHeartbeats 4000000
namespace L2
open PySem PySem.Spec PyProof.Rows
/-! ### several except clauses, each with a name for the error or without -/
/-- a clause: its class, the slot of its name, its suite's reading -/
structure Clause where
  cls : Value
  slot : Option Nat
  ts : Addr → Value → Option Addr → TS
/-- what is wanted behind a clause's suite: its name is gone -/
def endsC (D : Ends) : Option Nat → Ends
  | none => D
  | some i => { nx := fun σ H => D.nx (σ.set i none) H, rt := D.rt, bk := fun σ H => D.bk (σ.set i none) H, ct := fun σ H => D.ct (σ.set i none) H }
def inC (σ : St) (a : Addr) : Option Nat → St
  | none => σ
  | some i => σ.set i (some (.ref a))
def wCl (K : PySem.W.Frag) (Wout : WX) (D : Ends) : List Clause → WX
  | [] => Wout
  | c :: r => fun cls d σ H => ∃ b, PySem.W.exmOne K cls c.cls = some b ∧ (b = true → ∀ a, H a = none → c.ts a cls d (endsC D c.slot) (inC σ a c.slot) H) ∧ (b = false → wCl K Wout D r cls d σ H)
/-- the name of a clause and its slot go together -/
def NameC (X : Cx) : Option Str → Option Nat → Prop
  | none, none => True
  | some n, some i => X.N.Nodup ∧ X.N[i]? = some n ∧ X.env.kindOf n = some .local
  | _, _ => False
inductive Clauses (X : Cx) : List ExceptHandler → List Clause → Prop
  | done : Clauses X [] []
  | more {x : Str} {nm : Option Str} {c : Clause} {b₀ : Stmt} {suite : List Stmt} {np p' : Pos} {hds : List ExceptHandler} {l : List Clause} (hc : Names X x c.cls) (hn : NameC X nm c.slot)
      (hsu : ∀ (a : Addr) (oe : Obj) (cls : Value) (d : Option Addr) (pn : List (Addr × Obj)), Zc cls d oe → (∃ vs, oe.data = .fields vs) → PSs (X.suite a ((a, oe) :: pn)) (b₀ :: suite) (c.ts a cls d)) (r : Clauses X hds l) :
      Clauses X (.ExceptHandler (some (.Name x np)) nm (b₀ :: suite) p' :: hds) (c :: l)
section
variable {X : Cx} {body : List Stmt} {h₀ : ExceptHandler} {hds : List ExceptHandler} {l : List Clause} {pos : Pos} {tb : WX → TS} {Wout : WX}
theorem k0_try_named (hs : X.stack = X.env :: X.outer) (hf : X.env.frame = some X.env.locals) (tk : Takes X Wout)
    (hb : ∀ (W : WX) (pn : List (Addr × Obj)) (xe : Value → Shared → Prop), Takes (X.tr pn xe) W → PassesOwn (model X.prog X.w) X.A X.env xe → PSs (X.tr pn xe) body (tb W))
    (hh : Clauses X (h₀ :: hds) l) : PS X (.Try body (h₀ :: hds) [] [] pos) (fun D σ H => tb (wCl X.K Wout D l) D σ H) := by
  refine ⟨fun pins s σ H D I h => wpAny_Try_except ?_⟩
  have ok := I.ok
  have hfr : X.A.frames = some (X.env :: X.outer) := ok.frames.trans (by rw [hs])
  -- an exception comes to the clauses
  have caught : ∀ (xe0 : Value → Shared → Prop) (u : Value) (s1 : Shared), XE (X.tr (X.pn ++ pins) xe0) (wCl X.K Wout D l) u s1 →
      wpAny (model X.prog X.w) X.A (noteFrame u X.env) (fun _ s2 => wpAny (model X.prog X.w) X.A (setFlight u none) (fun _ s3 => wpAny (model X.prog X.w) X.A (handleBy u X.env (h₀ :: hds)) (SP X pins D) X.xe s3) X.xe s2) X.xe s1 := by
    rintro xe0 u s1 ⟨a, B, sI, q0, σ1, H1, cls, d, rfl, J0, nb, up, sky, na, os, ag, w⟩
    have J : Inv X pins σ1 H1 sI := J0.ofTry ok
    have sky' : Sky B (X.env :: X.outer) a (Zc cls d) X.env.locals s1.heap := hs ▸ sky
    refine Sky.land Zc.steady hfr hf sky' fun h3 fl up3 => ?_
    obtain ⟨oe, vs, he, hz, hd⟩ := fl.there
    have Jh : Inv X pins σ1 H1 { s1 with heap := h3 } := J.landed nb fl.1 (up.trans up3) os ag
    have away : a ∉ frs (X.env :: X.outer) := fun hm => by
      obtain ⟨_, o2, e2, n2⟩ := fl.2.2.1.mem hm
      rw [he] at e2
      cases e2
      exact n2 _ hd
    have nL : a ≠ X.env.locals := fun z => away (List.mem_filterMap.mpr ⟨X.env, List.mem_cons_self, hf.trans (by rw [z])⟩)
    have nF : a ∉ X.fs := fun hm => by
      obtain ⟨e, he2, q⟩ := List.mem_filterMap.mp hm
      exact away (List.mem_filterMap.mpr ⟨e, List.mem_cons_of_mem _ he2, q⟩)
    have Sh := Jh.suite he hd na nL nF
    have LT : PySem.W.Looks (model X.prog X.w) h3 (typeOf (.ref a)) cls := fun A Q E s k q => wpAny_typeOf_ref (k _ _ he) (hz.1 ▸ q)
    suffices key : ∀ (hds : List ExceptHandler) (l : List Clause), Clauses X hds l → wCl X.K Wout D l cls d σ1 H1 → wpAny (model X.prog X.w) X.A (handleBy (.ref a) X.env hds) (SP X pins D) X.xe { s1 with heap := h3 } from key _ _ hh w
    intro hds l hk
    induction hk with
    | done =>
      -- no clause takes it: it goes on
      intro wo
      refine wpAny_handleBy_nil ?_
      obtain ⟨_, _, _, oe', vs', T, _, _, he', _, hd', hf1, _⟩ := id fl
      have out : wpAny (model X.prog X.w) X.A (setFlight (.ref a) X.env.frame) (fun _ s4 => wpAny (model X.prog X.w) X.A (throw (.ref a) : Sem Flow) (SP X pins D) X.xe s4) X.xe { s1 with heap := h3 } := by
        rw [hf]
        exact HandSPX.setFlight_upZ fl fun h4 held up4 => wpAny_throw (tk _ _ ⟨a, B, sI, pins, σ1, H1, cls, d, rfl, J, nb, (up.trans up3).trans up4, .inr (.inr (hs ▸ held)), na, os, ag, wo⟩)
      unfold PySem.passOn
      refine wpAny_bind (wpAny_field he' hd' hf1 ?_)
      rw [if_neg (fun z => by cases z)]
      first
        | exact wpAny_bind out
        | exact wpAny_bind (wpAny_pure (wpAny_bind out))
    | @more x nm c b₀ suite np p' hds l hc hn hsu r ih =>
      rintro ⟨b, hb1, yes, no⟩
      have named : ∀ {Q : Value → Shared → Prop} {E : Value → Shared → Prop}, Q c.cls { s1 with heap := h3 } → wpAny (model X.prog X.w) (X.A.mark (some (.ref a))) (eval (.Name x np) X.env) Q E { s1 with heap := h3 } := fun {Q E} q => by
        rcases hc with ⟨hg, hdb, hm | ⟨hm, hv, hnn⟩⟩
        · exact ld_glob (X := X.suite a ((a, oe) :: (X.pn ++ pins))) Sh hg hm q hdb
        · exact ld_blt (X := X.suite a ((a, oe) :: (X.pn ++ pins))) Sh hg hm hv q hnn hdb
      refine wpAny_handleBy_cons (codeAny_handlers_test (named ((PySem.W.exm_one (M := model X.prog X.w) Jh.kIn LT hb1).here ?_))) (fun z => by cases z)
      cases b with
      | false => exact (show wpAny _ X.A (handleBy (.ref a) X.env hds) _ _ _ from ih (no rfl))
      | true =>
        have ys := yes rfl a na
        match nm, hcs : c.slot, hn with
        | none, none, _ =>
          rw [hcs] at ys
          refine codeAny_handlers_suite (HandSPX.lands_againZ fl fun h4 fl4 up4 => ?_)
          obtain ⟨oe4, vs4, he4, hz4, hd4⟩ := fl4.there
          have J4 : Inv X pins σ1 H1 { s1 with heap := h4 } := J.landed nb fl4.1 ((up.trans up3).trans up4) os ag
          have S4 := J4.suite he4 hd4 na nL nF
          refine wpAny_mono ((hsu a oe4 cls d (X.pn ++ pins) hz4 ⟨_, hd4⟩).run [] _ _ H1 _ S4 ys) (fun f s6 q => ?_) (fun _ _ z => False.elim z)
          cases f with
          | ret u => exact let ⟨v6, σ6, H6, S6, r6, q6⟩ := q; ⟨v6, σ6, H6, S6.unsuite ok, r6, q6⟩
          | next => exact let ⟨σ6, H6, S6, q6⟩ := q; ⟨σ6, H6, S6.unsuite ok, q6⟩
          | brk => exact let ⟨σ6, H6, S6, q6⟩ := q; ⟨σ6, H6, S6.unsuite ok, q6⟩
          | cont => exact let ⟨σ6, H6, S6, q6⟩ := q; ⟨σ6, H6, S6.unsuite ok, q6⟩
        | some n, some i, ⟨hN, hi, hln⟩ =>
          rw [hcs] at ys
          refine codeAny_handlers_suite_as (HandSPX.lands_againZ fl fun h4 fl4 up4 => ?_)
          obtain ⟨oe4, vs4, he4, hz4, hd4⟩ := fl4.there
          have J4 : Inv X pins σ1 H1 { s1 with heap := h4 } := J.landed nb fl4.1 ((up.trans up3).trans up4) os ag
          have S4 := J4.suite he4 hd4 na nL nF
          refine store_ok (X := X.suite a ((a, oe4) :: (X.pn ++ pins))) (v := .ref a) S4 hN hi (.inl hln) rfl (fun s5 S5 => ?_) (.inr hln)
          refine wpAny_mono ((hsu a oe4 cls d (X.pn ++ pins) hz4 ⟨_, hd4⟩).run [] s5 _ H1 _ S5 ys) (fun f s6 q => ?_) (fun _ _ z => False.elim z)
          have gone : ∀ {σ6 : St} {H6 : Hp} {Q : Shared → Prop}, Inv (X.suite a ((a, oe4) :: (X.pn ++ pins))) [] σ6 H6 s6 → (∀ s7, Inv X pins (σ6.set i none) H6 s7 → Q s7) → wpAny (model X.prog X.w) X.A (do bindName X.env n .none; unbindBehindTheSuite X.env n p') (fun _ s7 => Q s7) X.xe s6 := fun S6 k => gone_ok (S6.unsuite ok) hN hi hln k
          cases f with
          | ret u => exact let ⟨v6, σ6, H6, S6, r6, q6⟩ := q; gone S6 fun s7 J7 => ⟨_, _, _, J7, r6, q6⟩
          | next => exact let ⟨σ6, H6, S6, q6⟩ := q; gone S6 fun s7 J7 => ⟨_, _, J7, q6⟩
          | brk => exact let ⟨σ6, H6, S6, q6⟩ := q; gone S6 fun s7 J7 => ⟨_, _, J7, q6⟩
          | cont => exact let ⟨σ6, H6, S6, q6⟩ := q; gone S6 fun s7 J7 => ⟨_, _, J7, q6⟩
  refine wpAny_mono ((hb (wCl X.K Wout D l) (X.pn ++ pins) (fun u s1 => wpAny (model X.prog X.w) X.A (noteFrame u X.env) (fun _ s2 => wpAny (model X.prog X.w) X.A (setFlight u none) (fun _ s3 => wpAny (model X.prog X.w) X.A (handleBy u X.env (h₀ :: hds)) (SP X pins D) X.xe s3) X.xe s2) X.xe s1)
    (fun u s1 x => caught _ u s1 x) PassesOwn.looking).run [] s σ H D (I.toTry _) h) (fun f s1 q => ?_) fun _ _ z => z
  · cases f with
    | ret u => exact let ⟨v, σ1, H1, J1, r1, q1⟩ := q; ⟨v, σ1, H1, J1.ofTry ok, r1, q1⟩
    | next => exact let ⟨σ1, H1, J1, q1⟩ := q; wpAny_execs_nil ⟨σ1, H1, J1.ofTry ok, q1⟩
    | brk => exact let ⟨σ1, H1, J1, q1⟩ := q; ⟨σ1, H1, J1.ofTry ok, q1⟩
    | cont => exact let ⟨σ1, H1, J1, q1⟩ := q; ⟨σ1, H1, J1.ofTry ok, q1⟩
end
end L2
end
section
set_option Elab.async false
set_option linter.all false
set_option maxRecDepth 100000
set_option maxHeartbeats 1000000
namespace L2
open PySem PySem.Spec PyProof.Rows
open PySem.W (kxs_mw ks_superObj)
theorem line_small {i : Int} (h1 : -1 ≤ i) (h2 : i ≤ 90) : i.natAbs.log2 < 1920 ∧ (toString i : Str).length ≤ 30000 := by
  have key : ∀ n : Fin 92, ((n.val : Int) - 1).natAbs.log2 < 1920 ∧ (Str.ofString (toString ((n.val : Int) - 1))).length ≤ 30000 := by decide +kernel
  have := key ⟨(i + 1).toNat, by omega⟩
  have e : (((i + 1).toNat : Nat) : Int) - 1 = i := by omega
  simp only [e] at this
  exact this
/-! ### its body walked -/
abbrev supScopeL : Scope := { kind := .function, names := [("self", .local), ("line", .local), ("__class__", .free), ("super", .globalImplicit)], isGenerator := false, isCoroutine := false, more := [] }
abbrev supNL : List Str := ["self", "line", "__class__"]
theorem supNSL : NdefX.NScope supNL ["self", "line"] ["__class__"] supScopeL := NdefX.nscope_by (by decide +kernel)
def spSupL (K : PySem.W.Frag) (C : Addr) : Sp := fun vs H Q _ => ∃ (a : Addr) (i : Int), vs = [.ref a, .int i] ∧ H a = some (exo a C none) ∧ -1 ≤ i ∧ i ≤ 90 ∧
  ∀ dx, H dx = none → dx ≠ a → Q .non (upd (upd H dx (exd dx [(("line" : Str), .int i)])) a (exo a C (some dx)))
section
variable {P : Program} {w : World} {K : PySem.W.Frag} {mg : Str → Option Value} {base : Heap} {C f : Addr} {fd : FuncData} {x qual : Str} {params : Arguments}
theorem ok_supL {txt : Str} {n : Nat} {p0 p1 p2 p3 p4 p5 p6 p7 p8 p9 p10 p11 p12 : Pos} {ar : Arg} (hp : (params.posonlyargs ++ params.args).head? = some ar) (har : ar.arg = "self") (htx : txt.length ≤ 1000)
    (S : SupF P K mg C x qual params [.Expr (.Call (.Attribute (.Call (.Name "super" p0) [] [] p1) "__init__" p2) [.JoinedStr [.Constant (.str txt) n p3, .FormattedValue (.Name "line" p4) (-1) none p5] p6] [] p7) p8, .Assign [.Attribute (.Name "self" p9) "line" p10] (.Name "line" p11) p12] supScopeL f fd)
    (hno : PySem.W.findIn K (.ref C) "line" = some none)
    (he : ∀ (q : Str) (L f0 : Addr) (cd : Value) (cl : List (Str × Addr)), ∃ pl : Sem Bool, eval (.Call (.Attribute (.Call (.Name "super" p0) [] [] p1) "__init__" p2) [.JoinedStr [.Constant (.str txt) n p3, .FormattedValue (.Name "line" p4) (-1) none p5] p6] [] p7) (PySem.W.envX q supScopeL L f0 cd cl) = (do
      let ov ← attributeBase (.Call (.Name "super" p0) [] [] p1) "__init__" (PySem.W.envX q supScopeL L f0 cd cl) (eval (.Call (.Name "super" p0) [] [] p1) (PySem.W.envX q supScopeL L f0 cd cl))
      standAt p2.atName
      let (f, first) ← holding [ov] (getMethod ov "__init__" pl)
      callWith p7 f first (backTo p7 (starEach [.JoinedStr [.Constant (.str txt) n p3, .FormattedValue (.Name "line" p4) (-1) none p5] p6] (PySem.W.envX q supScopeL L f0 cd cl))) [])) :
    FnOk P w K mg base CX0 1 f fd ["self", "line"] (spSupL K C) := by
  obtain ⟨oc, od, doc, pm, cda, ct, cc, osl, rfl, lk, hcd, ⟨ccl, cdd, cvs, ccs, file, tf, hcode, hvs, hfile⟩, cl, cld, csl, hcell⟩ := S.ex
  refine ⟨fun vs H Q E h => ?_, fun A outer s H args us vs Q E hr e0 hb r hsp => ?_⟩
  · obtain ⟨a, y, rfl, _⟩ := h
    rfl
  obtain ⟨a, y, rfl, ha, hy1, hy2, k⟩ := hsp
  have KX : K.In s.heap := e0.mod.kin.keeps fun b o e => (e0.bs b o e).1
  have lim : s.heap.NoLimit := e0.mod.nolimit.keeps fun b o e => (e0.bs b o e).1
  have kN : ∀ {b : Addr} {o : Obj}, K.lookup b = some o → H b = none := fun e => (e0.bs _ _ (e0.mod.kin _ _ e)).2
  refine ks_codeAny_call_defAt hr.depth (KX _ _ lk) rfl lim (PySem.W.codeRec_of KX hcd) rfl hb (show ∀ y ∈ supScopeL.names, y.2 ≠ .cell by decide) (fun ⟨n, v⟩ hy => ?_) (fun h₁ hns kp => ?_)
  · have := supNSL.par n (List.of_mem_zip hy).1
    exact this
  have CA : NdefX.CellsAt [(("__class__" : Str), cc)] ["__class__"] [some (V.ref C)] s.heap H := {
    len := rfl
    all := fun y c e => by
      have e2 : c = cc := by
        by_cases hy : y = "__class__"
        · subst hy
          simpa [List.lookup] using e.symm
        · have : (y == ("__class__" : Str)) = false := by simpa using hy
          simp [List.lookup, this] at e
      subst e2
      exact ⟨kN hcell, ⟨_, ⟨_, KX _ _ hcell, rfl⟩⟩⟩
    inj := fun y1 y2 c e1 e2 => by
      have key : ∀ {y : Str}, List.lookup y [(("__class__" : Str), cc)] = some c → y = "__class__" := fun {y} e => by
        by_cases hy : y = "__class__"
        · exact hy
        · have : (y == ("__class__" : Str)) = false := by simpa using hy
          simp [List.lookup, this] at e
      rw [key e1, key e2]
    has := fun i y e => by
      cases i with
      | zero =>
        cases e
        refine ⟨cc, by simp [List.lookup], fun v e2 => ?_⟩
        cases e2
        exact ⟨.ref C, rfl, ⟨_, KX _ _ hcell, rfl⟩⟩
      | succ i => cases e }
  have I0 := NdefX.inv_startN (CX := CX0) (E := E) (f := f) (tk := s.toks + ((["self", "line"] : List Str).zip us).length) (F := ⟨x, qual, params, [.Expr (.Call (.Attribute (.Call (.Name "super" p0) [] [] p1) "__init__" p2) [.JoinedStr [.Constant (.str txt) n p3, .FormattedValue (.Name "line" p4) (-1) none p5] p6] [] p7) p8, .Assign [.Attribute (.Name "self" p9) "line" p10] (.Name "line" p11) p12], supScopeL, [("__class__", cc)], cda⟩) supNSL hr.hd e0 rfl r CA hns kp
  generalize hs1 : ({ s with heap := h₁, toks := s.toks + ((["self", "line"] : List Str).zip us).length } : Shared) = s1 at I0
  obtain ⟨pl, hpl⟩ := he qual s.heap.objs.size f (.ref cda) [(("__class__" : Str), cc)]
  refine ks_wpAt_execs_cons (ks_wpAt_Expr_any (ks_wpAt_MethodCall (pl := pl) ?_ hpl))
  have hmg : mg "super" = none := S.sg
  have hos := exo_at I0.hok ha
  obtain ⟨t1, ho⟩ := hos
  obtain ⟨nm, q, N, bs, bm, sn, sub, ab, col, dd, k0, k1, k2, k3, k5, hC, hbm⟩ := S.exc.cls
  have hC1 := I0.kIn _ _ hC
  obtain ⟨mb, hb1, hb2⟩ := I0.mod.blt
  obtain ⟨m, hm, hlook⟩ := I0.loc
  have hself : m "self" = some (.ref a) := by
    obtain ⟨u, ru, lk2⟩ := hlook 0 "self" (.ref a) rfl rfl (.inl rfl)
    cases ru
    rcases lk2 with ⟨_, e⟩ | ⟨e, _⟩
    · exact e
    · exfalso
      revert e
      show ¬ ((List.lookup ("self" : Str) supScopeL.names = some .cell) ∨ (List.lookup ("self" : Str) supScopeL.names = some .free))
      decide
  refine ks_wpAt_super_base rfl rfl (by decide) rfl (I0.kIn _ _ lk) rfl hp rfl (I0.kIn _ _ hcode) rfl hvs hfile S.top ?_
  rw [har]
  refine PySem.W.ks_loadName_global rfl rfl (Calls.loadGlobal_builtin (I0.mod.glob.keeps I0.bk) hmg (hb1.keeps I0.bk) ((hb2 "super" (by decide)).trans Boot.super) ⟨rfl, ?_⟩)
  refine wpAny_loadName_free rfl rfl rfl ⟨_, I0.kIn _ _ hcell, rfl⟩ ?_
  refine wpAny_loadName_local rfl rfl hm hself ?_
  refine ks_wpAny_isType_cls hC1 rfl ⟨rfl, ?_⟩
  clear hs1
  obtain ⟨hh, g, d, tk, os⟩ := s1
  refine ks_wpAny_call_super hC1 rfl ho rfl (fun c e => by cases e) (PySem.W.looks_mroIn I0.kIn S.sub) (fun h' e kk => ?_)
  have I1 := I0.kept (h' := h') (t' := tk) kk
  have hcls : PySem.W.clsIn K C = some { name := nm, bases := bs, mro := .ref C :: bm, ns := N, qualname := q, hasDict := true, slotNames := sn, subclasses := sub, abstract := ab, collection := col, hasDel := false } := by unfold PySem.W.clsIn; rw [hC]
  have hsup := S.sup
  unfold PySem.W.ks_superIn at hsup
  rw [hcls] at hsup
  have J : PySem.W.InstAt h' a { cls := .ref C, dict := none, data := .fields #[.ref t1, .none, .none, .none, .bool false, .none] } C none := ⟨kk _ _ ho, rfl, rfl, trivial⟩
  refine PySem.W.kxs_getMethod PySem.W.kxs_ValueError e (PySem.W.looks_opaque I1.kIn S.opq) (l₀ := .ref C :: bm) (fun A Q E s k q => wpAny_bind ((PySem.W.looks_clsIn I1.kIn hcls) A _ E s k (wpAny_pure q))) rfl I1.kIn hsup (J.type.andThen (PySem.W.looks_subIn I1.kIn S.subV)) (PySem.W.ks_ne I1.kIn J hcls) (by decide) ?_
  have I2 := I1.kept (h' := h'.push (kxs_mw "ValueError.__init__" a)) (t' := tk + 1) fun b o e => Heap.get?_push_of_some _ e
  have hu0 : (h'.push (kxs_mw "ValueError.__init__" a)).get? h'.objs.size = some (kxs_mw "ValueError.__init__" a) := Heap.get?_push_size _ rfl
  have I3 := I2.pins_of (pins' := [(h'.objs.size, kxs_mw "ValueError.__init__" a)]) fun p hp => by
    cases List.mem_singleton.mp hp
    exact ⟨hu0, I1.hok.fresh (Nat.le_refl _), Nat.ne_of_gt I1.lt, I1.nofs (Nat.le_refl _), fun v z => by cases z⟩
  generalize h'.push (kxs_mw "ValueError.__init__" a) = h2 at hu0 I2 I3
  have hrX : Room 0 (A.deeper (NdefX.envF ⟨x, qual, params, [.Expr (.Call (.Attribute (.Call (.Name "super" p0) [] [] p1) "__init__" p2) [.JoinedStr [.Constant (.str txt) n p3, .FormattedValue (.Name "line" p4) (-1) none p5] p6] [] p7) p8, .Assign [.Attribute (.Name "self" p9) "line" p10] (.Name "line" p11) p12], supScopeL, [(("__class__" : Str), cc)], cda⟩ f s.heap.objs.size)) := hr.deeper _
  show wpAny _ _ (callWith p7 (.ref h'.objs.size) [] (backTo p7 (starEach [.JoinedStr [.Constant (.str txt) n p3, .FormattedValue (.Name "line" p4) (-1) none p5] p6] _)) []) _ _ _
  refine PySem.W.kxs_callWith (i := "ValueError.__init__") (x := a) rfl (PySem.Calls.evalArgs_plain ?_)
  have hPA : PA (NdefX.ncx CX0 P w K mg base supNL ⟨x, qual, params, [.Expr (.Call (.Attribute (.Call (.Name "super" p0) [] [] p1) "__init__" p2) [.JoinedStr [.Constant (.str txt) n p3, .FormattedValue (.Name "line" p4) (-1) none p5] p6] [] p7) p8, .Assign [.Attribute (.Name "self" p9) "line" p10] (.Name "line" p11) p12], supScopeL, [(("__class__" : Str), cc)], cda⟩ f A outer s H E) [.JoinedStr [.Constant (.str txt) n p3, .FormattedValue (.Name "line" p4) (-1) none p5] p6] _ :=
    pa_cons (pe_joined (.cons pe_str (.cons (pe_fmt (pv 1)) .nil))) pa_nil
  have hz : ∀ m : Str, m.length ≤ 30000 → (Str.empty ++ txt ++ m).length ≤ sizeLine := fun m hm => by
    have h30 : 40000 ≤ sizeLine := by rw [sizeLine_eq]; omega
    have e0 : Str.empty.length = 0 := rfl
    rw [strLen_append, strLen_append, e0]
    omega
  have hz0 : (Str.empty ++ txt).length ≤ sizeLine := by
    have h30 : 40000 ≤ sizeLine := by rw [sizeLine_eq]; omega
    have e0 : Str.empty.length = 0 := rfl
    rw [strLen_append, e0]
    omega
  refine thn (hPA.run p7 _ _ _ H (fun vs H2 => H2 = H ∧ ∃ m : Str, vs = [.str m]) I3 ?_) fun us s3 ⟨vs, H3, I4, r4, eH, m4, ev⟩ => ?_
  · obtain ⟨q1, q2⟩ := line_small hy1 hy2
    exact ⟨txt, rfl, hz0, _, rfl, .inr ⟨y, rfl, q1, ⟨_, rfl, hz _ q2, rfl, _, rfl⟩⟩⟩
  subst ev
  have eH2 : H = H3 := eH.symm
  clear eH
  subst eH2
  obtain ⟨u4, rfl, _⟩ := vals1 r4
  have hu3 : s3.heap.get? h'.objs.size = some (kxs_mw "ValueError.__init__" a) := (I4.pin _ (List.mem_append_right _ (List.mem_singleton.mpr rfl))).1
  refine ⟨hu3, ?_⟩
  show wpAny _ _ (call (.ref h'.objs.size) [u4]) _ _ _
  have I5 := I4.pins_of (pins' := []) fun p hp => by cases hp
  refine k0_mw_call S.exc I5 ha hu3 (by rw [sizeLine_eq]; show 1 ≤ _; omega) fun s5 I6 => ?_
  refine wpAt_of_wpAny ?_
  have hP2 : PSs (NdefX.ncx CX0 P w K mg base supNL ⟨x, qual, params, [.Expr (.Call (.Attribute (.Call (.Name "super" p0) [] [] p1) "__init__" p2) [.JoinedStr [.Constant (.str txt) n p3, .FormattedValue (.Name "line" p4) (-1) none p5] p6] [] p7) p8, .Assign [.Attribute (.Name "self" p9) "line" p10] (.Name "line" p11) p12], supScopeL, [(("__class__" : Str), cc)], cda⟩ f A outer s H E) [.Assign [.Attribute (.Name "self" p9) "line" p10] (.Name "line" p11) p12] _ :=
    pss_one (ps_ost (pv 0) (pv 1))
  refine wpAny_mono (hP2.run [] s5 _ H { nx := fun _ H' => Q .non H', rt := Q } I6 ⟨_, rfl, .ref a, rfl, a, C, rfl, S.exc, hno, .inl ⟨ha, fun dx h1 h2 => k dx h1 h2⟩⟩) (fun fl s' hs => ?_) fun e s' hs => hs
  cases fl with
  | ret u =>
    obtain ⟨v, σ', H', J, rv, q⟩ := hs
    exact ⟨v, H', J.os, J.bare, J.base, J.hok, rv, q⟩
  | next =>
    obtain ⟨σ', H', J, q⟩ := hs
    exact ⟨.non, H', J.os, J.bare, J.base, J.hok, rfl, q⟩
  | brk =>
    obtain ⟨_, _, _, q⟩ := hs
    exact False.elim q
  | cont =>
    obtain ⟨_, _, _, q⟩ := hs
    exact False.elim q
end
end L2
namespace K0
open PySem PySem.Spec PyProof.Rows L2
/-! ### a wrong line is told -/
abbrev sNTx : Stmt := inClass (top 5) 0
structure NpT (P : Program) (K : PySem.W.Frag) (mg : Str → Option Value) (Cn f : Addr) (fd : FuncData) : Prop where
  S : SupF P K mg Cn "__init__" "NotText.__init__" (defArgs sNTx) (defBody sNTx) (defScope sNTx) f fd
  hno : PySem.W.findIn K (.ref Cn) "line" = some none
  iC : PySem.W.findIn K (.ref Cn) "__init__" = some (some (.ref f))
  tI : PySem.W.typeIn K (.ref f) = some (.type "function")
  mgN : mg "NotText" = some (.ref Cn)
/-- a line is told -/
def TellsL (E : XK) (Cn : Addr) (i : Int) (H : Hp) : Prop := ∀ H' dd, Same H H' → H' dd = none → E (.ref Cn) (some dd) (upd H' dd (.xd [(("line" : Str), .int i)]))
theorem TellsL.same {E : XK} {Cn : Addr} {i : Int} {H H' : Hp} (h : TellsL E Cn i H) (s : Same H H') : TellsL E Cn i H' := fun H2 dd s2 n => h H2 dd (s.trans s2) n
section
variable {P : Program} {w : World} {K : PySem.W.Frag} {mg : Str → Option Value} {base : Heap} {tS tM tL : Tok}
theorem ok_nottext {Cn f : Addr} {fd : FuncData} (N : NpT P K mg Cn f fd) : FnOk P w K mg base CX0 1 f fd ["self", "line"] (spSupL K Cn) :=
  ok_supL rfl rfl (by decide +kernel) N.S N.hno (fun _ _ _ _ _ => ⟨_, rfl⟩)
theorem binds_nt {Cn f : Addr} {fd : FuncData} (N : NpT P K mg Cn f fd) : Binds K fd ["self", "line"] [] := by
  obtain ⟨oc, od, doc, pm, cda, ct, cc, osl, rfl, _⟩ := N.S.ex
  exact .all fun us hl => match us, hl with | [_, _], _ => rfl
theorem told_nt {Cn : Addr} {H : Hp} {i : Int} {a : Addr} {E : XK} (T : TellsL E Cn i H) (na : H a = none) {dx : Addr} (n1 : (upd H a (exo a Cn none)) dx = none) (n2 : dx ≠ a) :
    E (.ref Cn) (some dx) (upd (del (upd (upd (upd H a (exo a Cn none)) dx (exd dx [(("line" : Str), .int i)])) a (exo a Cn (some dx))) a) dx (.xd [(("line" : Str), .int i)])) := by
  rw [upd_ne n2] at n1
  have e : upd (del (upd (upd (upd H a (exo a Cn none)) dx (exd dx [(("line" : Str), .int i)])) a (exo a Cn (some dx))) a) dx (.xd [(("line" : Str), .int i)]) = upd H dx (.xd [(("line" : Str), .int i)]) := by
    funext b
    by_cases hd : b = dx
    · rw [hd, upd_same, upd_same]
    · rw [upd_ne hd, upd_ne hd]
      by_cases ha : b = a
      · rw [ha, del_same, na]
      · rw [del_ne ha, upd_ne ha, upd_ne hd, upd_ne ha]
  rw [e]
  exact T H dx (.refl _) n1
end
end K0
end
section
set_option Elab.async false
set_option linter.all false
set_option maxRecDepth 100000
set_option maxHeartbeats 2000000
namespace K0
open PySem PySem.Spec PyProof.Rows L2 TL
/-! ### words of lines -/
theorem spl_ne (S : List Nat) : ∀ (L acc : List Nat), spl S 0 acc L ≠ []
  | [], acc => by rw [spl_nil]; simp
  | c :: r, acc => by
    cases h : pre S (c :: r) with
    | true => rw [spl_hit h]; simp
    | false => rw [spl_miss h]; exact spl_ne S r _
theorem spl_in (s : Nat) : ∀ (L acc : List Nat) (p : List Nat), p ∈ spl [s] 0 acc L → (∀ c ∈ p, c ∈ acc ++ L) ∧ p.length ≤ acc.length + L.length
  | [], acc, p, h => by
    rw [spl_nil, List.mem_singleton] at h
    subst h
    exact ⟨fun c hc => List.mem_append_left _ hc, Nat.le_add_right _ _⟩
  | c :: r, acc, p, h => by
    cases hp : pre [s] (c :: r) with
    | true =>
      rw [spl_hit hp] at h
      rcases List.mem_cons.mp h with rfl | h
      · exact ⟨fun c hc => List.mem_append_left _ hc, Nat.le_add_right _ _⟩
      · obtain ⟨a, b⟩ := spl_in s r [] p h
        refine ⟨fun d hd => List.mem_append_right _ (List.mem_cons_of_mem _ (by simpa using a d hd)), ?_⟩
        rw [List.length_nil, Nat.zero_add] at b
        rw [List.length_cons]
        omega
    | false =>
      rw [spl_miss hp] at h
      obtain ⟨a, b⟩ := spl_in s r (acc ++ [c]) p h
      refine ⟨fun d hd => by simpa [List.append_assoc] using a d hd, ?_⟩
      rw [List.length_append, List.length_singleton] at b
      rw [List.length_cons]
      omega
theorem spl_cnt (s : Nat) : ∀ (L acc : List Nat), (spl [s] 0 acc L).length ≤ L.length + 1
  | [], acc => by rw [spl_nil]; simp
  | c :: r, acc => by
    cases h : pre [s] (c :: r) with
    | true =>
      rw [spl_hit h, List.length_cons, List.length_cons]
      have := spl_cnt s r []
      exact Nat.succ_le_succ this
    | false =>
      rw [spl_miss h, List.length_cons]
      have := spl_cnt s r (acc ++ [c])
      omega
def wOf (l : Str) : List Str := Txt.split l " "
theorem tl_sp : tl " " = [32] := by decide +kernel
theorem tl_nl : tl "\n" = [10] := by decide +kernel
theorem wOf_tl (l : Str) : (wOf l).map tl = spl [32] 0 [] (tl l) := by
  unfold wOf
  rw [split_spl l " " (by rw [tl_sp]; simp) (kind_ok (by decide +kernel)), tl_sp]
theorem wOf_pos (l : Str) : 0 < (wOf l).length := by
  have := wOf_tl l
  refine List.length_pos_iff.mpr fun e => ?_
  rw [e] at this
  exact spl_ne _ _ _ this.symm
theorem wOf_cnt (l : Str) : (wOf l).length ≤ (tl l).length + 1 := by
  have := congrArg List.length (wOf_tl l)
  rw [List.length_map] at this
  rw [this]
  exact spl_cnt 32 _ _
theorem wOf_in {l y : Str} (h : y ∈ wOf l) : (∀ c ∈ tl y, c ∈ tl l) ∧ (tl y).length ≤ (tl l).length := by
  have : tl y ∈ (wOf l).map tl := List.mem_map_of_mem h
  rw [wOf_tl] at this
  obtain ⟨a, b⟩ := spl_in 32 _ _ _ this
  exact ⟨fun c hc => by simpa using a c hc, by simpa using b⟩
/-- lines of a text -/
structure LnsD (ls : List Str) : Prop where
  one : ls ≠ []
  most : ls.length ≤ 170
  nl : ∀ l ∈ ls, (10 : Nat) ∉ tl l
  len : ∀ l ∈ ls, (tl l).length ≤ 5200
theorem linesD_back {ls : List Str} (h : LnsD ls) : Txt.split (Txt.join "\n" ls) "\n" = ls :=
  split_join tl_nl (by decide +kernel) h.one fun l hl => h.nl l hl
theorem joinL_len (s : Nat) : ∀ {ps : List (List Nat)} {m : Nat}, (∀ p ∈ ps, p.length ≤ m) → (joinL [s] ps).length ≤ ps.length * (m + 1)
  | [], m, _ => by simp [joinL]
  | [p], m, h => by
    have := h p List.mem_cons_self
    simp only [joinL, List.length_singleton]
    omega
  | p :: q :: r, m, h => by
    have h1 := h p List.mem_cons_self
    have h2 := joinL_len s (ps := q :: r) (m := m) fun z hz => h z (List.mem_cons_of_mem _ hz)
    show (p ++ ([s] ++ joinL [s] (q :: r))).length ≤ _
    rw [List.length_append, List.length_append, List.length_singleton, List.length_cons, Nat.succ_mul]
    omega
theorem joinedD_len {ls : List Str} (h : LnsD ls) : (Txt.join "\n" ls).length ≤ 884170 := by
  rw [len_tl, join_eq, tl_join, tl_nl]
  have := joinL_len 10 (ps := ls.map tl) (m := 5200) fun p hp => by
    obtain ⟨l, hl, rfl⟩ := List.mem_map.mp hp
    exact h.len l hl
  rw [List.length_map] at this
  have := h.most
  have : ls.length * (5200 + 1) ≤ 170 * 5201 := Nat.mul_le_mul_right _ this
  omega
theorem wordsD {l : Str} (h : (tl l).length ≤ 5200) : 1 ≤ (wOf l).length ∧ (wOf l).length ≤ 6000 ∧ ∀ y ∈ wOf l, y.length ≤ 6000 := by
  have h2 := wOf_cnt l
  refine ⟨wOf_pos l, by omega, fun y hy => ?_⟩
  obtain ⟨a, b⟩ := wOf_in hy
  rw [len_tl]
  omega
end K0
end
section
set_option Elab.async false
set_option linter.all false
set_option maxRecDepth 100000
set_option maxHeartbeats 2000000
namespace K0
open PySem PySem.Spec PyProof.Rows L2 TL
/-! ### what lines tell -/
abbrev headW (l : Str) : Str := (wOf l).headD ""
abbrev w1 (l : Str) : Str := (wOf l).getD 1 ""
abbrev w2 (l : Str) : Str := (wOf l).getD 2 ""
def addL (x : Str) (ls : List Str) : List (Str × Nat) := (ls.filter fun l => decide (headW l = x)).map fun l => (w1 l, digV (tl (w2 l)))
theorem addL_snoc (x : Str) (ls : List Str) (l : Str) : addL x (ls ++ [l]) = addL x ls ++ (if headW l = x then [(w1 l, digV (tl (w2 l)))] else []) := by
  unfold addL
  rw [List.filter_append, List.map_append]
  by_cases h : headW l = x
  · rw [if_pos h, List.filter_cons_of_pos (by rw [decide_eq_true h])]
    rfl
  · rw [if_neg h, List.filter_cons_of_neg (by rw [decide_eq_false h]; exact Bool.false_ne_true)]
    rfl
/-- what pairs tell of a name, 0 for what they leave out -/
def fP (L : List (Str × Nat)) (y : Str) : Nat := match L.find? (fun q => decide (q.1 = y)) with
  | some q => q.2
  | none => 0
abbrev keysL (L : List (Str × Nat)) : List Str := L.map (·.1)
theorem fP_not {L : List (Str × Nat)} {y : Str} (h : y ∉ keysL L) : fP L y = 0 := by
  unfold fP
  have : L.find? (fun q => decide (q.1 = y)) = none := List.find?_eq_none.mpr fun q hq => by
    rw [decide_eq_true_eq]
    exact fun e => h (List.mem_map.mpr ⟨q, hq, e⟩)
  rw [this]
theorem fP_snoc {L : List (Str × Nat)} {b : Str} {v : Nat} (h : b ∉ keysL L) (y : Str) : fP (L ++ [(b, v)]) y = if y = b then v else fP L y := by
  unfold fP
  rw [List.find?_append]
  by_cases e : y = b
  · subst e
    rw [if_pos rfl]
    have : L.find? (fun q => decide (q.1 = y)) = none := List.find?_eq_none.mpr fun q hq => by
      rw [decide_eq_true_eq]
      exact fun e => h (List.mem_map.mpr ⟨q, hq, e⟩)
    rw [this, Option.none_or, List.find?_cons_of_pos (by exact decide_eq_true rfl)]
  · rw [if_neg e]
    have e2 : ([(b, v)] : List (Str × Nat)).find? (fun q => decide (q.1 = y)) = none := by
      rw [List.find?_cons_of_neg (by rw [decide_eq_false fun z => e z.symm]; exact Bool.false_ne_true)]
      rfl
    rw [e2, Option.or_none]
theorem fP_mem {L : List (Str × Nat)} (hn : (keysL L).Nodup) {q : Str × Nat} (hq : q ∈ L) : fP L q.1 = q.2 := by
  unfold fP
  induction L with
  | nil => cases hq
  | cons z r ih =>
    rw [keysL, List.map_cons, List.nodup_cons] at hn
    rcases List.mem_cons.mp hq with rfl | hq
    · rw [List.find?_cons_of_pos (by exact decide_eq_true rfl)]
    · have hne : z.1 ≠ q.1 := fun e => hn.1 (by rw [e]; exact List.mem_map.mpr ⟨q, hq, rfl⟩)
      rw [List.find?_cons_of_neg (by rw [decide_eq_false hne]; exact Bool.false_ne_true)]
      exact ih hn.2 hq
theorem fP_most {L : List (Str × Nat)} (h : ∀ q ∈ L, q.2 ≤ mostC) (y : Str) : fP L y ≤ mostC := by
  unfold fP
  split
  · rename_i q hq
    exact h q (List.mem_of_find?_eq_some hq)
  · exact Nat.zero_le _
theorem fill_fP (L : List (Str × Nat)) : fillN (fP L) (keysL L) = fP L := funext fun y => by
  unfold fillN
  by_cases h : y ∈ keysL L
  · rw [if_pos h]
  · rw [if_neg h, fP_not h]
theorem put_pair {L : List (Str × Nat)} {b : Str} {v : Nat} (h : b ∉ keysL L) : putK (amK (fP L) (keysL L)) (Sum.inr b) (.int (v : Int)) = amK (fP (L ++ [(b, v)])) (keysL (L ++ [(b, v)])) := by
  have e1 : amK (fP L) (keysL L) = amK (fP (L ++ [(b, v)])) (keysL L) := kmap_congr fun y hy => by
    have e0 : ¬ y = b := fun e => h (by rw [← e]; exact hy)
    rw [fP_snoc h, if_neg e0]
  have e2 : V.int (v : Int) = V.int (fP (L ++ [(b, v)]) b : Int) := by rw [fP_snoc h, if_pos rfl]
  rw [e1, e2]
  have := kmap_put (f := fun y => V.int (fP (L ++ [(b, v)]) y : Int)) h
  rw [show keysL (L ++ [(b, v)]) = keysL L ++ [b] from List.map_append]
  exact this
def okAt (ns ms ls : List Str) (i : Nat) : Bool := match ls[i]? with
  | some l => lineB ns ms (keysL (addL "call" (ls.take i))) (keysL (addL "water" (ls.take i))) (wOf l)
  | none => true
theorem lineB_inv {ns ms zc zw ws : List Str} (h : lineB ns ms zc zw ws = true) : ∃ a b c, ws = [a, b, c] ∧ ((a = "call" ∧ b ∈ ns ∧ b ∉ zc) ∨ (a = "water" ∧ b ∈ ms ∧ b ∉ zw)) ∧ numOk (tl c) = true := by
  match ws, h with
  | [a, b, c], h =>
    refine ⟨a, b, c, rfl, ?_, ?_⟩
    · have h : ((if a = "call" then decide (b ∈ ns) && !decide (b ∈ zc) else decide (a = "water") && (decide (b ∈ ms) && !decide (b ∈ zw))) && numOk (tl c)) = true := h
      by_cases ha : a = "call"
      · rw [if_pos ha] at h
        simp only [Bool.and_eq_true, decide_eq_true_eq, Bool.not_eq_true', decide_eq_false_iff_not] at h
        exact .inl ⟨ha, h.1.1, h.1.2⟩
      · rw [if_neg ha] at h
        simp only [Bool.and_eq_true, decide_eq_true_eq, Bool.not_eq_true', decide_eq_false_iff_not] at h
        exact .inr ⟨h.1.1, h.1.2.1, h.1.2.2⟩
    · have h : ((if a = "call" then decide (b ∈ ns) && !decide (b ∈ zc) else decide (a = "water") && (decide (b ∈ ms) && !decide (b ∈ zw))) && numOk (tl c)) = true := h
      exact (Bool.and_eq_true_iff.mp h).2
  | [], h => cases h
  | [_], h => cases h
  | [_, _], h => cases h
  | _ :: _ :: _ :: _ :: _, h => cases h
theorem numOk_inv {l : List Nat} (h : numOk l = true) : numB l = true ∧ digV l ≤ mostC := by
  unfold numOk at h
  rw [Bool.and_eq_true, decide_eq_true_eq] at h
  exact h
/-- what holds of good lines -/
structure GoodLs (ns ms ls : List Str) : Prop where
  ndc : (keysL (addL "call" ls)).Nodup
  ndw : (keysL (addL "water" ls)).Nodup
  inc : ∀ z ∈ keysL (addL "call" ls), z ∈ ns
  inw : ∀ z ∈ keysL (addL "water" ls), z ∈ ms
  mc : ∀ q ∈ addL "call" ls, q.2 ≤ mostC
  mw : ∀ q ∈ addL "water" ls, q.2 ≤ mostC
theorem good_nil (ns ms : List Str) : GoodLs ns ms [] := ⟨List.nodup_nil, List.nodup_nil, fun z hz => (by cases hz), fun z hz => (by cases hz), fun z hz => (by cases hz), fun z hz => (by cases hz)⟩
theorem good_step {ns ms ls : List Str} {l : Str} (g : GoodLs ns ms ls) (h : lineB ns ms (keysL (addL "call" ls)) (keysL (addL "water" ls)) (wOf l) = true) : GoodLs ns ms (ls ++ [l]) := by
  obtain ⟨a, b, c, e, hab, hn⟩ := lineB_inv h
  obtain ⟨_, hm⟩ := numOk_inv hn
  have eh : headW l = a := by unfold headW; rw [e]; rfl
  have e1 : w1 l = b := by unfold w1; rw [e]; rfl
  have e2 : w2 l = c := by unfold w2; rw [e]; rfl
  have nw : ¬ ("water" : Str) = "call" := by decide +kernel
  have nc : ¬ ("call" : Str) = "water" := by decide +kernel
  have nd : ∀ {L : List (Str × Nat)}, (keysL L).Nodup → b ∉ keysL L → (keysL (L ++ [(b, digV (tl c))])).Nodup := fun {L} h1 h2 => by
    rw [keysL, List.map_append, List.nodup_append]
    refine ⟨h1, by simp, fun x hx y hy => ?_⟩
    rw [List.mem_singleton.mp hy]
    intro z
    have z : x = b := z
    rw [z] at hx
    exact h2 hx
  have mem : ∀ {L : List (Str × Nat)} {N : List Str}, (∀ z ∈ keysL L, z ∈ N) → b ∈ N → ∀ z ∈ keysL (L ++ [(b, digV (tl c))]), z ∈ N := fun {L N} h1 h2 z hz => by
    rw [keysL, List.map_append] at hz
    rcases List.mem_append.mp hz with h | h
    · exact h1 z h
    · rw [List.mem_singleton.mp h]
      exact h2
  have mo : ∀ {L : List (Str × Nat)}, (∀ q ∈ L, q.2 ≤ mostC) → ∀ q ∈ L ++ [(b, digV (tl c))], q.2 ≤ mostC := fun {L} h1 q hq => by
    rcases List.mem_append.mp hq with h | h
    · exact h1 q h
    · rw [List.mem_singleton.mp h]
      exact hm
  rcases hab with ⟨rfl, hb, hz⟩ | ⟨rfl, hb, hz⟩
  · have ec : addL "call" (ls ++ [l]) = addL "call" ls ++ [(b, digV (tl c))] := by rw [addL_snoc, if_pos eh, e1, e2]
    have ew : addL "water" (ls ++ [l]) = addL "water" ls := by rw [addL_snoc, if_neg (by rw [eh]; exact nc), List.append_nil]
    exact ⟨by rw [ec]; exact nd g.ndc hz, by rw [ew]; exact g.ndw, by rw [ec]; exact mem g.inc hb, by rw [ew]; exact g.inw, by rw [ec]; exact mo g.mc, by rw [ew]; exact g.mw⟩
  · have ec : addL "water" (ls ++ [l]) = addL "water" ls ++ [(b, digV (tl c))] := by rw [addL_snoc, if_pos eh, e1, e2]
    have ew : addL "call" (ls ++ [l]) = addL "call" ls := by rw [addL_snoc, if_neg (by rw [eh]; exact nw), List.append_nil]
    exact ⟨by rw [ew]; exact g.ndc, by rw [ec]; exact nd g.ndw hz, by rw [ew]; exact g.inc, by rw [ec]; exact mem g.inw hb, by rw [ew]; exact g.mc, by rw [ec]; exact mo g.mw⟩
theorem good_take {ns ms ls : List Str} : ∀ i, i ≤ ls.length → (∀ j, j < i → okAt ns ms ls j = true) → GoodLs ns ms (ls.take i)
  | 0, _, _ => by rw [List.take_zero]; exact good_nil ns ms
  | i + 1, hi, h => by
    have hl : ls[i]? = some ls[i] := List.getElem?_eq_getElem (by omega)
    have h1 := h i (by omega)
    unfold okAt at h1
    rw [hl] at h1
    rw [List.take_add_one, hl]
    exact good_step (good_take i (by omega) fun j hj => h j (by omega)) h1
end K0
end
section
set_option Elab.async false
set_option linter.all false
set_option maxRecDepth 100000
set_option maxHeartbeats 4000000
namespace K0
open PySem PySem.Spec PyProof.Rows L2 TL
/-! ### a day is read -/
abbrev scReadDay_N : List Str := ["rights", "text", "told", "number", "line", "words"]
abbrev scReadDay_S : Stmt := sReadDay
theorem scReadDay : FnScope scReadDay_N ["rights", "text"] (defScope sReadDay) := ⟨rfl, rfl, rfl, by decide +kernel, rfl, by decide +kernel, by decide +kernel⟩
theorem told_disp (dc dw : Addr) : mergeK [] [(Sum.inr ("call" : Str), V.ref dc), (Sum.inr ("water" : Str), V.ref dw)] = toldK dc dw := by
  have n : ¬ ("water" : Str) = "call" := by decide +kernel
  have e1 : toldF dc dw "call" = V.ref dc := by unfold toldF; rw [if_pos rfl]
  have e2 : toldF dc dw "water" = V.ref dw := by unfold toldF; rw [if_neg n]
  have h : (([] : List Str) ++ cwL).Nodup := by decide +kernel
  have := merge_kmap (f := toldF dc dw) (ms := cwL) (ns := []) h
  rw [List.nil_append] at this
  rw [← e1, ← e2]
  exact this
def spReadDay (Cd Cg Cr Ct : Addr) : Sp := fun vs H Q E => ∃ (g q : Addr) (AR : List (Addr × Row)) (BR : List (Addr × RRow)) (ls : List Str), vs = [.ref g, .str (Txt.join "\n" ls)] ∧ RigOk Cg Cr H g q AR BR ∧ LnsD ls ∧
  (∀ i l, ls[i]? = some l → okAt (rnm (bOf BR)) (namesOf AR) ls i = false → (∀ j, j < i → okAt (rnm (bOf BR)) (namesOf AR) ls j = true) → i ≤ 90 ∧ TellsL E Ct i H) ∧
  ((∀ j, j < ls.length → okAt (rnm (bOf BR)) (namesOf AR) ls j = true) → ∀ H' p, Same H H' → DayAt Cd H' p g (rnm (bOf BR)) (namesOf AR) (fP (addL "call" ls)) (fP (addL "water" ls)) → Q (.ref p) H')
section
variable {P : Program} {w : World} {K : PySem.W.Frag} {mg : Str → Option Value} {base : Heap} {tS tM tL : Tok}
theorem binds_dinit {f : Addr} {fd : FuncData} (F : FnDI K f fd) : ∃ ds, Vals [V.int 0, V.int 0] ds ∧ Binds K fd ["self", "rights", "calls", "waters", "call", "water"] ds :=
  F.binds0 4 (by simp) rfl (fun D doc pm an cdv ct us ks h1 h2 => match us, ks, h1, h2 with
    | [a, b, c, d], [k, l], _, _ => ⟨_, _, _, _, _, _, rfl, rfl, ⟨_, _, _, _, _, _, rfl, rfl, rfl⟩⟩)
/-- Day and what its making promises -/
structure Dm (P : Program) (w : World) (K : PySem.W.Frag) (mg : Str → Option Value) (base : Heap) (Cd Cg Cr : Addr) : Prop where
  ex : ∃ f fd, FnDI K f fd ∧ Mk K Cd f ∧ FnOk P w K mg base CX0 5 f fd ["self", "rights", "calls", "waters", "call", "water"] (spDInit Cd Cg Cr)
theorem ok_readday {f fL fN ft Cd Cr Cg Ct : Addr} {fd fdL fdN fdt : FuncData} {tN tC : Tok} (F : FnP K "read_day" sReadDay f fd)
    (F_is_line : FnP K "_is_line" sIsLine fL fdL) (g_is_line : mg "_is_line" = some (.ref fL)) (Fis_numeral : FnP K "is_numeral" sNumeral fN fdN) (gis_numeral : mg "is_numeral" = some (.ref fN)) (gL : mg "LONGEST_NUMERAL" = some (.int 31 tN)) (gC : mg "MOST_CUBES" = some (.int mostI tC))
    (DM : Dm P w K mg base Cd Cg Cr) (TD : Dv1 K mg Cd) (TG : Rg K mg Cg) (T0 : Rv K mg Cr) (NT : NpT P K mg Ct ft fdt) (B : Bl mg) : FnOk P w K mg base (L2.CX P w) 7 f fd ["rights", "text"] (spReadDay Cd Cg Cr Ct) := by
  have G_is_line : FnOk P w K mg base CX0 2 fL fdL ["rights", "told", "words"] (spIsLine Cg Cr) := ok_isline F_is_line Fis_numeral gis_numeral gL gC TG T0 B
  have b_is_line : Binds K fdL ["rights", "told", "words"] [] := F_is_line.bindsN fun _ _ _ _ _ _ us hl => match us, hl with | [_, _, _], _ => rfl
  obtain ⟨fI, fdI, FI, MKD, GD⟩ := DM.ex
  obtain ⟨ds, hds, bD⟩ := binds_dinit FI
  have Gn : FnOk P w K mg base CX0 1 ft fdt ["self", "line"] (spSupL K Ct) := ok_nottext NT
  have bn : Binds K fdt ["self", "line"] [] := binds_nt NT
  refine F.ok scReadDay (fun vs H Q E h => ?_) (fun cdv A outer s H vs Q E hr h => ?_)
  · obtain ⟨g, q, AR, BR, ls, rfl, _⟩ := h
    rfl
  · obtain ⟨g, q, AR, BR, ls, rfl, R, hL, kT, kk⟩ := h
    have hu := hu_of hr
    have hr_is_line : Room 2 _ := hr.mono (by decide)
    have hrn : Room 2 _ := hr.mono (by decide)
    have hrD : Room 6 _ := hr
    refine ⟨_, (pss_cons
      (ps_set (i := 2) scReadDay.nd rfl (Or.inl rfl) (pe_disp (pps_cons pe_str pe_dnewK (pps_cons pe_str pe_dnewK pps_nil)) (by rfl) (by rfl) (fun z => by cases z) (by decide)))
      (pss_cons
      (ps_for (passes_of rfl) rfl (pi_enum (by rfl) B.enumerate (pa_cons (pe_split (pv 1) pe_str) pa_nil)) (tgK (K := K) (n := 2) (by rfl) (pgs_cons (pg_name (i := 3) scReadDay.nd rfl (Or.inl rfl)) (pgs_cons (pg_name (i := 4) scReadDay.nd rfl (Or.inl rfl)) pgs_nil))) (pss_cons
      (ps_set (i := 5) scReadDay.nd rfl (Or.inl rfl) (pe_split (pv 4) pe_str))
      (pss_cons
      (ps_if (pt_not (pt_val (pe_call G_is_line hr_is_line (by rfl) g_is_line F_is_line.kp b_is_line .nil pass0 (pa_cons (pv 0) (pa_cons (pv 2) (pa_cons (pv 5) pa_nil)))))) (pss_one
      (ps_raise rfl (takes_of rfl rfl rfl rfl) (pmk_oex NT.S.exc NT.iC NT.tI Gn hrn bn .nil (fun _ _ _ _ _ _ _ h => h.elim) (by rfl) NT.mgN (pa_cons (pv 3) pa_nil)))) pss_nil)
      (pss_one
      (ps_dput hu (pe_dget hu (pv 2) (pe_ix (ixLK (K := K)) (pv 5) pe_int (fun _ _ => rfl)) (fun _ _ => rfl)) (pe_ix (ixLK (K := K)) (pv 5) pe_int (fun _ _ => rfl)) (pe_callTy call_int_str (by rfl) B.int (by decide +kernel) (pa_cons (pe_ix (ixLK (K := K)) (pv 5) pe_int (fun _ _ => rfl)) pa_nil)) rfl)))))
      (pss_one
      (ps_ret (pe_make MKD GD hrD (by rfl) TD.mgC bD hds pass0 (pa_cons (pv 0) (pa_cons (pe_dget hu (pv 2) pe_str (fun _ _ => rfl)) (pa_cons (pe_dget hu (pv 2) pe_str (fun _ _ => rfl)) pa_nil)))))))), ?_⟩
    have z40 : 900000 ≤ sizeLine := by rw [sizeLine_eq]; omega
    intro D hD
    intro dc hdc dw hdw
    have hDc : D ≠ dc := fun e => by rw [← e, upd_same] at hdc; cases hdc
    have hDw : D ≠ dw := fun e => by rw [← e, upd_ne hDc, upd_same] at hdw; cases hdw
    have hcw : dc ≠ dw := fun e => by rw [← e, upd_same] at hdw; cases hdw
    refine ⟨by rw [upd_ne hDw, upd_ne hDc, upd_same], [(Sum.inr ("call" : Str), .ref dc), (Sum.inr ("water" : Str), .ref dw)], rfl, by show 2 ≤ 15; omega, ?_⟩
    have hHc : H dc = none := by
      rw [upd_ne (Ne.symm hDc)] at hdc
      exact hdc
    have hHw : H dw = none := by
      rw [upd_ne (Ne.symm hcw), upd_ne (Ne.symm hDw)] at hdw
      exact hdw
    rw [told_disp]
    have s1 : Same H (upd (upd (upd (upd H D (.dK [])) dc (.dK [])) dw (.dK [])) D (.dK (toldK dc dw))) := fun b o hb => by
      rw [upd_ne (ne_of_none hb hD), upd_ne (ne_of_none hb hHw), upd_ne (ne_of_none hb hHc), upd_ne (ne_of_none hb hD)]
      exact hb
    have t1 : Told (upd (upd (upd (upd H D (.dK [])) dc (.dK [])) dw (.dK [])) D (.dK (toldK dc dw))) D dc dw (fP []) (fP []) (keysL []) (keysL []) := ⟨upd_same, by rw [upd_ne (Ne.symm hDc), upd_ne hcw, upd_same]; rfl, by rw [upd_ne (Ne.symm hDw), upd_same]; rfl⟩
    generalize upd (upd (upd (upd H D (.dK [])) dc (.dK [])) dw (.dK [])) D (.dK (toldK dc dw)) = H1 at s1 t1
    have jl := joinedD_len hL
    refine ⟨_, rfl, ⟨_, rfl⟩, _, _, rfl, rfl, by decide +kernel, by omega, fun p np => ?_⟩
    rw [linesD_back hL]
    have s2 : Same H (upd H1 p (.lst (ls.map V.str))) := s1.trans (same_upd np)
    have hp2 : (upd H1 p (.lst (ls.map V.str))) p = some (.lst (ls.map V.str)) := upd_same
    have t2 := t1.same (same_upd np (o := .lst (ls.map V.str)))
    generalize upd H1 p (.lst (ls.map V.str)) = H2 at s2 hp2 t2
    have hls := hL.most
    refine ⟨p, _, rfl, .inl (.inl hp2), ?_⟩
    refine for_it (walk_enum (xs := ls.map V.str)) (fun i σ H3 => ∃ (v2 v3 v4 : Option V), σ = [some (.ref g), some (.str (Txt.join "\n" ls)), some (.ref D), v2, v3, v4] ∧ Same H H3 ∧ H3 p = some (.lst (ls.map V.str)) ∧ (∀ j, j < i → okAt (rnm (bOf BR)) (namesOf AR) ls j = true) ∧
      Told H3 D dc dw (fP (addL "call" (ls.take i))) (fP (addL "water" (ls.take i))) (keysL (addL "call" (ls.take i))) (keysL (addL "water" (ls.take i))))
      ⟨_, _, _, rfl, s2, hp2, fun j hj => absurd hj (Nat.not_lt_zero _), by rw [List.take_zero]; exact t2⟩ (fun _ _ _ _ h => by obtain ⟨_, _, _, _, _, hp, _⟩ := h; exact .inl (.inl hp)) ?_ ?_
    · rintro i x σ H3 H4 hi ⟨v2, v3, v4, rfl, s3, hp3, good, t3⟩ ⟨Tt, x1, x2, rfl, hT, rfl, e1, e2⟩
      obtain rfl : V.int (i : Int) = x1 := Option.some.inj e1
      have e2 : (ls.map V.str)[i]? = some x2 := e2
      rw [List.getElem?_map] at e2
      obtain ⟨l, hl, rfl⟩ := Option.map_eq_some_iff.mp e2
      have hil : i < ls.length := by
        rw [List.length_map] at hi
        exact hi
      have hl1 := hL.len l (List.mem_of_getElem? hl)
      obtain ⟨wp, w9, wall⟩ := wordsD hl1
      have sT := same_upd hT (o := .tup [V.int (i : Int), V.str l])
      refine ⟨Tt, _, rfl, .inl (.inl upd_same), rfl, _, _, rfl, _, _, rfl, rfl, ?_⟩
      have s4 := s3.trans sT
      have hp4 := sT _ _ hp3
      have t4 := t3.same sT
      generalize upd H3 Tt (.tup [V.int (i : Int), V.str l]) = H4 at s4 hp4 t4
      refine ⟨_, rfl, ⟨_, rfl⟩, _, _, rfl, rfl, by decide +kernel, by rw [len_tl]; omega, fun q2 nq => ?_⟩
      have sq := same_upd nq (o := .lst ((wOf l).map V.str))
      have s5 := s4.trans sq
      have hp5 := sq _ _ hp4
      have t5 := t4.same sq
      have hq5 : (upd H4 q2 (.lst ((wOf l).map V.str))) q2 = some (.lst ((wOf l).map V.str)) := upd_same
      show tSeq _ _ _ _ (upd H4 q2 (.lst ((wOf l).map V.str)))
      generalize upd H4 q2 (.lst ((wOf l).map V.str)) = H5 at s5 hp5 t5 hq5
      refine ⟨_, rfl, _, rfl, _, rfl, g, q, D, q2, dc, dw, AR, BR, _, _, _, _, wOf l, rfl, R.same s5, t5, hq5, wp, w9, wall, fun H6 s6 => ⟨_, rfl, ?_⟩⟩
      have s56 := s5.trans s6
      have eok : okAt (rnm (bOf BR)) (namesOf AR) ls i = lineB (rnm (bOf BR)) (namesOf AR) (keysL (addL "call" (ls.take i))) (keysL (addL "water" (ls.take i))) (wOf l) := by
        unfold okAt
        rw [hl]
      cases hw : lineB (rnm (bOf BR)) (namesOf AR) (keysL (addL "call" (ls.take i))) (keysL (addL "water" (ls.take i))) (wOf l) with
      | false =>
        refine iteT ?_
        obtain ⟨hi90, tt⟩ := kT i l hl (eok.trans hw) good
        refine ⟨_, rfl, by show 1 ≤ 1000; decide, fun a na => ⟨a, _, rfl, upd_same, by omega, by omega, fun dx n1 n2 => ⟨rfl, dx, [(("line" : Str), V.int (i : Int))], upd_same, ?_, ?_, ?_⟩⟩⟩
        · rw [upd_ne n2, upd_same]
        · rw [upd_ne n2] at n1
          exact n1
        · exact told_nt (tt.same s56) na n1 n2
      | true =>
        refine iteF ?_
        have hp6 := s6 _ _ hp5
        have t6 := t5.same s6
        have hq6 := s6 _ _ hq5
        have etake : ls.take (i + 1) = ls.take i ++ [l] := by rw [List.take_add_one, hl]; rfl
        have gl := good_take (ns := rnm (bOf BR)) (ms := namesOf AR) i (by omega) good
        have good2 : ∀ j, j < i + 1 → okAt (rnm (bOf BR)) (namesOf AR) ls j = true := fun j hj => by
          rcases Nat.lt_succ_iff_lt_or_eq.mp hj with h | h
          · exact good j h
          · rw [h]
            exact eok.trans hw
        obtain ⟨a, b, c, ewl, hab, hn⟩ := lineB_inv hw
        obtain ⟨hnb, hnm⟩ := numOk_inv hn
        rw [ewl] at hq6
        have hw0 : H6 q2 = some (.lst [.str a, .str b, .str c]) := hq6
        have ix0 : atI [V.str a, .str b, .str c] 0 = some (.str a) := atI_nat (j := 0) rfl
        have ix1 : atI [V.str a, .str b, .str c] 1 = some (.str b) := atI_nat (j := 1) rfl
        have ix2 : atI [V.str a, .str b, .str c] 2 = some (.str c) := atI_nat (j := 2) rfl
        have hl31 : (tl c).length ≤ 31 := by
          unfold numB at hnb
          rw [Bool.and_eq_true, Bool.and_eq_true] at hnb
          exact of_decide_eq_true hnb.1.2
        have eh : headW l = a := by unfold headW; rw [ewl]; rfl
        have ew1 : w1 l = b := by unfold w1; rw [ewl]; rfl
        have ew2 : w2 l = c := by unfold w2; rw [ewl]; rfl
        have nw : ¬ ("water" : Str) = "call" := by decide +kernel
        have nc : ¬ ("call" : Str) = "water" := by decide +kernel
        have npc : p ≠ dc := ne_of hp6 t6.c (fun z => by cases z)
        have npw : p ≠ dw := ne_of hp6 t6.w (fun z => by cases z)
        have hcwm : a ∈ cwL := by
          rcases hab with ⟨rfl, _⟩ | ⟨rfl, _⟩
          · exact List.mem_cons_self
          · exact List.mem_cons_of_mem _ List.mem_cons_self
        have keyLen : ∀ x, (keysL (addL x (ls.take i))).length ≤ 170 := fun x => by
          rw [List.length_map]
          unfold addL
          rw [List.length_map]
          refine Nat.le_trans (List.length_filter_le _ _) ?_
          rw [List.length_take]
          omega
        refine ⟨_, rfl, q2, _, _, .str c, rfl, rfl, .inl (.inl hw0), ix2, c, _, rfl, num_reads2 hnb, by rw [len_list]; show (tl c).length ≤ 640; omega, ?_⟩
        refine ⟨_, rfl, _, rfl, q2, _, _, .str a, rfl, rfl, .inl (.inl hw0), ix0, D, toldF dc dw a, rfl, .inl ⟨_, Sum.inr a, .inl t6.at_, rfl, (kmap_at hcwm).symm⟩, ?_⟩
        refine ⟨_, rfl, q2, _, _, .str b, rfl, rfl, .inl (.inl hw0), ix1, ?_⟩
        rcases hab with ⟨rfl, hb, hz⟩ | ⟨rfl, hb, hz⟩
        · have ec : addL "call" (ls.take (i + 1)) = addL "call" (ls.take i) ++ [(b, digV (tl c))] := by rw [etake, addL_snoc, if_pos eh, ew1, ew2]
          have ew : addL "water" (ls.take (i + 1)) = addL "water" (ls.take i) := by rw [etake, addL_snoc, if_neg (by rw [eh]; exact nc), List.append_nil]
          have e0 : toldF dc dw "call" = .ref dc := by unfold toldF; rw [if_pos rfl]
          rw [e0]
          refine ⟨dc, _, rfl, DPut.k (k := Sum.inr b) t6.c (by rw [kmap_len]; exact small1000 (by have := keyLen "call"; omega)), ?_⟩
          rw [put_pair hz, ← ec]
          refine ⟨_, _, _, rfl, fun bb oo hbb => ?_, ?_, good2, ?_, ?_, ?_⟩
          · rw [upd_ne (ne_of_none hbb hHc)]
            exact s56 _ _ hbb
          · rw [upd_ne npc]
            exact hp6
          · rw [upd_ne hDc]
            exact t6.at_
          · exact upd_same
          · rw [upd_ne (Ne.symm hcw), ew]
            exact t6.w
        · have ec : addL "water" (ls.take (i + 1)) = addL "water" (ls.take i) ++ [(b, digV (tl c))] := by rw [etake, addL_snoc, if_pos eh, ew1, ew2]
          have ew : addL "call" (ls.take (i + 1)) = addL "call" (ls.take i) := by rw [etake, addL_snoc, if_neg (by rw [eh]; exact nw), List.append_nil]
          have e0 : toldF dc dw "water" = .ref dw := by unfold toldF; rw [if_neg nw]
          rw [e0]
          refine ⟨dw, _, rfl, DPut.k (k := Sum.inr b) t6.w (by rw [kmap_len]; exact small1000 (by have := keyLen "water"; omega)), ?_⟩
          rw [put_pair hz, ← ec]
          refine ⟨_, _, _, rfl, fun bb oo hbb => ?_, ?_, good2, ?_, ?_, ?_⟩
          · rw [upd_ne (ne_of_none hbb hHw)]
            exact s56 _ _ hbb
          · rw [upd_ne npw]
            exact hp6
          · rw [upd_ne hDw]
            exact t6.at_
          · rw [upd_ne hcw, ew]
            exact t6.c
          · exact upd_same
    · rintro σ H3 ⟨v2, v3, v4, rfl, s3, hp3, good, t3⟩
      rw [List.length_map] at good t3
      rw [List.take_length] at t3
      have gl := good_take (ns := rnm (bOf BR)) (ms := namesOf AR) ls.length (Nat.le_refl _) good
      rw [List.take_length] at gl
      have nw : ¬ ("water" : Str) = "call" := by decide +kernel
      have ec : toldF dc dw "call" = .ref dc := by unfold toldF; rw [if_pos rfl]
      have ew : toldF dc dw "water" = .ref dw := by unfold toldF; rw [if_neg nw]
      have vc : valV (toldK dc dw) (Sum.inr ("call" : Str)) = some (.ref dc) := by rw [← ec]; exact kmap_at (f := toldF dc dw) (ns := cwL) List.mem_cons_self
      have vw : valV (toldK dc dw) (Sum.inr ("water" : Str)) = some (.ref dw) := by rw [← ew]; exact kmap_at (f := toldF dc dw) (ns := cwL) (List.mem_cons_of_mem _ List.mem_cons_self)
      refine ⟨_, rfl, _, rfl, D, .ref dc, rfl, .inl ⟨_, Sum.inr ("call" : Str), .inl t3.at_, rfl, vc.symm⟩, _, rfl, D, .ref dw, rfl, .inl ⟨_, Sum.inr ("water" : Str), .inl t3.at_, rfl, vw.symm⟩, fun x dx nx nd nxd => ?_⟩
      have sx : Same H3 (upd (upd H3 dx (.own x)) x (.ins Cd dx [])) := fun b o hb => by
        rw [upd_ne (ne_of_none hb nx), upd_ne (ne_of_none hb nd)]
        exact hb
      refine ⟨x, g, q, dc, dw, dx, AR, BR, _, _, _, _, rfl, upd_same, R.same (s3.trans sx), ⟨sx _ _ t3.c, gl.ndc, gl.inc, fP_most gl.mc⟩, ⟨sx _ _ t3.w, gl.ndw, gl.inw, fP_most gl.mw⟩, fun H5 u5 D5 => ⟨rfl, ?_⟩⟩
      rw [fill_fP, fill_fP] at D5
      exact kk good H5 x (s3.trans fun b o hb => u5 b o (sx b o hb) (ne_of_none hb nx)) D5
end
end K0
end
section
set_option Elab.async false
set_option linter.all false
set_option maxRecDepth 100000
set_option maxHeartbeats 4000000
namespace K0
open PySem PySem.Spec PyProof.Rows L2 TL
/-! ### a day is written -/
abbrev numS (v : Nat) : Str := Str.ofString (toString ((v : Nat) : Int))
def lineS (x n : Str) (v : Nat) : Str := Str.empty ++ x ++ n ++ (" " : Str) ++ numS v
theorem len_cat (a b : Str) : (a ++ b).length = a.length + b.length := strLen_append a b
theorem numS_len {v : Nat} (h : v ≤ mostC) : (numS v).length ≤ 31 := by
  rw [len_list]
  show (tl (numS v)).length ≤ 31
  rw [tl_num]
  exact dg31 h
theorem num_log {v : Nat} (h : v ≤ mostC) : ((v : Int)).natAbs.log2 < 1920 := by
  rw [Int.natAbs_natCast]
  by_cases h0 : v = 0
  · subst h0
    decide
  · rw [Nat.log2_lt h0]
    refine Nat.lt_of_le_of_lt h ?_
    exact Nat.lt_of_lt_of_le (show mostC < 2 ^ 100 by decide +kernel) (Nat.pow_le_pow_right (by decide) (by decide))
def dayL (ns ms : List Str) (f h : Str → Nat) : List Str := (ns.map fun n => lineS "call " n (f n)) ++ ms.map fun n => lineS "water " n (h n)
theorem lineS_len {x n : Str} {v : Nat} (hx : x.length ≤ 6) (hn : n.length ≤ 8) (h : v ≤ mostC) : (lineS x n v).length ≤ 50 := by
  have e0 : Str.empty.length = 0 := rfl
  have e1 : (" " : Str).length = 1 := by decide +kernel
  have := numS_len h
  unfold lineS
  simp only [len_cat]
  omega
theorem sum_len {m : Nat} : ∀ {ls : List Str}, (∀ l ∈ ls, l.length ≤ m) → (ls.map (·.length)).sum ≤ ls.length * m
  | [], _ => Nat.zero_le _
  | l :: r, h => by
    have h1 := h l List.mem_cons_self
    have h2 := sum_len (ls := r) fun z hz => h z (List.mem_cons_of_mem _ hz)
    rw [List.map_cons, List.sum_cons, List.length_cons, Nat.succ_mul]
    omega
abbrev scWriteDay_N : List Str := ["day", "calls", "waters", "lines", "name", "weir"]
abbrev scWriteDay_S : Stmt := sWriteDay
theorem scWriteDay : FnScope scWriteDay_N ["day"] (defScope sWriteDay) := ⟨rfl, rfl, rfl, by decide +kernel, rfl, by decide +kernel, by decide +kernel⟩
def spWriteDay (Cd : Addr) : Sp := fun vs H Q _ => ∃ (p g : Addr) (ns ms : List Str) (f h : Str → Nat), vs = [.ref p] ∧ DayAt Cd H p g ns ms f h ∧ ns.length ≤ 41 ∧ ms.length ≤ 41 ∧ (∀ n ∈ ns, n.length ≤ 8) ∧ (∀ n ∈ ms, n.length ≤ 8) ∧ (∀ y, f y ≤ mostC) ∧ (∀ y, h y ≤ mostC) ∧
  ∀ H', Same H H' → Q (.str (Txt.join "\n" (dayL ns ms f h))) H'
def teC : TE := fun σ H Q => tJs [tC (.str "call "), tFmt (tVar 4), tC (.str " "), tFmt (tDGet (tVar 1) (tVar 4))] Str.empty σ H fun out H1 => Q (.str out) H1
def teA : TE := fun σ H Q => tJs [tC (.str "water "), tFmt (tVar 5), tC (.str " "), tFmt (tDGet (tVar 2) (tVar 5))] Str.empty σ H fun out H1 => Q (.str out) H1
section
variable {P : Program} {w : World} {K : PySem.W.Frag} {mg : Str → Option Value} {base : Heap} {tS tM tL : Tok}
theorem ok_writeday {f fC fW Cd : Addr} {fd fdC fdW : FuncData} (F : FnP K "write_day" sWriteDay f fd) (FC : FnM K "calls" "Day.calls" sDCalls fC fdC) (Mcalls : Meth K Cd "calls" fC) (FW : FnM K "waters" "Day.waters" sDWaters fW fdW) (Mwaters : Meth K Cd "waters" fW) (TD : Dv1 K mg Cd) (B : Bl mg) : FnOk P w K mg base CX0 2 f fd ["day"] (spWriteDay Cd) := by
  have Gcalls : FnOk P w K mg base CX0 1 fC fdC ["self"] (spDCalls Cd) := ok_dcalls FC TD B
  have bcalls : Binds K fdC ["self"] [] := FC.bindsN fun _ _ _ _ _ _ us hl => match us, hl with | [_], _ => rfl
  have Gwaters : FnOk P w K mg base CX0 1 fW fdW ["self"] (spDWaters Cd) := ok_dwaters FW TD B
  have bwaters : Binds K fdW ["self"] [] := FW.bindsN fun _ _ _ _ _ _ us hl => match us, hl with | [_], _ => rfl
  refine F.ok scWriteDay (fun vs H Q E h => ?_) (fun cdv A outer s H vs Q E hr h => ?_)
  · obtain ⟨p, g, ns, ms, f, h, rfl, _⟩ := h
    rfl
  · obtain ⟨p, g, ns, ms, f, h, rfl, D, hn, hm, hnl, hml, hf, hh, kk⟩ := h
    have hu := hu_of hr
    have hrcalls : Room 1 _ := hr
    refine ⟨_, PSs.nox (pss_cons
      (ps_set (i := 1) scWriteDay.nd rfl (Or.inr rfl) (pe_meth0 (pv 0) TD.cl Mcalls Gcalls hrcalls bcalls .nil pass0))
      (pss_cons
      (ps_set (i := 2) scWriteDay.nd rfl (Or.inr rfl) (pe_meth0 (pv 0) TD.cl Mwaters Gwaters hrcalls bwaters .nil pass0))
      (pss_cons
      (ps_lock (ps_setLc (i := 3) (own := [("name", 4)]) (g := gName 4) (tt := tYes) (by rfl) scWriteDay.nd rfl rfl (sw_true rfl rfl rfl (by decide +kernel)) (pi_keys (pv 1)) (blkOk_by (own := [("name", 4)]) (N := scWriteDay_N) (sc := defScope scWriteDay_S) (by decide +kernel)) (fun _ _ _ _ _ => (pg_name (i := 4) scWriteDay.nd rfl (Or.inl rfl))) (fun _ _ _ _ _ => pts_nil) (fun _ _ _ _ _ => (pe_joined (.cons pe_str (.cons (pe_fmt (pv 4)) (.cons pe_str (.cons (pe_fmt (pe_dget hu (pv 1) (pv 4) (fun _ _ => rfl))) .nil))))))))
      (pss_cons
      (ps_expr (pe_bm PySem.F.plainAttrs_list PySem.F.slot_list_extend PySem.F.type_list_extend mt_extend (pv 3) (pa_cons (pe_lock (pe_lc (own := [("weir", 5)]) (g := gName 5) (tt := tYes) (by rfl) scWriteDay.nd (pi_keys (pv 2)) (blkOk_by (own := [("weir", 5)]) (N := scWriteDay_N) (sc := defScope scWriteDay_S) (by decide +kernel)) (fun _ _ _ _ _ => (pg_name (i := 5) scWriteDay.nd rfl (Or.inl rfl))) (fun _ _ _ _ _ => pts_nil) (fun _ _ _ _ _ => (pe_joined (.cons pe_str (.cons (pe_fmt (pv 5)) (.cons pe_str (.cons (pe_fmt (pe_dget hu (pv 2) (pv 5) (fun _ _ => rfl))) .nil)))))))) pa_nil)))
      (pss_one
      (ps_ret (pe_join pe_str (pv 3)))))))), ?_⟩
    have z40 : 40000 ≤ sizeLine := by rw [sizeLine_eq]; omega
    obtain ⟨dx, dc, dw, i1, i2, i3⟩ := id D.ex
    refine ⟨_, rfl, p, dx, _, rfl, i1, e3no (by decide +kernel), p, g, ns, ms, f, h, rfl, D, fun cd ncd => ?_⟩
    have s1 := same_upd ncd (o := .dK (amK f ns))
    have h1 : (upd H cd (.dK (amK f ns))) cd = some (.dK (amK f ns)) := upd_same
    have D1 := D.same s1
    show Ends.nx _ _ (upd H cd (.dK (amK f ns)))
    generalize upd H cd (.dK (amK f ns)) = H1 at s1 h1 D1
    obtain ⟨dx, dc, dw, i1, i2, i3⟩ := id D1.ex
    refine ⟨_, rfl, p, dx, _, rfl, i1, e3no (by decide +kernel), p, g, ns, ms, f, h, rfl, D1, fun wd nwd => ?_⟩
    have s2 := s1.trans (same_upd nwd (o := .dK (amK h ms)))
    have h2 := same_upd nwd (o := .dK (amK h ms)) _ _ h1
    have w2 : (upd H1 wd (.dK (amK h ms))) wd = some (.dK (amK h ms)) := upd_same
    have nwc : wd ≠ cd := (ne_of_none h1 nwd).symm
    show Ends.nx _ _ (upd H1 wd (.dK (amK h ms)))
    generalize upd H1 wd (.dK (amK h ms)) = H2 at s2 h2 w2
    have e0 : Str.empty.length = 0 := rfl
    have e5 : ("call " : Str).length = 5 := by decide +kernel
    have e6 : ("water " : Str).length = 6 := by decide +kernel
    have e1 : (" " : Str).length = 1 := by decide +kernel
    refine ⟨cd, _, h2, trivial, fun od => ?_⟩
    refine ⟨_, rfl, cd, od, rfl, .inl ⟨_, upd_same, fun L hL => ?_⟩⟩
    have ndL : cd ≠ L := ne_of_none upd_same hL
    have hHL : H L = none := by
      cases e : H L with
      | none => rfl
      | some o =>
        have := s2 _ _ e
        rw [upd_ne (Ne.symm ndL), this] at hL
        cases hL
    have hfz : ∀ H3, Same (upd H2 cd (.frz od (.dK (amK f ns)))) H3 → H3 cd = some (.frz od (.dK (amK f ns))) := fun H3 s => s _ _ upd_same
    have w3 : (upd H2 cd (.frz od (.dK (amK f ns)))) wd = some (.dK (amK h ms)) := by
      rw [upd_ne nwc]
      exact w2
    refine lc_it (walk_keys (kvs := amK f ns)) (te := teC) (fun i H3 => Same (upd H2 cd (.frz od (.dK (amK f ns)))) H3 ∧ H3 L = some (.lst (((ns.take i).map fun n => lineS "call " n (f n)).map V.str))) ⟨same_upd hL, by rw [upd_same, List.take_zero]; rfl⟩ (fun i H3 hi hh => hfz _ hh.1) ?_ ?_
    · rintro i x H3 H4 hi ⟨s3, hl⟩ ⟨e, k0, v0, hkv, ev⟩
      subst e
      subst ev
      obtain ⟨y, hy, rfl, rfl⟩ := kmap_get hkv
      have hym : y ∈ ns := List.mem_of_getElem? hy
      have hy8 := hnl y hym
      have hn31 : (Str.ofString (toString ((f y : Nat) : Int))).length ≤ 31 := numS_len (hf y)
      refine ⟨rfl, ?_⟩
      unfold tYes
      refine iteT ?_
      refine ⟨_, rfl, (by simp only [len_cat]; omega), _, rfl, .inl ⟨y, rfl, by omega, _, rfl, (by simp only [len_cat]; omega), _, rfl, (by simp only [len_cat]; omega), ?_⟩⟩
      have dg : DGet H4 cd (.str y) (some (.int (f y : Int))) := .inl ⟨amK f ns, Sum.inr y, .inr ⟨od, hfz _ s3⟩, rfl, (kmap_at (f := fun y => .int (f y : Int)) hym).symm⟩
      refine ⟨_, rfl, _, rfl, cd, _, rfl, dg, .inr ⟨_, rfl, num_log (hf y), _, rfl, (by simp only [len_cat]; omega), ?_⟩⟩
      refine ⟨_, hl, ?_, fun b o hb => ?_, ?_⟩
      · rw [List.length_map, List.length_map, List.length_take]
        exact small1000 (by omega)
      · rw [upd_ne (ne_of_none hb hL)]
        exact s3 b o hb
      · rw [upd_same, List.take_add_one, hy, List.map_append, List.map_append]
        rfl
    rintro H3 ⟨s3, hl⟩
    rw [kmap_len, List.take_length] at hl
    refine ⟨hfz _ s3, ?_⟩
    have s4 : Same H2 (upd H3 cd (.dK (amK f ns))) := same_unlock h2 s3
    have hl4 : (upd H3 cd (.dK (amK f ns))) L = some (.lst ((ns.map fun n => lineS "call " n (f n)).map V.str)) := by
      rw [upd_ne ndL.symm]
      exact hl
    have w4 := s4 _ _ w2
    have s24 := s2.trans s4
    show Ends.nx _ _ (upd H3 cd (.dK (amK f ns)))
    generalize upd H3 cd (.dK (amK f ns)) = H4 at s4 hl4 w4 s24
    refine ⟨_, rfl, .inl ⟨rfl, _, .inl (.inl hl4)⟩, ?_⟩
    refine ⟨wd, _, w4, trivial, fun od2 => ?_⟩
    refine ⟨_, rfl, wd, od2, rfl, .inl ⟨_, upd_same, fun L2 hL2 => ?_⟩⟩
    have ndL2 : wd ≠ L2 := ne_of_none upd_same hL2
    have hfz2 : ∀ H3, Same (upd H4 wd (.frz od2 (.dK (amK h ms)))) H3 → H3 wd = some (.frz od2 (.dK (amK h ms))) := fun H3 s => s _ _ upd_same
    refine lc_it (walk_keys (kvs := amK h ms)) (te := teA) (fun i H3 => Same (upd H4 wd (.frz od2 (.dK (amK h ms)))) H3 ∧ H3 L2 = some (.lst (((ms.take i).map fun n => lineS "water " n (h n)).map V.str))) ⟨same_upd hL2, by rw [upd_same, List.take_zero]; rfl⟩ (fun i H3 hi hh => hfz2 _ hh.1) ?_ ?_
    · rintro i x H3 H4 hi ⟨s3, hl⟩ ⟨e, k0, v0, hkv, ev⟩
      subst e
      subst ev
      obtain ⟨y, hy, rfl, rfl⟩ := kmap_get hkv
      have hym : y ∈ ms := List.mem_of_getElem? hy
      have hy8 := hml y hym
      have hn31 : (Str.ofString (toString ((h y : Nat) : Int))).length ≤ 31 := numS_len (hh y)
      refine ⟨rfl, ?_⟩
      unfold tYes
      refine iteT ?_
      refine ⟨_, rfl, (by simp only [len_cat]; omega), _, rfl, .inl ⟨y, rfl, by omega, _, rfl, (by simp only [len_cat]; omega), _, rfl, (by simp only [len_cat]; omega), ?_⟩⟩
      have dg : DGet H4 wd (.str y) (some (.int (h y : Int))) := .inl ⟨amK h ms, Sum.inr y, .inr ⟨od2, hfz2 _ s3⟩, rfl, (kmap_at (f := fun y => .int (h y : Int)) hym).symm⟩
      refine ⟨_, rfl, _, rfl, wd, _, rfl, dg, .inr ⟨_, rfl, num_log (hh y), _, rfl, (by simp only [len_cat]; omega), ?_⟩⟩
      refine ⟨_, hl, ?_, fun b o hb => ?_, ?_⟩
      · rw [List.length_map, List.length_map, List.length_take]
        exact small1000 (by omega)
      · rw [upd_ne (ne_of_none hb hL2)]
        exact s3 b o hb
      · rw [upd_same, List.take_add_one, hy, List.map_append, List.map_append]
        rfl
    rintro H3 ⟨s3, hl⟩
    rw [kmap_len, List.take_length] at hl
    refine ⟨hfz2 _ s3, ?_⟩
    have s5 : Same H4 (upd H3 wd (.dK (amK h ms))) := same_unlock w4 s3
    have hl5 : (upd H3 wd (.dK (amK h ms))) L2 = some (.lst ((ms.map fun n => lineS "water " n (h n)).map V.str)) := by
      rw [upd_ne ndL2.symm]
      exact hl
    have nLL : L2 ≠ L := fun e => by
      rw [e, upd_ne (ne_of hl4 w4 (fun z => by cases z)), hl4] at hL2
      cases hL2
    have hL5 := s5 _ _ hl4
    have s25 := s24.trans s5
    generalize upd H3 wd (.dK (amK h ms)) = H5 at s5 hl5 hL5 s25
    refine ⟨L, L2, _, _, rfl, rfl, hL5, hl5, by simp only [List.length_map]; omega, ?_⟩
    have hF : (upd H5 L (.lst ((ns.map fun n => lineS "call " n (f n)).map V.str ++ (ms.map fun n => lineS "water " n (h n)).map V.str))) L = some (.lst ((dayL ns ms f h).map V.str)) := by
      rw [upd_same, dayL, List.map_append]
    have sF : Same H (upd H5 L (.lst ((ns.map fun n => lineS "call " n (f n)).map V.str ++ (ms.map fun n => lineS "water " n (h n)).map V.str))) := fun b o hb => by
      rw [upd_ne (ne_of_none hb hHL)]
      exact s25 _ _ hb
    generalize upd H5 L (.lst ((ns.map fun n => lineS "call " n (f n)).map V.str ++ (ms.map fun n => lineS "water " n (h n)).map V.str)) = H6 at hF sF
    have c1 : ∀ l ∈ dayL ns ms f h, l.length ≤ 50 := fun l hl => by
      rcases List.mem_append.mp hl with hl | hl
      · obtain ⟨n, hn2, rfl⟩ := List.mem_map.mp hl
        exact lineS_len (by omega) (hnl n hn2) (hf n)
      · obtain ⟨n, hn2, rfl⟩ := List.mem_map.mp hl
        exact lineS_len (by omega) (hml n hn2) (hh n)
    have c2 : (dayL ns ms f h).length ≤ 82 := by
      unfold dayL
      rw [List.length_append, List.length_map, List.length_map]
      omega
    have c3 := sum_len c1
    refine ⟨⟨_, rfl⟩, _, rfl, _, L, _, rfl, rfl, .inl (.inl (.inl hF)), ?_, kk H6 sF⟩
    have en : ("\n" : Str).length = 1 := by decide +kernel
    rw [en]
    omega
end
end K0
end
section
set_option Elab.async false
set_option linter.all false
set_option maxRecDepth 100000
set_option maxHeartbeats 4000000
namespace K0
open PySem PySem.Spec PyProof.Rows L2 TL
/-! ### the law's lines -/
theorem lineS_add (x n : Str) (v : Nat) : x ++ n ++ (" " : Str) ++ numS v = lineS x n v := by
  have e : Str.empty ++ x = x := ext_tl (by rw [tl_append]; rfl)
  unfold lineS
  rw [e]
abbrev scLLines_N : List Str := ["_law_calls", "_law_waters", "_law_lines_here", "_law_name", "_law_weir"]
abbrev scLLines_S : Stmt := sLLines
theorem scLLines : FnScope scLLines_N ["_law_calls", "_law_waters"] (defScope sLLines) := ⟨rfl, rfl, rfl, by decide +kernel, rfl, by decide +kernel, by decide +kernel⟩
def spLLines : Sp := fun vs H Q _ => ∃ (cd wd : Addr) (ns ms : List Str) (f h : Str → Nat), vs = [.ref cd, .ref wd] ∧ H cd = some (.dK (amK f ns)) ∧ H wd = some (.dK (amK h ms)) ∧ ns.length ≤ 41 ∧ ms.length ≤ 41 ∧ (∀ n ∈ ns, n.length ≤ 8) ∧ (∀ n ∈ ms, n.length ≤ 8) ∧ (∀ y, f y ≤ mostC) ∧ (∀ y, h y ≤ mostC) ∧
  ∀ H' l, Same H H' → H l = none → H' l = some (.lst ((dayL ns ms f h).map V.str)) → Q (.ref l) H'
section
variable {P : Program} {w : World} {K : PySem.W.Frag} {mg : Str → Option Value} {base : Heap} {tS tM tL : Tok}
theorem ok_llines {f : Addr} {fd : FuncData} (F : FnP K "_law_lines" sLLines f fd) (B : Bl mg) : FnOk P w K mg base CX0 1 f fd ["_law_calls", "_law_waters"] spLLines := by
  refine F.ok scLLines (fun vs H Q E h => ?_) (fun cdv A outer s H vs Q E hr h => ?_)
  · obtain ⟨cd, wd, ns, ms, f, h, rfl, _⟩ := h
    rfl
  · obtain ⟨cd, wd, ns, ms, f, h, rfl, h2, w2, hn, hm, hnl, hml, hf, hh, kk⟩ := h
    have hu := hu_of hr
    refine ⟨_, PSs.nox (pss_cons
      (ps_lock (ps_setLc (i := 2) (own := [("_law_name", 3)]) (g := gName 3) (tt := tYes) (by rfl) scLLines.nd rfl rfl (sw_true rfl rfl rfl (by decide +kernel)) (pi_keys (pv 0)) (blkOk_by (own := [("_law_name", 3)]) (N := scLLines_N) (sc := defScope scLLines_S) (by decide +kernel)) (fun _ _ _ _ _ => (pg_name (i := 3) scLLines.nd rfl (Or.inl rfl))) (fun _ _ _ _ _ => pts_nil) (fun _ _ _ _ _ => (pe_op op_add_str (pe_op op_add_str (pe_op op_add_str pe_str (pv 3)) pe_str) (pe_callTy call_str_int (by rfl) B.str (by decide +kernel) (pa_cons (pe_dget hu (pv 0) (pv 3) (fun _ _ => rfl)) pa_nil))))))
      (pss_one
      (ps_ret (pe_op op_cat (pv 2) (pe_lock (pe_lc (own := [("_law_weir", 4)]) (g := gName 4) (tt := tYes) (by rfl) scLLines.nd (pi_keys (pv 1)) (blkOk_by (own := [("_law_weir", 4)]) (N := scLLines_N) (sc := defScope scLLines_S) (by decide +kernel)) (fun _ _ _ _ _ => (pg_name (i := 4) scLLines.nd rfl (Or.inl rfl))) (fun _ _ _ _ _ => pts_nil) (fun _ _ _ _ _ => (pe_op op_add_str (pe_op op_add_str (pe_op op_add_str pe_str (pv 4)) pe_str) (pe_callTy call_str_int (by rfl) B.str (by decide +kernel) (pa_cons (pe_dget hu (pv 1) (pv 4) (fun _ _ => rfl)) pa_nil)))))))))), ?_⟩
    have z40 : 40000 ≤ sizeLine := by rw [sizeLine_eq]; omega
    have e5 : ("call " : Str).length = 5 := by decide +kernel
    have e6 : ("water " : Str).length = 6 := by decide +kernel
    have e1 : (" " : Str).length = 1 := by decide +kernel
    refine ⟨cd, _, h2, trivial, fun od => ?_⟩
    refine ⟨_, rfl, cd, od, rfl, .inl ⟨_, upd_same, fun L hL => ?_⟩⟩
    have ndL : cd ≠ L := ne_of_none upd_same hL
    have hHL : H L = none := by
      rw [upd_ne (Ne.symm ndL)] at hL
      exact hL
    have hfz : ∀ H3, Same (upd H cd (.frz od (.dK (amK f ns)))) H3 → H3 cd = some (.frz od (.dK (amK f ns))) := fun H3 s => s _ _ upd_same
    refine lc_it (walk_keys (kvs := amK f ns)) (fun i H3 => Same (upd H cd (.frz od (.dK (amK f ns)))) H3 ∧ H3 L = some (.lst (((ns.take i).map fun n => lineS "call " n (f n)).map V.str))) ⟨same_upd hL, by rw [upd_same, List.take_zero]; rfl⟩ (fun i H3 hi hh => hfz _ hh.1) ?_ ?_
    · rintro i x H3 H4 hi ⟨s3, hl⟩ ⟨e, k0, v0, hkv, ev⟩
      subst e
      subst ev
      obtain ⟨y, hy, rfl, rfl⟩ := kmap_get hkv
      have hym : y ∈ ns := List.mem_of_getElem? hy
      have hy8 := hnl y hym
      have hn31 : (Str.ofString (toString ((f y : Nat) : Int))).length ≤ 31 := numS_len (hf y)
      refine ⟨rfl, ?_⟩
      unfold tYes
      refine iteT ?_
      have dg : DGet H4 cd (.str y) (some (.int (f y : Int))) := .inl ⟨amK f ns, Sum.inr y, .inr ⟨od, hfz _ s3⟩, rfl, (kmap_at (f := fun y => .int (f y : Int)) hym).symm⟩
      refine ⟨_, rfl, _, _, rfl, rfl, by omega, _, _, rfl, rfl, by simp only [len_cat]; omega, ?_⟩
      refine ⟨_, rfl, _, rfl, cd, _, rfl, dg, _, rfl, num_log (hf y), _, _, rfl, rfl, by simp only [len_cat]; omega, ?_⟩
      rw [lineS_add]
      refine ⟨_, hl, ?_, fun b o hb => ?_, ?_⟩
      · rw [List.length_map, List.length_map, List.length_take]
        exact small1000 (by omega)
      · rw [upd_ne (ne_of_none hb hL)]
        exact s3 b o hb
      · rw [upd_same, List.take_add_one, hy, List.map_append, List.map_append]
        rfl
    rintro H3 ⟨s3, hl⟩
    rw [kmap_len, List.take_length] at hl
    refine ⟨hfz _ s3, ?_⟩
    have s4 : Same H (upd H3 cd (.dK (amK f ns))) := same_unlock h2 s3
    have hl4 : (upd H3 cd (.dK (amK f ns))) L = some (.lst ((ns.map fun n => lineS "call " n (f n)).map V.str)) := by
      rw [upd_ne ndL.symm]
      exact hl
    have w4 := s4 _ _ w2
    show Ends.nx _ _ (upd H3 cd (.dK (amK f ns)))
    generalize upd H3 cd (.dK (amK f ns)) = H4 at s4 hl4 w4
    refine ⟨_, rfl, ?_⟩
    refine ⟨wd, _, w4, trivial, fun od2 => ?_⟩
    refine ⟨_, rfl, wd, od2, rfl, .inl ⟨_, upd_same, fun L2 hL2 => ?_⟩⟩
    have ndL2 : wd ≠ L2 := ne_of_none upd_same hL2
    have hfz2 : ∀ H3, Same (upd H4 wd (.frz od2 (.dK (amK h ms)))) H3 → H3 wd = some (.frz od2 (.dK (amK h ms))) := fun H3 s => s _ _ upd_same
    refine lc_it (walk_keys (kvs := amK h ms)) (fun i H3 => Same (upd H4 wd (.frz od2 (.dK (amK h ms)))) H3 ∧ H3 L2 = some (.lst (((ms.take i).map fun n => lineS "water " n (h n)).map V.str))) ⟨same_upd hL2, by rw [upd_same, List.take_zero]; rfl⟩ (fun i H3 hi hh => hfz2 _ hh.1) ?_ ?_
    · rintro i x H3 H4 hi ⟨s3, hl⟩ ⟨e, k0, v0, hkv, ev⟩
      subst e
      subst ev
      obtain ⟨y, hy, rfl, rfl⟩ := kmap_get hkv
      have hym : y ∈ ms := List.mem_of_getElem? hy
      have hy8 := hml y hym
      have hn31 : (Str.ofString (toString ((h y : Nat) : Int))).length ≤ 31 := numS_len (hh y)
      refine ⟨rfl, ?_⟩
      unfold tYes
      refine iteT ?_
      have dg : DGet H4 wd (.str y) (some (.int (h y : Int))) := .inl ⟨amK h ms, Sum.inr y, .inr ⟨od2, hfz2 _ s3⟩, rfl, (kmap_at (f := fun y => .int (h y : Int)) hym).symm⟩
      refine ⟨_, rfl, _, _, rfl, rfl, by omega, _, _, rfl, rfl, by simp only [len_cat]; omega, ?_⟩
      refine ⟨_, rfl, _, rfl, wd, _, rfl, dg, _, rfl, num_log (hh y), _, _, rfl, rfl, by simp only [len_cat]; omega, ?_⟩
      rw [lineS_add]
      refine ⟨_, hl, ?_, fun b o hb => ?_, ?_⟩
      · rw [List.length_map, List.length_map, List.length_take]
        exact small1000 (by omega)
      · rw [upd_ne (ne_of_none hb hL2)]
        exact s3 b o hb
      · rw [upd_same, List.take_add_one, hy, List.map_append, List.map_append]
        rfl
    rintro H3 ⟨s3, hl⟩
    rw [kmap_len, List.take_length] at hl
    refine ⟨hfz2 _ s3, ?_⟩
    have s5 : Same H4 (upd H3 wd (.dK (amK h ms))) := same_unlock w4 s3
    have hl5 : (upd H3 wd (.dK (amK h ms))) L2 = some (.lst ((ms.map fun n => lineS "water " n (h n)).map V.str)) := by
      rw [upd_ne ndL2.symm]
      exact hl
    have hL5 := s5 _ _ hl4
    have s25 := s4.trans s5
    generalize upd H3 wd (.dK (amK h ms)) = H5 at s5 hl5 hL5 s25
    refine ⟨L, L2, _, _, rfl, rfl, hL5, hl5, by simp only [List.length_map]; omega, fun M nM => ?_⟩
    have hF : (upd H5 M (.lst ((ns.map fun n => lineS "call " n (f n)).map V.str ++ (ms.map fun n => lineS "water " n (h n)).map V.str))) M = some (.lst ((dayL ns ms f h).map V.str)) := by
      rw [upd_same, dayL, List.map_append]
    exact kk _ M (s25.trans (same_upd nM)) (s25.free nM) hF
end
end K0
end
section
set_option Elab.async false
set_option linter.all false
set_option maxRecDepth 100000
set_option maxHeartbeats 4000000
namespace K0
open PySem PySem.Spec PyProof.Rows L2 TL
/-! ### a day is read, or refused -/
abbrev scLRead_N : List Str := ["_law_rights_here", "_law_text", "e"]
theorem scLRead : FnScope scLRead_N ["_law_rights_here", "_law_text"] (defScope sLRead) := ⟨rfl, rfl, rfl, by decide +kernel, rfl, by decide +kernel, by decide +kernel⟩
/-- what the class of NotText says -/
structure Te (K : PySem.W.Frag) (mg : Str → Option Value) (Ct : Addr) : Prop where
  xt : XfC K Ct
  ht : PySem.W.findIn K (.ref Ct) "line" = some none
  mT : mg "NotText" = some (.ref Ct)
  tt : PySem.W.exmOne K (.ref Ct) (.ref Ct) = some true
theorem takes0X {X : Cx} : Takes X (fun _ _ _ _ => False) := fun _ _ x => by
  obtain ⟨_, _, _, _, _, _, _, _, _, _, _, _, _, _, _, _, z⟩ := x
  exact z.elim
def spLRead (Cd Cg Cr : Addr) : Sp := fun vs H Q _ => ∃ (g q : Addr) (AR : List (Addr × Row)) (BR : List (Addr × RRow)) (ls : List Str), vs = [.ref g, .str (Txt.join "\n" ls)] ∧ RigOk Cg Cr H g q AR BR ∧ LnsD ls ∧
  (∀ i l, ls[i]? = some l → okAt (rnm (bOf BR)) (namesOf AR) ls i = false → (∀ j, j < i → okAt (rnm (bOf BR)) (namesOf AR) ls j = true) → i ≤ 90 ∧ ∀ t H', Same H H' → H' t = some (.tup [.str "refused", .int (i : Int)]) → Q (.ref t) H') ∧
  ((∀ j, j < ls.length → okAt (rnm (bOf BR)) (namesOf AR) ls j = true) → ∀ H' p, Same H H' → DayAt Cd H' p g (rnm (bOf BR)) (namesOf AR) (fP (addL "call" ls)) (fP (addL "water" ls)) → Q (.ref p) H')
section
variable {P : Program} {w : World} {K : PySem.W.Frag} {mg : Str → Option Value} {base : Heap} {tS tM tL : Tok}
theorem ok_lread {f fA Cd Cg Cr Ct : Addr} {fd fdA : FuncData} (F : FnP K "_law_read" sLRead f fd) (F_read : FnP K "read_day" sReadDay fA fdA) (g_read : mg "read_day" = some (.ref fA)) (G_read : FnOk P w K mg base (L2.CX P w) 7 fA fdA ["rights", "text"] (spReadDay Cd Cg Cr Ct)) (R0 : Te K mg Ct) (B : Bl mg) : FnOk P w K mg base CX0 8 f fd ["_law_rights_here", "_law_text"] (spLRead Cd Cg Cr) := by
  have b_read : Binds K fdA ["rights", "text"] [] := F_read.bindsN fun _ _ _ _ _ _ us hl => match us, hl with | [_, _], _ => rfl
  refine F.ok scLRead (fun vs H Q E h => ?_) (fun cdv A outer s H vs Q E hr h => ?_)
  · obtain ⟨g, q, AR, BR, ls, rfl, _⟩ := h
    rfl
  · obtain ⟨g, q, AR, BR, ls, rfl, R, hL, kT, kk⟩ := h
    have hr_read : Room 7 _ := hr
    have z40 : 40000 ≤ sizeLine := by rw [sizeLine_eq]; omega
    refine ⟨_, PSs.nox (pss_one (k0_try_named
      (l := [⟨.ref Ct, some 2, fun a cls d => tRet (tTup (tCons (tC (.str "refused")) (tCons (tXf a cls d Ct "line" (tVar 2)) tNil)))⟩])
      rfl rfl takes0X (fun W pn xe tk _ => pss_one (ps_ret (pe_callS G_read hr_read (by rfl) g_read F_read.kp b_read (fun σ => passAt tk σ) (pa_cons (pv 0) (pa_cons (pv 1) pa_nil)))))
      (.more ⟨rfl, by decide, .inl R0.mT⟩ ⟨scLRead.nd, rfl, rfl⟩ (fun a oe cls d pn hz hf => by
          dsimp only
          exact pss_one (ps_ret (pe_tup (pa_cons pe_str (pa_cons (pe_xf R0.xt R0.ht hz hf (pv 2)) pa_nil))))) .done))), ?_⟩
    refine ⟨_, rfl, _, rfl, g, q, AR, BR, ls, rfl, R, hL, fun i l hl hbad good => ?_, fun good H' p s1 D => ?_⟩
    · obtain ⟨h90, kt⟩ := kT i l hl hbad good
      refine ⟨h90, ?_⟩
      intro H' dd s1 ndd
      have s2 := s1.trans (same_upd ndd (o := .xd [(("line" : Str), .int (i : Int))]))
      have hdd : (upd H' dd (.xd [(("line" : Str), .int (i : Int))])) dd = some (.xd [(("line" : Str), .int (i : Int))]) := upd_same
      generalize upd H' dd (.xd [(("line" : Str), .int (i : Int))]) = H2 at s2 hdd
      refine ⟨true, R0.tt, fun _ a na => ?_, fun z => by cases z⟩
      refine ⟨_, rfl, rfl, rfl, dd, _, .int (i : Int), rfl, hdd, rfl, by show 2 ≤ sizeLine; omega, fun t nt => ?_⟩
      exact kt t _ (s2.trans (same_upd nt)) upd_same
    · exact kk good H' p s1 D
end
end K0
end
section
set_option Elab.async false
set_option linter.all false
set_option maxRecDepth 100000
set_option maxHeartbeats 4000000
namespace L2
open PySem PySem.Spec PyProof.Rows
/-- a text times a number -/
theorem op_mul_str {X : Cx} : OpR X (binaryOp .Mult) (fun x y H Q => ∃ a n, x = .str a ∧ y = .int n ∧ MulOk a n ∧ Q (.str (Txt.mul a n)) H) := by
  intro pins s σ H x y v u Q I rx ry h
  obtain ⟨a, n, rfl, rfl, hok, q⟩ := h
  obtain ⟨t, rfl⟩ := rx
  obtain ⟨t', rfl⟩ := ry
  exact PySem.SB.mul hok fun t' k => ⟨.str (Txt.mul a n), H, I.tok _, ⟨_, rfl⟩, q⟩
end L2
namespace K0
open PySem PySem.Spec PyProof.Rows L2 TL
/-! ### words that are no numerals -/
theorem fold_rep (c : Nat) : ∀ (n : Nat) (a : Array Nat), ((List.replicate n (#[c] : Array Nat)).foldl (· ++ ·) a).toList = a.toList ++ List.replicate n c
  | 0, a => by simp
  | n + 1, a => by
    rw [List.replicate_succ, List.foldl_cons, fold_rep c n, List.replicate_succ]
    simp
theorem mul_nine (n : Nat) (h : 2 ≤ n) : tl (Txt.mul "9" (n : Int)) = List.replicate n 57 := by
  have e9 : ("9" : Str).cps = #[57] := by decide +kernel
  have el : ("9" : Str).length = 1 := by decide +kernel
  unfold Txt.mul
  rw [if_neg (by omega)]
  have hb : (((n : Int) == 1) || (("9" : Str).length == 0)) = false := by
    rw [el]
    have : ((n : Int) == 1) = false := beq_eq_false_iff_ne.mpr (by omega)
    rw [this]
    rfl
  rw [if_neg (by rw [hb]; exact Bool.false_ne_true), e9]
  show ((List.replicate (n : Int).toNat (#[57] : Array Nat)).foldl (· ++ ·) #[]).toList = _
  rw [fold_rep]
  simp
theorem mul_ok (n : Nat) (h : 2 ≤ n) (h2 : n ≤ 10000) : MulOk "9" (n : Int) := by
  have el : ("9" : Str).length = 1 := by decide +kernel
  refine ⟨?_, fun _ _ => ?_, fun _ _ => ?_⟩
  · rw [decide_eq_false (show ¬ (n : Int) < -(2 ^ 63 : Int) by omega), decide_eq_false (show ¬ (n : Int) ≥ 2 ^ 63 by omega)]
    rfl
  · rw [el]
    have : (1 : Int) ≤ (2 ^ 63 - 1) / (n : Int) := by
      rw [Int.le_ediv_iff_mul_le (by omega)]
      omega
    intro h
    have h : ((1 : Nat) : Int) > (2 ^ 63 - 1) / (n : Int) := h
    omega
  · rw [el]
    show decide (1 * (n : Int).toNat > sizeLine) = false
    refine decide_eq_false ?_
    rw [sizeLine_eq]
    omega
theorem mul_ex : tl (Txt.mul "x" (9 : Int)) = List.replicate 9 120 := by decide +kernel
theorem mulx_ok : MulOk "x" (9 : Int) := by
  have el : ("x" : Str).length = 1 := by decide +kernel
  refine ⟨by decide, fun _ _ => ?_, fun _ _ => ?_⟩
  · rw [el]
    decide
  · rw [el]
    show decide (1 * (9 : Int).toNat > sizeLine) = false
    refine decide_eq_false ?_
    rw [sizeLine_eq]
    decide
structure BadN (w : Str) : Prop where
  no : numOk (tl w) = false
  sp : ∀ c ∈ tl w, c ≠ 10 ∧ c ≠ 32
  most : (tl w).length ≤ 5000
theorem bad_lit {w : Str} (h : (!numOk (tl w) && ((tl w).all fun c => decide (c ≠ 10) && decide (c ≠ 32)) && decide ((tl w).length ≤ 5000)) = true) : BadN w := by
  rw [Bool.and_eq_true, Bool.and_eq_true, Bool.not_eq_true', decide_eq_true_eq] at h
  exact ⟨h.1.1, fun c hc => by simpa using List.all_eq_true.mp h.1.2 c hc, h.2⟩
theorem dig_sp {l : List Nat} (h : Dig l) : ∀ c ∈ l, c ≠ 10 ∧ c ≠ 32 := fun c hc => by
  obtain ⟨h1, h2⟩ := h c hc
  omega
theorem bad_zero_n {v : Nat} (h : v ≤ mostC) : BadN ("0" ++ numS v) := by
  have e : tl ("0" ++ numS v) = 48 :: dg v := by
    rw [tl_append, tl_num]
    have : tl "0" = [48] := by decide +kernel
    rw [this]
    rfl
  refine ⟨by rw [e]; exact bad_zero (dg_ne v), fun c hc => ?_, by rw [e, List.length_cons]; have := dg31 h; omega⟩
  rw [e] at hc
  rcases List.mem_cons.mp hc with rfl | hc
  · omega
  · exact dig_sp (dg_dig v) c hc
theorem bad_n_x {v : Nat} (h : v ≤ mostC) : BadN (numS v ++ "x") := by
  have e : tl (numS v ++ "x") = dg v ++ [120] := by
    rw [tl_append, tl_num]
    have : tl "x" = [120] := by decide +kernel
    rw [this]
  refine ⟨by rw [e]; exact bad_sign (c := 120) (List.mem_append_right _ (List.mem_singleton.mpr rfl)) (by omega), fun c hc => ?_, by rw [e, List.length_append, List.length_singleton]; have := dg31 h; omega⟩
  rw [e] at hc
  rcases List.mem_append.mp hc with hc | hc
  · exact dig_sp (dg_dig v) c hc
  · rw [List.mem_singleton.mp hc]
    omega
theorem bad_big {v : Nat} (h : mostC < v) (h2 : v < 10 ^ 40) : BadN (numS v) := by
  refine ⟨by rw [tl_num]; exact bad_val (by rw [dg_val]; exact h), fun c hc => ?_, by rw [tl_num]; have := dg_len 39 v h2; omega⟩
  rw [tl_num] at hc
  exact dig_sp (dg_dig v) c hc
theorem digV_nine : ∀ n : Nat, digV (List.replicate n 57) + 1 = 10 ^ n
  | 0 => rfl
  | n + 1 => by
    have ih := digV_nine n
    rw [List.replicate_succ', digV_snoc, Nat.pow_succ]
    omega
theorem bad_nine {n : Nat} (h : 31 ≤ n) (h2 : n ≤ 5000) : BadN (Txt.mul "9" (n : Int)) := by
  have e := mul_nine n (by omega)
  refine ⟨?_, fun c hc => ?_, by rw [e, List.length_replicate]; exact h2⟩
  · rw [e]
    by_cases h3 : n = 31
    · subst h3
      refine bad_val ?_
      have := digV_nine 31
      have e31 : (10 : Nat) ^ 31 = 10000000000000000000000000000000 := by decide +kernel
      unfold mostC
      omega
    · exact bad_len (.inr (by rw [List.length_replicate]; omega))
  · rw [e] at hc
    rw [(List.mem_replicate.mp hc).2]
    omega
abbrev scLNumber_N : List Str := ["_law_bag_here", "_law_cubes_here"]
theorem scLNumber : FnScope scLNumber_N ["_law_bag_here"] (defScope sLNumber) := ⟨rfl, rfl, rfl, by decide +kernel, rfl, by decide +kernel, by decide +kernel⟩
def spLNumber : Sp := fun vs H Q _ => ∃ (p : Addr), vs = [.ref p] ∧ BagAt H p ∧ ∀ (w : Str) (H' : Hp), BadN w → Upto p H H' → BagAt H' p → Q (.str w) H'
section
variable {P : Program} {w : World} {K : PySem.W.Frag} {mg : Str → Option Value} {base : Heap} {tS tM tL : Tok}
theorem ok_lnumber {f fT fO fC : Addr} {fd fdT fdO fdC : FuncData} (F : FnP K "_law_number" sLNumber f fd) (F_law_take : FnP K "_law_take" sTake fT fdT) (g_law_take : mg "_law_take" = some (.ref fT)) (F_law_of : FnP K "_law_of" sOf fO fdO) (g_law_of : mg "_law_of" = some (.ref fO)) (F_law_cubes : FnP K "_law_cubes" sLCubes fC fdC) (g_law_cubes : mg "_law_cubes" = some (.ref fC)) (B : Bl mg) : FnOk P w K mg base CX0 3 f fd ["_law_bag_here"] spLNumber := by
  have G_law_of : FnOk P w K mg base CX0 2 fO fdO ["_law_bag_here", "_law_some"] (spOf K) := ok_of F_law_of F_law_take B g_law_take
  have b_law_of : Binds K fdO ["_law_bag_here", "_law_some"] [] := F_law_of.bindsN fun _ _ _ _ _ _ us hl => match us, hl with | [_, _], _ => rfl
  have G_law_cubes : FnOk P w K mg base CX0 2 fC fdC ["_law_bag_here"] spLCubes := ok_lcubes F_law_cubes F_law_take g_law_take B
  have b_law_cubes : Binds K fdC ["_law_bag_here"] [] := F_law_cubes.bindsN fun _ _ _ _ _ _ us hl => match us, hl with | [_], _ => rfl
  refine F.ok scLNumber (fun vs H Q E h => ?_) (fun cdv A outer s H vs Q E hr h => ?_)
  · obtain ⟨p, rfl, _⟩ := h
    rfl
  · obtain ⟨p, rfl, hB, kk⟩ := h
    have hr_law_of : Room 2 _ := hr
    have hr_law_cubes : Room 2 _ := hr
    refine ⟨_, PSs.nox (pss_cons
      (ps_set (i := 1) scLNumber.nd rfl (Or.inl rfl) (pe_call G_law_cubes hr_law_cubes (by rfl) g_law_cubes F_law_cubes.kp b_law_cubes .nil pass0 (pa_cons (pv 0) pa_nil)))
      (pss_one
      (ps_ret (pe_call G_law_of hr_law_of (by rfl) g_law_of F_law_of.kp b_law_of .nil pass0 (pa_cons (pv 0) (pa_cons (pe_lst (pa_cons pe_str (pa_cons pe_str (pa_cons pe_str (pa_cons (pe_op op_add_str pe_str (pe_callTy call_str_int (by rfl) B.str (by decide +kernel) (pa_cons (pv 1) pa_nil))) (pa_cons pe_str (pa_cons (pe_callTy call_str_int (by rfl) B.str (by decide +kernel) (pa_cons (pe_op op_add (pe_op op_pow pe_int pe_int) pe_int) pa_nil)) (pa_cons (pe_callTy call_str_int (by rfl) B.str (by decide +kernel) (pa_cons (pe_op op_pow pe_int pe_int) pa_nil)) (pa_cons pe_str (pa_cons pe_str (pa_cons pe_str (pa_cons (pe_op op_add_str (pe_callTy call_str_int (by rfl) B.str (by decide +kernel) (pa_cons (pv 1) pa_nil)) pe_str) (pa_cons (pe_op op_mul_str pe_str pe_int) (pa_cons (pe_op op_mul_str pe_str pe_int) (pa_cons pe_str (pa_cons pe_str pa_nil)))))))))))))))) pa_nil)))))), ?_⟩
    have z40 : 40000 ≤ sizeLine := by rw [sizeLine_eq]; omega
    refine ⟨_, rfl, p, rfl, hB, fun v H1 hv u1 B1 => ?_⟩
    have hv31 : (Str.ofString (toString ((v : Nat) : Int))).length ≤ 31 := numS_len hv
    have l0 : ("0" : Str).length = 1 := by decide +kernel
    have lx : ("x" : Str).length = 1 := by decide +kernel
    have e30 : ((10 : Int) ^ (30 : Int).toNat + 1) = ((1000000000000000000000000000001 : Nat) : Int) := by decide +kernel
    have e31 : ((10 : Int) ^ (31 : Int).toNat) = ((10000000000000000000000000000000 : Nat) : Int) := by decide +kernel
    refine ⟨_, rfl, ?_⟩
    refine ⟨_, rfl, _, rfl, num_log hv, _, _, rfl, rfl, by omega, ?_⟩
    refine ⟨10, 30, rfl, rfl, ⟨by decide, by decide, by decide⟩, _, _, rfl, rfl, _, rfl, by decide +kernel, ?_⟩
    refine ⟨10, 31, rfl, rfl, ⟨by decide, by decide, by decide⟩, _, rfl, by decide +kernel, ?_⟩
    refine ⟨_, rfl, _, rfl, num_log hv, _, _, rfl, rfl, by omega, ?_⟩
    refine ⟨_, ((31 : Nat) : Int), rfl, rfl, mul_ok 31 (by decide) (by decide), ?_⟩
    refine ⟨_, ((5000 : Nat) : Int), rfl, rfl, mul_ok 5000 (by decide) (by decide), ?_⟩
    refine ⟨by show 15 ≤ sizeLine; omega, fun l nl => ?_⟩
    rw [e30, e31]
    have nlp : l ≠ p := fun e => by
      obtain ⟨x, hx, _⟩ := B1
      rw [e, hx] at nl
      cases nl
    have good : ∀ y ∈ ([("" : Str), "-1", "+1", "0" ++ numS v, "00", numS 1000000000000000000000000000001, numS 10000000000000000000000000000000, "1_0", "1.0", "x", numS v ++ "x", Txt.mul "9" ((31 : Nat) : Int), Txt.mul "9" ((5000 : Nat) : Int), "1e3", "0x1"] : List Str), BadN y := fun y hy => by
      simp only [List.mem_cons, List.not_mem_nil, or_false] at hy
      rcases hy with rfl | rfl | rfl | rfl | rfl | rfl | rfl | rfl | rfl | rfl | rfl | rfl | rfl | rfl | rfl
      · exact bad_lit (by decide +kernel)
      · exact bad_lit (by decide +kernel)
      · exact bad_lit (by decide +kernel)
      · exact bad_zero_n hv
      · exact bad_lit (by decide +kernel)
      · exact bad_big (by decide +kernel) (by decide +kernel)
      · exact bad_big (by decide +kernel) (by decide +kernel)
      · exact bad_lit (by decide +kernel)
      · exact bad_lit (by decide +kernel)
      · exact bad_lit (by decide +kernel)
      · exact bad_n_x hv
      · exact bad_nine (by decide) (by decide)
      · exact bad_nine (by decide) (by decide)
      · exact bad_lit (by decide +kernel)
      · exact bad_lit (by decide +kernel)
    obtain ⟨b1, hb1, hv1⟩ := id B1
    refine ⟨p, l, ([("" : Str), "-1", "+1", "0" ++ numS v, "00", numS 1000000000000000000000000000001, numS 10000000000000000000000000000000, "1_0", "1.0", "x", numS v ++ "x", Txt.mul "9" ((31 : Nat) : Int), Txt.mul "9" ((5000 : Nat) : Int), "1e3", "0x1"] : List Str).map V.str, rfl, ⟨b1, by rw [upd_ne (ne_of_none hb1 nl)]; exact hb1, hv1⟩, nlp, .inl (.inl upd_same), by rw [List.length_map]; exact Nat.zero_lt_succ _, by rw [List.length_map]; show 15 ≤ 1000; omega, fun i z xs hz hx => ?_⟩
    rw [List.getElem?_map] at hz
    obtain ⟨y, hy, rfl⟩ := Option.map_eq_some_iff.mp hz
    exact kk y _ (good y (List.mem_of_getElem? hy)) ((u1.trans (.of (same_upd nl))).trans Upto.at_) ⟨xs, upd_same, hx⟩
end
end K0
end
section
set_option Elab.async false
set_option linter.all false
set_option maxRecDepth 100000
set_option maxHeartbeats 2000000
namespace K0
open PySem PySem.Spec PyProof.Rows L2 TL
/-! ### words joined, and back -/
structure Wd1 (w : Str) : Prop where
  sp : ∀ c ∈ tl w, c ≠ 10 ∧ c ≠ 32
def cost (ws : List Str) : Nat := (ws.map fun w => (tl w).length + 1).sum
theorem cost_cons (w : Str) (ws : List Str) : cost (w :: ws) = (tl w).length + 1 + cost ws := by
  unfold cost
  rw [List.map_cons, List.sum_cons]
theorem cost_nil : cost [] = 0 := rfl
theorem joinL_cost (s : Nat) : ∀ {ps : List (List Nat)}, ps ≠ [] → (joinL [s] ps).length + 1 = (ps.map fun p => p.length + 1).sum
  | [], h => absurd rfl h
  | [p], _ => by simp [joinL]
  | p :: q :: r, _ => by
    have ih := joinL_cost s (ps := q :: r) (by simp)
    show (p ++ ([s] ++ joinL [s] (q :: r))).length + 1 = _
    rw [List.length_append, List.length_append, List.length_singleton, List.map_cons, List.sum_cons, ← ih]
    omega
theorem join_cost {ws : List Str} (h : ws ≠ []) : (tl (Txt.join " " ws)).length + 1 = cost ws := by
  rw [join_eq, tl_join, tl_sp, joinL_cost 32 (fun e => h (List.map_eq_nil_iff.mp e)), List.map_map]
  rfl
theorem joinL_mem (s : Nat) : ∀ {ps : List (List Nat)} {c : Nat}, c ∈ joinL [s] ps → c = s ∨ ∃ p ∈ ps, c ∈ p
  | [], _, h => by cases h
  | [p], _, h => .inr ⟨p, List.mem_cons_self, h⟩
  | p :: q :: r, c, h => by
    have h : c ∈ p ++ ([s] ++ joinL [s] (q :: r)) := h
    rcases List.mem_append.mp h with h | h
    · exact .inr ⟨p, List.mem_cons_self, h⟩
    rcases List.mem_append.mp h with h | h
    · exact .inl (List.mem_singleton.mp h)
    · rcases joinL_mem s h with h | ⟨z, hz, h⟩
      · exact .inl h
      · exact .inr ⟨z, List.mem_cons_of_mem _ hz, h⟩
theorem wOf_join {ps : List Str} (hne : ps ≠ []) (h : ∀ p ∈ ps, Wd1 p) : wOf (Txt.join " " ps) = ps := split_join tl_sp (by decide +kernel) hne fun p hp z => ((h p hp).sp 32 z).2 rfl
theorem join_nl {ps : List Str} (h : ∀ p ∈ ps, Wd1 p) : (10 : Nat) ∉ tl (Txt.join " " ps) := fun hc => by
  rw [join_eq, tl_join, tl_sp] at hc
  rcases joinL_mem 32 hc with h2 | ⟨p, hp, h2⟩
  · omega
  · obtain ⟨w, hw, rfl⟩ := List.mem_map.mp hp
    exact ((h w hw).sp 10 h2).1 rfl
/-- a line that is wrong behind these lines -/
structure WrongL (ns ms ls : List Str) (l : Str) : Prop where
  no : lineB ns ms (keysL (addL "call" ls)) (keysL (addL "water" ls)) (wOf l) = false
  nl : (10 : Nat) ∉ tl l
  most : (tl l).length ≤ 5200
theorem wrong_join {ns ms ls ws : List Str} (hne : ws ≠ []) (h : ∀ p ∈ ws, Wd1 p) (hc : cost ws ≤ 5201) (hb : lineB ns ms (keysL (addL "call" ls)) (keysL (addL "water" ls)) ws = false) : WrongL ns ms ls (Txt.join " " ws) := by
  refine ⟨by rw [wOf_join hne h]; exact hb, join_nl h, ?_⟩
  have := join_cost hne
  omega
theorem wd_name {n : Str} (h : NameOk n) : Wd1 n := ⟨fun c hc => by
  have := h.low c hc
  have : 97 ≤ c ∧ c ≤ 122 := this
  omega⟩
theorem wd_num (v : Nat) : Wd1 (numS v) := ⟨fun c hc => by
  rw [tl_num] at hc
  exact dig_sp (dg_dig v) c hc⟩
theorem wd_lit {w : Str} (h : ((tl w).all fun c => decide (c ≠ 10) && decide (c ≠ 32)) = true) : Wd1 w := ⟨fun c hc => by simpa using List.all_eq_true.mp h c hc⟩
theorem wd_bad {w : Str} (h : BadN w) : Wd1 w := ⟨h.sp⟩
/-- a line of a day -/
def LineOk (ns ms : List Str) (l : Str) : Prop := ∃ n v, v ≤ mostC ∧ ((n ∈ ns ∧ l = lineS "call " n v) ∨ (n ∈ ms ∧ l = lineS "water " n v))
theorem lineS_join (x y n : Str) (v : Nat) (h : x = y ++ " ") : lineS x n v = Txt.join " " [y, n, numS v] := by
  refine ext_tl ?_
  unfold lineS
  rw [h, join_eq, tl_join, tl_sp, tl_append, tl_append, tl_append, tl_append, tl_append, tl_sp]
  show tl Str.empty ++ (tl y ++ [32]) ++ tl n ++ [32] ++ tl (numS v) = tl y ++ ([32] ++ (tl n ++ ([32] ++ tl (numS v))))
  have : tl Str.empty = [] := rfl
  rw [this]
  simp only [List.nil_append, List.append_assoc]
theorem call_sp : ("call " : Str) = "call" ++ " " := by decide +kernel
theorem water_sp : ("water " : Str) = "water" ++ " " := by decide +kernel
theorem words_call {n : Str} (h : NameOk n) (v : Nat) : wOf (lineS "call " n v) = (["call", n, numS v] : List Str) := by
  rw [lineS_join _ "call" n v call_sp]
  refine wOf_join (by simp) fun p hp => ?_
  rcases List.mem_cons.mp hp with rfl | hp
  · exact wd_lit (by decide +kernel)
  rcases List.mem_cons.mp hp with rfl | hp
  · exact wd_name h
  · rw [List.mem_singleton.mp hp]; exact wd_num v
theorem words_water {n : Str} (h : NameOk n) (v : Nat) : wOf (lineS "water " n v) = (["water", n, numS v] : List Str) := by
  rw [lineS_join _ "water" n v water_sp]
  refine wOf_join (by simp) fun p hp => ?_
  rcases List.mem_cons.mp hp with rfl | hp
  · exact wd_lit (by decide +kernel)
  rcases List.mem_cons.mp hp with rfl | hp
  · exact wd_name h
  · rw [List.mem_singleton.mp hp]; exact wd_num v
theorem line_nl {x n : Str} (hx : Wd1 x ∨ x = "call " ∨ x = "water ") (h : NameOk n) (v : Nat) : (10 : Nat) ∉ tl (lineS x n v) := fun hc => by
  unfold lineS at hc
  rw [tl_append, tl_append, tl_append, tl_append] at hc
  simp only [List.mem_append] at hc
  rcases hc with (((hc | hc) | hc) | hc) | hc
  · cases hc
  · rcases hx with hx | rfl | rfl
    · exact (hx.sp 10 hc).1 rfl
    · revert hc; decide +kernel
    · revert hc; decide +kernel
  · exact ((wd_name h).sp 10 hc).1 rfl
  · revert hc; decide +kernel
  · exact ((wd_num v).sp 10 hc).1 rfl
/-- the words of a line of a day -/
theorem line_words {ns ms : List Str} {l : Str} (hn : ∀ n ∈ ns, NameOk n) (hm : ∀ n ∈ ms, NameOk n) (h : LineOk ns ms l) : ∃ a n v, wOf l = ([a, n, numS v] : List Str) ∧ v ≤ mostC ∧ ((a = "call" ∧ n ∈ ns) ∨ (a = "water" ∧ n ∈ ms)) ∧ (10 : Nat) ∉ tl l ∧ (tl l).length ≤ 50 := by
  obtain ⟨n, v, hv, ⟨h1, rfl⟩ | ⟨h1, rfl⟩⟩ := h
  · refine ⟨"call", n, v, words_call (hn n h1) v, hv, .inl ⟨rfl, h1⟩, line_nl (.inr (.inl rfl)) (hn n h1) v, ?_⟩
    rw [← len_tl]
    exact lineS_len (by decide +kernel) (by rw [len_list]; exact (hn n h1).most) hv
  · refine ⟨"water", n, v, words_water (hm n h1) v, hv, .inr ⟨rfl, h1⟩, line_nl (.inr (.inr rfl)) (hm n h1) v, ?_⟩
    rw [← len_tl]
    exact lineS_len (by decide +kernel) (by rw [len_list]; exact (hm n h1).most) hv
/-! ### wrong lines -/
section
variable {ns ms zc zw : List Str}
theorem no_head {a b c : Str} (h1 : ¬ a = "call") (h2 : ¬ a = "water") : lineB ns ms zc zw [a, b, c] = false := by
  show ((if a = "call" then _ else decide (a = "water") && _) && numOk (tl c)) = false
  rw [if_neg h1, decide_eq_false h2]
  rfl
theorem no_name {a b c : Str} (h1 : b ∉ ns) (h2 : b ∉ ms) : lineB ns ms zc zw [a, b, c] = false := by
  show ((if a = "call" then decide (b ∈ ns) && !decide (b ∈ zc) else decide (a = "water") && (decide (b ∈ ms) && !decide (b ∈ zw))) && numOk (tl c)) = false
  rw [decide_eq_false h1, decide_eq_false h2]
  split <;> simp
theorem no_call {b c : Str} (h1 : b ∉ ns) : lineB ns ms zc zw ["call", b, c] = false := by
  show ((if ("call" : Str) = "call" then decide (b ∈ ns) && !decide (b ∈ zc) else decide (("call" : Str) = "water") && (decide (b ∈ ms) && !decide (b ∈ zw))) && numOk (tl c)) = false
  rw [if_pos rfl, decide_eq_false h1]
  simp
theorem no_water {b c : Str} (h1 : b ∉ ms) : lineB ns ms zc zw ["water", b, c] = false := by
  have nw : ¬ ("water" : Str) = "call" := by decide +kernel
  show ((if ("water" : Str) = "call" then decide (b ∈ ns) && !decide (b ∈ zc) else decide (("water" : Str) = "water") && (decide (b ∈ ms) && !decide (b ∈ zw))) && numOk (tl c)) = false
  rw [if_neg nw, decide_eq_false h1]
  simp
theorem no_num {a b c : Str} (h : numOk (tl c) = false) : lineB ns ms zc zw [a, b, c] = false := by
  show ((if a = "call" then decide (b ∈ ns) && !decide (b ∈ zc) else decide (a = "water") && (decide (b ∈ ms) && !decide (b ∈ zw))) && numOk (tl c)) = false
  rw [h, Bool.and_false]
theorem no_twice {a b c : Str} (h : (a = "call" ∧ b ∈ zc) ∨ (a = "water" ∧ b ∈ zw)) : lineB ns ms zc zw [a, b, c] = false := by
  have nw : ¬ ("water" : Str) = "call" := by decide +kernel
  show ((if a = "call" then decide (b ∈ ns) && !decide (b ∈ zc) else decide (a = "water") && (decide (b ∈ ms) && !decide (b ∈ zw))) && numOk (tl c)) = false
  rcases h with ⟨rfl, h⟩ | ⟨rfl, h⟩
  · rw [if_pos rfl, decide_eq_true h]
    simp
  · rw [if_neg nw, decide_eq_true h]
    simp
end
theorem key_mem {ls : List Str} {l a b c : Str} (hl : l ∈ ls) (h : wOf l = [a, b, c]) : b ∈ keysL (addL a ls) := by
  have eh : headW l = a := by unfold headW; rw [h]; rfl
  have e1 : w1 l = b := by unfold w1; rw [h]; rfl
  refine List.mem_map.mpr ⟨(b, digV (tl (w2 l))), List.mem_map.mpr ⟨l, List.mem_filter.mpr ⟨hl, decide_eq_true eh⟩, by rw [e1]⟩, rfl⟩
theorem sp_beg {ws : List Str} (h : ws ≠ []) : " " ++ Txt.join " " ws = Txt.join " " (("" : Str) :: ws) := by
  refine ext_tl ?_
  rw [tl_append, join_eq, join_eq, tl_join, tl_join, tl_sp]
  cases ws with
  | nil => exact absurd rfl h
  | cons a r => rfl
theorem joinL_end (s : Nat) : ∀ {ps : List (List Nat)}, ps ≠ [] → joinL [s] ps ++ [s] = joinL [s] (ps ++ [[]])
  | [], h => absurd rfl h
  | [p], _ => by
    show p ++ [s] = p ++ ([s] ++ joinL [s] [[]])
    simp [joinL]
  | p :: q :: r, _ => by
    have ih := joinL_end s (ps := q :: r) (by simp)
    show (p ++ ([s] ++ joinL [s] (q :: r))) ++ [s] = p ++ ([s] ++ joinL [s] ((q :: r) ++ [[]]))
    rw [← ih]
    simp only [List.append_assoc]
theorem sp_end {ws : List Str} (h : ws ≠ []) : Txt.join " " ws ++ " " = Txt.join " " (ws ++ [("" : Str)]) := by
  refine ext_tl ?_
  rw [tl_append, join_eq, join_eq, tl_join, tl_join, tl_sp, joinL_end 32 (fun e => h (List.map_eq_nil_iff.mp e)), List.map_append]
  rfl
theorem sp_two (a b c : Str) : Txt.join "  " [a, b, c] = Txt.join " " [a, "", b, "", c] := by
  have e2 : tl "  " = [32, 32] := by decide +kernel
  refine ext_tl ?_
  rw [join_eq, join_eq, tl_join, tl_join, tl_sp, e2]
  rfl
theorem nl_end {ls : List Str} (h : ls ≠ []) : Txt.join "\n" ls ++ "\n" = Txt.join "\n" (ls ++ [("" : Str)]) := by
  refine ext_tl ?_
  rw [tl_append, join_eq, join_eq, tl_join, tl_join, tl_nl, joinL_end 10 (fun e => h (List.map_eq_nil_iff.mp e)), List.map_append]
  rfl
theorem nl_none : ("" : Str) = Txt.join "\n" [("" : Str)] := by
  refine ext_tl ?_
  rw [join_eq, tl_join]
  rfl
theorem wOf_empty : wOf "" = [("" : Str)] := by decide +kernel
theorem wOf_blank : wOf " " = [("" : Str), ""] := by decide +kernel
end K0
end
section
set_option Elab.async false
set_option linter.all false
set_option maxRecDepth 100000
set_option maxHeartbeats 8000000
namespace K0
open PySem PySem.Spec PyProof.Rows L2 TL
/-! ### lists of texts as data -/
section
variable {K : PySem.W.Frag}
theorem eqv_nil (l : List Str) : PyData.eqv (.list (l.map PyData.str)) (.list []) = decide (l = []) := by
  cases l with
  | nil => simp only [List.map_nil, PyData.eqv, PyData.eqvAll]; rfl
  | cons a r => simp only [List.map_cons, PyData.eqv, PyData.eqvAll]; rfl
end
theorem plain_all {y : Str} (h : ∀ c ∈ tl y, c < 1114112) : Plain y := h
theorem plain_low {n : Str} (h : NameOk n) : Plain n := fun c hc => by
  have : 97 ≤ c ∧ c ≤ 122 := h.low c hc
  omega
theorem plain_num (v : Nat) : Plain (numS v) := fun c hc => by
  have hc : c ∈ tl (numS v) := hc
  rw [tl_num] at hc
  have := dg_dig v c hc
  omega
theorem plain_cat {a b : Str} (ha : Plain a) (hb : Plain b) : Plain (a ++ b) := fun c hc => by
  have : c ∈ tl a ++ tl b := by rw [← tl_append]; exact hc
  rcases List.mem_append.mp this with h | h
  · exact ha c h
  · exact hb c h
theorem plain_lit {y : Str} (h : (y.cps.toList.all fun c => decide (c < 1114112)) = true) : Plain y := fun c hc => of_decide_eq_true (List.all_eq_true.mp h c hc)
theorem plain_line {ns ms : List Str} {l : Str} (hn : ∀ n ∈ ns, NameOk n) (hm : ∀ n ∈ ms, NameOk n) (h : LineOk ns ms l) : Plain l := by
  obtain ⟨n, v, hv, ⟨h1, rfl⟩ | ⟨h1, rfl⟩⟩ := h
  · exact plain_cat (plain_cat (plain_cat (plain_cat (plain_lit rfl) (plain_lit (by decide +kernel))) (plain_low (hn n h1))) (plain_lit (by decide +kernel))) (plain_num v)
  · exact plain_cat (plain_cat (plain_cat (plain_cat (plain_lit rfl) (plain_lit (by decide +kernel))) (plain_low (hm n h1))) (plain_lit (by decide +kernel))) (plain_num v)
theorem bagS' {H H1 : Hp} {b : Addr} (hB : BagAt H b) (s : Same H H1) : BagAt H1 b := by
  obtain ⟨x, hx, hv⟩ := hB
  exact ⟨x, s _ _ hx, hv⟩
/-! ### a wrong line -/
abbrev scLWrong_N : List Str := ["_law_bag_here", "_law_lines_here", "_law_names_here", "_law_weirs", "_law_words", "_law_kind", "_law_strange", "_law_weir"]
abbrev scLWrong_S : Stmt := sLWrong
theorem scLWrong : FnScope scLWrong_N ["_law_bag_here", "_law_lines_here", "_law_names_here", "_law_weirs"] (defScope sLWrong) := ⟨rfl, rfl, rfl, by decide +kernel, rfl, by decide +kernel, by decide +kernel⟩
def spLWrong : Sp := fun vs H Q _ => ∃ (p ll nl wl : Addr) (ls ns ms : List Str), vs = [.ref p, .ref ll, .ref nl, .ref wl] ∧ BagAt H p ∧ ll ≠ p ∧ nl ≠ p ∧ wl ≠ p ∧ H ll = some (.lst (ls.map V.str)) ∧ H nl = some (.lst (ns.map V.str)) ∧ H wl = some (.lst (ms.map V.str)) ∧
  ls.length ≤ 90 ∧ ms ≠ [] ∧ ns.length ≤ 41 ∧ ms.length ≤ 41 ∧ (∀ n ∈ ns, NameOk n) ∧ (∀ n ∈ ms, NameOk n) ∧ (∀ n ∈ ms, n ≠ "sea") ∧ (∀ l ∈ ls, LineOk ns ms l) ∧ ∀ H' l', Upto p H H' → BagAt H' p → WrongL ns ms ls l' → Q (.str l') H'
section
variable {P : Program} {w : World} {K : PySem.W.Frag} {mg : Str → Option Value} {base : Heap} {tS tM tL : Tok}
theorem ok_lwrong {f fT fO fC fN : Addr} {fd fdT fdO fdC fdN : FuncData} (F : FnP K "_law_wrong" sLWrong f fd) (F_law_take : FnP K "_law_take" sTake fT fdT) (g_law_take : mg "_law_take" = some (.ref fT)) (F_law_of : FnP K "_law_of" sOf fO fdO) (g_law_of : mg "_law_of" = some (.ref fO)) (F_law_cubes : FnP K "_law_cubes" sLCubes fC fdC) (g_law_cubes : mg "_law_cubes" = some (.ref fC)) (F_law_number : FnP K "_law_number" sLNumber fN fdN) (g_law_number : mg "_law_number" = some (.ref fN)) (B : Bl mg) : FnOk P w K mg base CX0 4 f fd ["_law_bag_here", "_law_lines_here", "_law_names_here", "_law_weirs"] spLWrong := by
  have G_law_take : FnOk P w K mg base CX0 1 fT fdT ["_law_bag_here", "_law_many"] spTake := ok_take F_law_take B
  have b_law_take : Binds K fdT ["_law_bag_here", "_law_many"] [] := F_law_take.bindsN fun _ _ _ _ _ _ us hl => match us, hl with | [_, _], _ => rfl
  have G_law_of : FnOk P w K mg base CX0 2 fO fdO ["_law_bag_here", "_law_some"] (spOf K) := ok_of F_law_of F_law_take B g_law_take
  have b_law_of : Binds K fdO ["_law_bag_here", "_law_some"] [] := F_law_of.bindsN fun _ _ _ _ _ _ us hl => match us, hl with | [_, _], _ => rfl
  have G_law_cubes : FnOk P w K mg base CX0 2 fC fdC ["_law_bag_here"] spLCubes := ok_lcubes F_law_cubes F_law_take g_law_take B
  have b_law_cubes : Binds K fdC ["_law_bag_here"] [] := F_law_cubes.bindsN fun _ _ _ _ _ _ us hl => match us, hl with | [_], _ => rfl
  have G_law_number : FnOk P w K mg base CX0 3 fN fdN ["_law_bag_here"] spLNumber := ok_lnumber F_law_number F_law_take g_law_take F_law_of g_law_of F_law_cubes g_law_cubes B
  have b_law_number : Binds K fdN ["_law_bag_here"] [] := F_law_number.bindsN fun _ _ _ _ _ _ us hl => match us, hl with | [_], _ => rfl
  refine F.ok scLWrong (fun vs H Q E h => ?_) (fun cdv A outer s H vs Q E hr h => ?_)
  · obtain ⟨p, ll, nl, wl, ls, ns, ms, rfl, _⟩ := h
    rfl
  · obtain ⟨p, ll, nl, wl, ls, ns, ms, rfl, hB, nlp, nnp, nwp, hll, hnl, hwl, hls90, hms0, hns41, hms41, hns, hms, hsea, hok, kk⟩ := h
    have hu := hu_of hr
    have hu64 := hr.units
    have hr_law_take : Room 1 _ := hr.mono (by decide)
    have hr_law_of : Room 2 _ := hr.mono (by decide)
    have hr_law_cubes : Room 2 _ := hr.mono (by decide)
    have hr_law_number : Room 3 _ := hr
    refine ⟨_, PSs.nox (pss_cons
      (ps_set (i := 4) scLWrong.nd rfl (Or.inl rfl) (pe_ifExp (pt_cmpR (op_neD hu64) (pv 1) (pe_lst pa_nil) (nomark _)) (pe_split (pe_call G_law_of hr_law_of (by rfl) g_law_of F_law_of.kp b_law_of .nil pass0 (pa_cons (pv 0) (pa_cons (pv 1) pa_nil))) pe_str) (pe_lst (pa_cons pe_str (pa_cons (pe_call G_law_of hr_law_of (by rfl) g_law_of F_law_of.kp b_law_of .nil pass0 (pa_cons (pv 0) (pa_cons (pv 3) pa_nil))) (pa_cons pe_str pa_nil))))))
      (pss_cons
      (ps_set (i := 5) scLWrong.nd rfl (Or.inl rfl) (pe_call G_law_take hr_law_take (by rfl) g_law_take F_law_take.kp b_law_take .nil pass0 (pa_cons (pv 0) (pa_cons pe_int pa_nil))))
      (pss_cons
      (ps_if (pt_cmpR op_eq (pv 5) pe_int (nomark _)) (pss_one
      (ps_ret (pe_join pe_str (pe_slice sl_list (pv 4) po_none (po_some pe_int))))) pss_nil)
      (pss_cons
      (ps_if (pt_cmpR op_eq (pv 5) pe_int (nomark _)) (pss_one
      (ps_ret (pe_join pe_str (pe_op op_cat (pv 4) (pe_lst (pa_cons (pe_callTy call_str_int (by rfl) B.str (by decide +kernel) (pa_cons (pe_call G_law_cubes hr_law_cubes (by rfl) g_law_cubes F_law_cubes.kp b_law_cubes .nil pass0 (pa_cons (pv 0) pa_nil)) pa_nil)) pa_nil)))))) pss_nil)
      (pss_cons
      (ps_if (pt_cmpR op_eq (pv 5) pe_int (nomark _)) (pss_one
      (ps_ret (pe_join pe_str (pe_lst (pa_cons (pe_call G_law_of hr_law_of (by rfl) g_law_of F_law_of.kp b_law_of .nil pass0 (pa_cons (pv 0) (pa_cons (pe_lst (pa_cons pe_str (pa_cons pe_str (pa_cons pe_str (pa_cons pe_str (pa_cons pe_str (pa_cons pe_str pa_nil))))))) pa_nil))) (pa_cons (pe_ix (ixLK (K := K)) (pv 4) pe_int (fun _ _ => rfl)) (pa_cons (pe_ix (ixLK (K := K)) (pv 4) pe_int (fun _ _ => rfl)) pa_nil))))))) pss_nil)
      (pss_cons
      (ps_if (pt_cmpR op_eq (pv 5) pe_int (nomark _)) (pss_one
      (ps_ret (pe_join pe_str (pe_lst (pa_cons (pe_ix (ixLK (K := K)) (pv 4) pe_int (fun _ _ => rfl)) (pa_cons (pe_slice sl_str (pe_op op_add_str (pe_ix (ixLK (K := K)) (pv 4) pe_int (fun _ _ => rfl)) pe_str) po_none (po_some pe_int)) (pa_cons (pe_ix (ixLK (K := K)) (pv 4) pe_int (fun _ _ => rfl)) pa_nil))))))) pss_nil)
      (pss_cons
      (ps_if (pt_cmpR op_eq (pv 5) pe_int (nomark _)) (pss_one
      (ps_ret (pe_join pe_str (pe_lst (pa_cons pe_str (pa_cons (pe_call G_law_of hr_law_of (by rfl) g_law_of F_law_of.kp b_law_of .nil pass0 (pa_cons (pv 0) (pa_cons (pe_lst (pa_cons pe_str (pa_cons pe_str pa_nil))) pa_nil))) (pa_cons (pe_ix (ixLK (K := K)) (pv 4) pe_int (fun _ _ => rfl)) pa_nil))))))) pss_nil)
      (pss_cons
      (ps_if (pt_cmpR op_eq (pv 5) pe_int (nomark _)) (pss_one
      (ps_ret (pe_join pe_str (pe_op op_cat (pe_slice sl_list (pv 4) po_none (po_some pe_int)) (pe_lst (pa_cons (pe_call G_law_number hr_law_number (by rfl) g_law_number F_law_number.kp b_law_number .nil pass0 (pa_cons (pv 0) pa_nil)) pa_nil)))))) pss_nil)
      (pss_cons
      (ps_if (pt_cmpR op_eq (pv 5) pe_int (nomark _)) (pss_one
      (ps_ret (pe_call G_law_of hr_law_of (by rfl) g_law_of F_law_of.kp b_law_of .nil pass0 (pa_cons (pv 0) (pa_cons (pe_lst (pa_cons (pe_op op_add_str pe_str (pe_join pe_str (pv 4))) (pa_cons (pe_op op_add_str (pe_join pe_str (pv 4)) pe_str) (pa_cons (pe_join pe_str (pv 4)) (pa_cons pe_str (pa_cons pe_str pa_nil)))))) pa_nil))))) pss_nil)
      (pss_cons
      (ps_if (PW.pt (pw_and (pt_cmpR op_eq (pv 5) pe_int (nomark _)) (pw_and1 (pt_cmpR (op_neD hu64) (pv 1) (pe_lst pa_nil) (nomark _))))) (pss_one
      (ps_ret (pe_join pe_str (pe_op op_cat (pe_slice sl_list (pv 4) po_none (po_some pe_int)) (pe_lst (pa_cons (pe_callTy call_str_int (by rfl) B.str (by decide +kernel) (pa_cons (pe_call G_law_cubes hr_law_cubes (by rfl) g_law_cubes F_law_cubes.kp b_law_cubes .nil pass0 (pa_cons (pv 0) pa_nil)) pa_nil)) pa_nil)))))) pss_nil)
      (pss_cons
      (ps_setLc (i := 6) (own := [("_law_weir", 7)]) (g := gName 7)  (by rfl) scLWrong.nd rfl rfl (sw_true rfl rfl rfl (by decide +kernel)) (pi_list (pv 3)) (blkOk_by (own := [("_law_weir", 7)]) (N := scLWrong_N) (sc := defScope scLWrong_S) (by decide +kernel)) (fun _ _ _ _ _ => (pg_name (i := 7) scLWrong.nd rfl (Or.inl rfl))) (fun _ _ _ _ _ => (pts_one (pt_cmpR (notInK (K := K)) (pv 7) (pv 2) (by rfl)))) (fun _ _ _ _ _ => (pv 7)))
      (pss_one
      (ps_ret (pe_join pe_str (pe_lst (pa_cons pe_str (pa_cons (pe_ifExp (pt_cmpR (op_neD hu64) (pv 6) (pe_lst pa_nil) (nomark _)) (pe_ix (ixLK (K := K)) (pv 6) pe_int (fun _ _ => rfl)) (pe_op op_mul_str pe_str pe_int)) (pa_cons (pe_ix (ixLK (K := K)) (pv 4) pe_int (fun _ _ => rfl)) pa_nil)))))))))))))))))), ?_⟩
    have z40 : 40000 ≤ sizeLine := by rw [sizeLine_eq]; omega
    have hls : ∀ y ∈ ls, Plain y := fun y hy => plain_line hns hms (hok y hy)
    have e1 : (" " : Str).length = 1 := by decide +kernel
    have fin : ∀ ws : List Str, ws ≠ [] → (∀ y ∈ ws, Wd1 y) → cost ws ≤ 5201 → lineB ns ms (keysL (addL "call" ls)) (keysL (addL "water" ls)) ws = false → ∀ H', Upto p H H' → BagAt H' p → Q (.str (Txt.join " " ws)) H' := fun ws h1 h2 h3 h4 H' u B' => kk H' _ u B' (wrong_join h1 h2 h3 h4)
    refine split_if2 (α := Addr) (β := Hp) (R := fun W H1 => W ≠ p ∧ Upto p H H1 ∧ BagAt H1 p ∧ ∃ (a b : Str) (v : Nat), H1 W = some (.lst [.str a, .str b, .str (numS v)]) ∧ (a = "call" ∨ a = "water") ∧ NameOk b ∧ v ≤ mostC ∧ (ls ≠ [] → (a = "call" ∧ b ∈ keysL (addL "call" ls)) ∨ (a = "water" ∧ b ∈ keysL (addL "water" ls)))) (C := ?C) ?use ?key
    case use =>
      intro key
      refine ⟨_, rfl, by show 0 ≤ sizeLine; omega, fun D0 nD0 => ?_⟩
      have s0 := same_upd nD0 (o := .lst [])
      have B0 := bagS' hB s0
      have hll0 := s0 _ _ hll
      have hwl0 := s0 _ _ hwl
      have hD0 : (upd H D0 (.lst [])) D0 = some (.lst []) := upd_same
      generalize upd H D0 (.lst []) = H0 at s0 B0 hll0 hwl0 hD0
      refine ⟨.list (ls.map .str), .list [], .lst (.inl (.inl hll0)) (dp_strs _), .lst (.inl (.inl hD0)) .nil, shaped_lst hls, by decide +kernel, _, rfl, ?_⟩
      rw [eqv_nil]
      by_cases hn : ls = []
      · rw [decide_eq_true hn]
        refine iteF ?_
        refine ⟨_, rfl, _, rfl, p, wl, ms.map V.str, rfl, B0, nwp, .inl (.inl hwl0), by rw [List.length_map]; exact List.length_pos_iff.mpr hms0, by rw [List.length_map]; omega, fun i z xs hz hx => ?_⟩
        rw [List.getElem?_map] at hz
        obtain ⟨y, hy, rfl⟩ := Option.map_eq_some_iff.mp hz
        have B1 : BagAt (upd H0 p (.lst xs)) p := ⟨xs, upd_same, hx⟩
        have u1 : Upto p H (upd H0 p (.lst xs)) := (Upto.of s0).trans Upto.at_
        generalize upd H0 p (.lst xs) = H1 at B1 u1
        refine ⟨by show 3 ≤ sizeLine; omega, fun W nW => ?_⟩
        have ez : (numS 0 : Str) = "0" := by decide +kernel
        rw [← ez]
        have hW : (upd H1 W (.lst [.str "water", .str y, .str (numS 0)])) W = some (.lst [.str "water", .str y, .str (numS 0)]) := upd_same
        have s1 := same_upd nW (o := .lst [.str "water", .str y, .str (numS 0)])
        have nWp : W ≠ p := fun e => by
          obtain ⟨x, hx, _⟩ := B1
          rw [e, hx] at nW
          cases nW
        generalize upd H1 W (.lst [.str "water", .str y, .str (numS 0)]) = H2 at hW s1
        exact key W H2 ⟨nWp, u1.trans (.of s1), bagS' B1 s1, "water", y, 0, hW, .inr rfl, hms y (List.mem_of_getElem? hy), by decide, fun z => absurd hn z⟩
      · rw [decide_eq_false hn]
        refine iteT ?_
        refine ⟨_, rfl, _, rfl, p, ll, ls.map V.str, rfl, B0, nlp, .inl (.inl hll0), by rw [List.length_map]; exact List.length_pos_iff.mpr hn, by rw [List.length_map]; omega, fun i z xs hz hx => ?_⟩
        rw [List.getElem?_map] at hz
        obtain ⟨l, hl, rfl⟩ := Option.map_eq_some_iff.mp hz
        have B1 : BagAt (upd H0 p (.lst xs)) p := ⟨xs, upd_same, hx⟩
        have u1 : Upto p H (upd H0 p (.lst xs)) := (Upto.of s0).trans Upto.at_
        generalize upd H0 p (.lst xs) = H1 at B1 u1
        have hlm := List.mem_of_getElem? hl
        obtain ⟨a, n, v, ew, hv, han, hnl10, h50⟩ := line_words hns hms (hok l hlm)
        refine ⟨⟨_, rfl⟩, _, _, rfl, rfl, by decide +kernel, by rw [len_tl]; omega, fun W nW => ?_⟩
        rw [show Txt.split l " " = wOf l from rfl, ew]
        have hW : (upd H1 W (.lst ([a, n, numS v].map V.str))) W = some (.lst [.str a, .str n, .str (numS v)]) := upd_same
        have s1 := same_upd nW (o := .lst ([a, n, numS v].map V.str))
        have nWp : W ≠ p := fun e => by
          obtain ⟨x, hx, _⟩ := B1
          rw [e, hx] at nW
          cases nW
        generalize upd H1 W (.lst ([a, n, numS v].map V.str)) = H2 at hW s1
        have hk := key_mem hlm ew
        refine key W H2 ⟨nWp, u1.trans (.of s1), bagS' B1 s1, a, n, v, hW, ?_, ?_, hv, fun _ => ?_⟩
        · rcases han with ⟨rfl, _⟩ | ⟨rfl, _⟩
          · exact .inl rfl
          · exact .inr rfl
        · rcases han with ⟨_, h⟩ | ⟨_, h⟩
          · exact hns n h
          · exact hms n h
        · rcases han with ⟨rfl, _⟩ | ⟨rfl, _⟩
          · exact .inl ⟨rfl, hk⟩
          · exact .inr ⟨rfl, hk⟩
    case key =>
      rintro W H1 ⟨nWp, u1, B1, a, b, v, hW1, ha, hbn, hv, htw⟩
      refine ⟨_, rfl, p, 9, rfl, B1, by decide, by decide, fun r xs hr0 hr9 hx => ?_⟩
      have u2 : Upto p H (upd H1 p (.lst xs)) := u1.trans Upto.at_
      have B2 : BagAt (upd H1 p (.lst xs)) p := ⟨xs, upd_same, hx⟩
      have hW2 : (upd H1 p (.lst xs)) W = some (.lst [.str a, .str b, .str (numS v)]) := by rw [upd_ne nWp]; exact hW1
      show Ends.nx _ _ (upd H1 p (.lst xs))
      generalize upd H1 p (.lst xs) = H2 at u2 B2 hW2
      have wa : Wd1 a := by rcases ha with rfl | rfl <;> exact wd_lit (by decide +kernel)
      have wb : Wd1 b := wd_name hbn
      have wc : Wd1 (numS v) := wd_num v
      have la : (tl a).length ≤ 5 := by rcases ha with rfl | rfl <;> decide +kernel
      have lb : (tl b).length ≤ 8 := hbn.most
      have lc : (tl (numS v)).length ≤ 31 := by rw [tl_num]; exact dg31 hv
      have la' : a.length ≤ 5 := by rw [len_tl]; exact la
      have lb' : b.length ≤ 8 := by rw [len_tl]; exact lb
      have lc' : (numS v).length ≤ 31 := by rw [len_tl]; exact lc
      refine ⟨_, rfl, rfl, _, rfl, ?_⟩
      have hszN : ∀ ws : List Str, (∀ y ∈ ws, y.length ≤ 5000) → ws.length ≤ 8 → (ws.map (·.length)).sum + ws.length * (" " : Str).length ≤ 16777216 := fun ws h1 h2 => by
        have := sum_len h1
        rw [e1]
        have : ws.length * 5000 ≤ 8 * 5000 := Nat.mul_le_mul_right _ h2
        omega
      have sz2 : ∀ x : Str, x.length ≤ 5000 → ∀ y ∈ [a, b, x], y.length ≤ 5000 := fun x hx y hy => by
        simp only [List.mem_cons, List.not_mem_nil, or_false] at hy
        rcases hy with rfl | rfl | rfl <;> omega
      by_cases h0 : r = 0
      · refine iteD (congrArg V.int h0) ?_
        refine ⟨⟨_, rfl⟩, _, rfl, ?_⟩
        unfold tNoPart
        refine ⟨2, rfl, W, _, rfl, .inl (.inl hW2), fun p1 np1 => ?_⟩
        rw [show cutV [V.str a, .str b, .str (numS v)] none (some (2 : Int)) = [V.str a, .str b] from rfl]
        have s3 := same_upd np1 (o := .lst [V.str a, .str b])
        have hp1 : (upd H2 p1 (.lst [V.str a, .str b])) p1 = some (.lst [V.str a, .str b]) := upd_same
        generalize upd H2 p1 (.lst [V.str a, .str b]) = H3 at s3 hp1
        refine ⟨_, p1, [a, b], rfl, rfl, .inl (.inl (.inl hp1)), hszN [a, b] (fun y hy => by simp only [List.mem_cons, List.not_mem_nil, or_false] at hy; rcases hy with rfl | rfl <;> omega) (Nat.le_of_ble_eq_true rfl), ?_⟩
        refine fin [a, b] (by simp) (fun y hy => by simp only [List.mem_cons, List.not_mem_nil, or_false] at hy; rcases hy with rfl | rfl <;> assumption) (by rw [cost_cons, cost_cons, cost_nil]; omega) rfl _ (u2.trans (.of s3)) (bagS' B2 s3)
      refine iteDn (fun z => h0 (V.int.inj z)) ?_
      refine ⟨_, rfl, rfl, _, rfl, ?_⟩
      by_cases h1 : r = 1
      · refine iteD (congrArg V.int h1) ?_
        refine ⟨⟨_, rfl⟩, _, rfl, _, rfl, p, rfl, B2, fun r2 H3 hr2 u3 B3 => ?_⟩
        have hW3 := u3 _ _ hW2 nWp
        refine ⟨_, rfl, num_log hr2, by show 1 ≤ sizeLine; omega, fun q nq => ?_⟩
        have s4 := same_upd nq (o := .lst [V.str (numS r2)])
        have hq : (upd H3 q (.lst [V.str (numS r2)])) q = some (.lst [V.str (numS r2)]) := upd_same
        have hW4 := s4 _ _ hW3
        generalize upd H3 q (.lst [V.str (numS r2)]) = H4 at s4 hq hW4
        refine ⟨W, q, _, _, rfl, rfl, hW4, hq, by show 4 ≤ sizeLine; omega, fun Dc nc => ?_⟩
        have s5 := same_upd nc (o := .lst ([V.str a, .str b, .str (numS v)] ++ [V.str (numS r2)]))
        have hDc : (upd H4 Dc (.lst ([V.str a, .str b, .str (numS v)] ++ [V.str (numS r2)]))) Dc = some (.lst ([a, b, numS v, numS r2].map V.str)) := upd_same
        generalize upd H4 Dc (.lst ([V.str a, .str b, .str (numS v)] ++ [V.str (numS r2)])) = H5 at s5 hDc
        have lr := numS_len hr2
        have lr' : (tl (numS r2)).length ≤ 31 := by rw [← len_tl]; exact lr
        refine ⟨_, Dc, [a, b, numS v, numS r2], rfl, rfl, .inl (.inl (.inl hDc)), hszN _ (fun y hy => by simp only [List.mem_cons, List.not_mem_nil, or_false] at hy; rcases hy with rfl | rfl | rfl | rfl <;> omega) (Nat.le_of_ble_eq_true rfl), ?_⟩
        refine fin [a, b, numS v, numS r2] (by simp) (fun y hy => by simp only [List.mem_cons, List.not_mem_nil, or_false] at hy; rcases hy with rfl | rfl | rfl | rfl <;> first | assumption | exact wd_num _) (by rw [cost_cons, cost_cons, cost_cons, cost_cons, cost_nil]; omega) rfl _ ((u2.trans u3).trans (.of (s4.trans s5))) (bagS' B3 (s4.trans s5))
      refine iteDn (fun z => h1 (V.int.inj z)) ?_
      refine ⟨_, rfl, rfl, _, rfl, ?_⟩
      have ix0 : atI [V.str a, .str b, .str (numS v)] 0 = some (.str a) := atI_nat (j := 0) rfl
      have ix1 : atI [V.str a, .str b, .str (numS v)] 1 = some (.str b) := atI_nat (j := 1) rfl
      have ix2 : atI [V.str a, .str b, .str (numS v)] 2 = some (.str (numS v)) := atI_nat (j := 2) rfl
      -- three words, laid and joined
      have lay3 : ∀ (x y z : Str) (H3 : Hp) (q : Addr), H3 q = none → Upto p H H3 → BagAt H3 p → Wd1 x → Wd1 y → Wd1 z → (tl x).length ≤ 10 → (tl y).length ≤ 20 → (tl z).length ≤ 5000 → lineB ns ms (keysL (addL "call" ls)) (keysL (addL "water" ls)) [x, y, z] = false →
          ∃ ys : List Str, (SqL K (upd H3 q (.lst [V.str x, .str y, .str z])) q (ys.map V.str)) ∧ (ys.map (·.length)).sum + ys.length * (" " : Str).length ≤ 16777216 ∧ Q (.str (Txt.join " " ys)) (upd H3 q (.lst [V.str x, .str y, .str z])) := fun x y z H3 q nq u B' wx wy wz lx ly lz hf => by
        refine ⟨[x, y, z], .inl (.inl upd_same), hszN _ (fun w hw => by simp only [List.mem_cons, List.not_mem_nil, or_false] at hw; rcases hw with rfl | rfl | rfl <;> (rw [len_tl]; omega)) (Nat.le_of_ble_eq_true rfl), ?_⟩
        exact fin [x, y, z] (by simp) (fun w hw => by simp only [List.mem_cons, List.not_mem_nil, or_false] at hw; rcases hw with rfl | rfl | rfl <;> assumption) (by rw [cost_cons, cost_cons, cost_cons, cost_nil]; omega) hf _ (u.trans (.of (same_upd nq))) (bagS' B' (same_upd nq))
      by_cases h2 : r = 2
      · refine iteD (congrArg V.int h2) ?_
        refine ⟨⟨_, rfl⟩, _, rfl, by show 6 ≤ sizeLine; omega, fun D1 nD1 => ?_⟩
        have s3 := same_upd nD1 (o := .lst [V.str "Call", .str "", .str "rain", .str "calls", .str "wate", .str "order"])
        have hD1 : (upd H2 D1 (.lst [V.str "Call", .str "", .str "rain", .str "calls", .str "wate", .str "order"])) D1 = some (.lst (([("Call" : Str), "", "rain", "calls", "wate", "order"] : List Str).map V.str)) := upd_same
        have nDp : D1 ≠ p := fun e => by
          obtain ⟨x, hx, _⟩ := B2
          rw [e, hx] at nD1
          cases nD1
        have B3 := bagS' B2 s3
        have hW3 := s3 _ _ hW2
        generalize upd H2 D1 (.lst [V.str "Call", .str "", .str "rain", .str "calls", .str "wate", .str "order"]) = H3 at s3 hD1 B3 hW3
        refine ⟨p, D1, _, rfl, B3, nDp, .inl (.inl hD1), by decide, by decide, fun i z xs2 hz hx2 => ?_⟩
        rw [List.getElem?_map] at hz
        obtain ⟨x, hx, rfl⟩ := Option.map_eq_some_iff.mp hz
        have hxm := List.mem_of_getElem? hx
        have hxx : Wd1 x ∧ (tl x).length ≤ 10 ∧ ¬ x = "call" ∧ ¬ x = "water" := by
          have key : ∀ y ∈ ([("Call" : Str), "", "rain", "calls", "wate", "order"] : List Str), ((tl y).all fun c => decide (c ≠ 10) && decide (c ≠ 32)) = true ∧ (tl y).length ≤ 10 ∧ ¬ y = "call" ∧ ¬ y = "water" := by decide +kernel
          obtain ⟨k1, k2, k3, k4⟩ := key x hxm
          exact ⟨wd_lit k1, k2, k3, k4⟩
        have B4 : BagAt (upd H3 p (.lst xs2)) p := ⟨xs2, upd_same, hx2⟩
        have u4 : Upto p H (upd H3 p (.lst xs2)) := (u2.trans (.of s3)).trans Upto.at_
        have hW4 : (upd H3 p (.lst xs2)) W = some (.lst [.str a, .str b, .str (numS v)]) := by rw [upd_ne nWp]; exact hW3
        generalize upd H3 p (.lst xs2) = H4 at B4 u4 hW4
        refine ⟨_, rfl, W, _, _, .str b, rfl, rfl, .inl (.inl hW4), ix1, _, rfl, W, _, _, .str (numS v), rfl, rfl, .inl (.inl hW4), ix2, by show 3 ≤ sizeLine; omega, fun q nq => ?_⟩
        obtain ⟨ys, y1, y2, y3⟩ := lay3 x b (numS v) H4 q nq u4 B4 hxx.1 wb wc hxx.2.1 (by omega) (by omega) (no_head hxx.2.2.1 hxx.2.2.2)
        exact ⟨_, q, ys, rfl, rfl, .inl y1, y2, y3⟩
      refine iteDn (fun z => h2 (V.int.inj z)) ?_
      refine ⟨_, rfl, rfl, _, rfl, ?_⟩
      by_cases h3 : r = 3
      · refine iteD (congrArg V.int h3) ?_
        have lx8 : ("xxxxxxxx" : Str).length = 8 := by decide +kernel
        refine ⟨⟨_, rfl⟩, _, rfl, W, _, _, .str a, rfl, rfl, .inl (.inl hW2), ix0, ?_⟩
        refine ⟨_, rfl, W, _, _, .str b, rfl, rfl, .inl (.inl hW2), ix1, _, _, rfl, rfl, by omega, ?_⟩
        have hx9 : tl (cutS (b ++ "xxxxxxxx") none (some (9 : Int))) = (tl b ++ List.replicate 8 120).take 9 := by
          have := cutS_take (b ++ "xxxxxxxx") 9
          have e8 : tl "xxxxxxxx" = List.replicate 8 120 := by decide +kernel
          rw [show (b ++ "xxxxxxxx").cps.toList = tl b ++ tl "xxxxxxxx" from tl_append _ _, e8] at this
          exact this
        refine ⟨9, rfl, b ++ "xxxxxxxx", rfl, by rw [len_cat]; omega, ?_⟩
        generalize cutS (b ++ "xxxxxxxx") none (some (9 : Int)) = x9 at hx9
        have l9 : (tl x9).length = 9 := by
          rw [hx9, List.length_take, List.length_append, List.length_replicate]
          have : 1 ≤ (tl b).length := hbn.one
          omega
        have w9 : Wd1 x9 := ⟨fun c hc => by
          rw [hx9] at hc
          rcases List.mem_append.mp (List.mem_of_mem_take hc) with h | h
          · exact wb.sp c h
          · rw [(List.mem_replicate.mp h).2]; omega⟩
        have no9 : ∀ N : List Str, (∀ n ∈ N, NameOk n) → x9 ∉ N := fun N hN h => by
          have : (tl x9).length ≤ 8 := (hN _ h).most
          omega
        refine ⟨_, rfl, W, _, _, .str (numS v), rfl, rfl, .inl (.inl hW2), ix2, by show 3 ≤ sizeLine; omega, fun q nq => ?_⟩
        obtain ⟨ys, y1, y2, y3⟩ := lay3 a x9 (numS v) H2 q nq u2 B2 wa w9 wc (by omega) (by omega) (by omega) (no_name (no9 ns hns) (no9 ms hms))
        exact ⟨_, q, ys, rfl, rfl, .inl y1, y2, y3⟩
      refine iteDn (fun z => h3 (V.int.inj z)) ?_
      refine ⟨_, rfl, rfl, _, rfl, ?_⟩
      by_cases h4 : r = 4
      · refine iteD (congrArg V.int h4) ?_
        refine ⟨⟨_, rfl⟩, _, rfl, by show 2 ≤ sizeLine; omega, fun D1 nD1 => ?_⟩
        have s3 := same_upd nD1 (o := .lst [V.str "sea", .str ""])
        have hD1 : (upd H2 D1 (.lst [V.str "sea", .str ""])) D1 = some (.lst (([("sea" : Str), ""] : List Str).map V.str)) := upd_same
        have nDp : D1 ≠ p := fun e => by
          obtain ⟨x, hx, _⟩ := B2
          rw [e, hx] at nD1
          cases nD1
        have B3 := bagS' B2 s3
        have hW3 := s3 _ _ hW2
        generalize upd H2 D1 (.lst [V.str "sea", .str ""]) = H3 at s3 hD1 B3 hW3
        refine ⟨p, D1, _, rfl, B3, nDp, .inl (.inl hD1), by decide, by decide, fun i z xs2 hz hx2 => ?_⟩
        rw [List.getElem?_map] at hz
        obtain ⟨x, hx, rfl⟩ := Option.map_eq_some_iff.mp hz
        have hxm := List.mem_of_getElem? hx
        have hxx : Wd1 x ∧ (tl x).length ≤ 20 ∧ x ∉ ms := by
          simp only [List.mem_cons, List.not_mem_nil, or_false] at hxm
          rcases hxm with rfl | rfl
          · exact ⟨wd_lit (by decide +kernel), by decide +kernel, fun h => hsea _ h rfl⟩
          · exact ⟨wd_lit (by decide +kernel), by decide +kernel, fun h => absurd (hms _ h).one (by decide +kernel)⟩
        have B4 : BagAt (upd H3 p (.lst xs2)) p := ⟨xs2, upd_same, hx2⟩
        have u4 : Upto p H (upd H3 p (.lst xs2)) := (u2.trans (.of s3)).trans Upto.at_
        have hW4 : (upd H3 p (.lst xs2)) W = some (.lst [.str a, .str b, .str (numS v)]) := by rw [upd_ne nWp]; exact hW3
        generalize upd H3 p (.lst xs2) = H4 at B4 u4 hW4
        refine ⟨_, rfl, W, _, _, .str (numS v), rfl, rfl, .inl (.inl hW4), ix2, by show 3 ≤ sizeLine; omega, fun q nq => ?_⟩
        obtain ⟨ys, y1, y2, y3⟩ := lay3 "water" x (numS v) H4 q nq u4 B4 (wd_lit (by decide +kernel)) hxx.1 wc (by decide +kernel) hxx.2.1 (by omega) (no_water hxx.2.2)
        exact ⟨_, q, ys, rfl, rfl, .inl y1, y2, y3⟩
      refine iteDn (fun z => h4 (V.int.inj z)) ?_
      refine ⟨_, rfl, rfl, _, rfl, ?_⟩
      by_cases h5 : r = 5
      · refine iteD (congrArg V.int h5) ?_
        refine ⟨⟨_, rfl⟩, _, rfl, ?_⟩
        unfold tNoPart
        refine ⟨2, rfl, W, _, rfl, .inl (.inl hW2), fun p1 np1 => ?_⟩
        rw [show cutV [V.str a, .str b, .str (numS v)] none (some (2 : Int)) = [V.str a, .str b] from rfl]
        have s3 := same_upd np1 (o := .lst [V.str a, .str b])
        have hp1 : (upd H2 p1 (.lst [V.str a, .str b])) p1 = some (.lst [V.str a, .str b]) := upd_same
        have B3 := bagS' B2 s3
        have np1p : p1 ≠ p := fun e => by
          obtain ⟨x, hx, _⟩ := B2
          rw [e, hx] at np1
          cases np1
        generalize upd H2 p1 (.lst [V.str a, .str b]) = H3 at s3 hp1 B3
        refine ⟨_, rfl, p, rfl, B3, fun x H4 bx u4 B4 => ?_⟩
        have hp4 := u4 _ _ hp1 np1p
        refine ⟨by show 1 ≤ sizeLine; omega, fun q nq => ?_⟩
        have s5 := same_upd nq (o := .lst [V.str x])
        have hq : (upd H4 q (.lst [V.str x])) q = some (.lst [V.str x]) := upd_same
        have hp5 := s5 _ _ hp4
        generalize upd H4 q (.lst [V.str x]) = H5 at s5 hq hp5
        refine ⟨p1, q, _, _, rfl, rfl, hp5, hq, by show 3 ≤ sizeLine; omega, fun Dc nc => ?_⟩
        have u5 : Upto p H H5 := ((u2.trans (.of s3)).trans u4).trans (.of s5)
        obtain ⟨ys, y1, y2, y3⟩ := lay3 a b x H5 Dc nc u5 (bagS' B4 s5) wa wb (wd_bad bx) (by omega) (by omega) bx.most (no_num bx.no)
        exact ⟨_, Dc, ys, rfl, rfl, .inl y1, y2, y3⟩
      refine iteDn (fun z => h5 (V.int.inj z)) ?_
      refine ⟨_, rfl, rfl, _, rfl, ?_⟩
      have lJ : ∀ (s : Str), s.length ≤ 2 → (([a, b, numS v].map (·.length)).sum + [a, b, numS v].length * s.length ≤ 16777216) := fun s hs => by
        simp only [List.map_cons, List.map_nil, List.sum_cons, List.sum_nil, List.length_cons, List.length_nil]
        omega
      have jlen : (Txt.join " " [a, b, numS v]).length ≤ 60 := by
        rw [len_tl]
        have := join_cost (ws := [a, b, numS v]) (by simp)
        rw [cost_cons, cost_cons, cost_cons, cost_nil] at this
        omega
      by_cases h6 : r = 6
      · refine iteD (congrArg V.int h6) ?_
        have le2 : ("  " : Str).length = 2 := by decide +kernel
        refine ⟨_, rfl, ?_⟩
        refine ⟨⟨_, rfl⟩, _, rfl, _, W, [a, b, numS v], rfl, rfl, .inl (.inl (.inl hW2)), lJ _ (by omega), _, _, rfl, rfl, by omega, ?_⟩
        refine ⟨⟨_, rfl⟩, _, rfl, _, W, [a, b, numS v], rfl, rfl, .inl (.inl (.inl hW2)), lJ _ (by omega), _, _, rfl, rfl, by omega, ?_⟩
        refine ⟨⟨_, rfl⟩, _, rfl, _, W, [a, b, numS v], rfl, rfl, .inl (.inl (.inl hW2)), lJ _ (by omega), ?_⟩
        refine ⟨by show 5 ≤ sizeLine; omega, fun D1 nD1 => ?_⟩
        have five : ∀ y ∈ ([" " ++ Txt.join " " [a, b, numS v], Txt.join " " [a, b, numS v] ++ " ", Txt.join "  " [a, b, numS v], "", " "] : List Str), WrongL ns ms ls y := fun y hy => by
          have we : Wd1 "" := wd_lit (by decide +kernel)
          have le : (tl "").length = 0 := by decide +kernel
          simp only [List.mem_cons, List.not_mem_nil, or_false] at hy
          rcases hy with rfl | rfl | rfl | rfl | rfl
          · rw [sp_beg (by simp)]
            exact wrong_join (by simp) (fun w hw => by simp only [List.mem_cons, List.not_mem_nil, or_false] at hw; rcases hw with rfl | rfl | rfl | rfl <;> assumption) (by rw [cost_cons, cost_cons, cost_cons, cost_cons, cost_nil]; omega) rfl
          · rw [sp_end (by simp)]
            exact wrong_join (by simp) (fun w hw => by simp only [List.cons_append, List.nil_append, List.mem_cons, List.not_mem_nil, or_false] at hw; rcases hw with rfl | rfl | rfl | rfl <;> assumption) (by simp only [List.cons_append, List.nil_append]; rw [cost_cons, cost_cons, cost_cons, cost_cons, cost_nil]; omega) rfl
          · rw [sp_two]
            exact wrong_join (by simp) (fun w hw => by simp only [List.mem_cons, List.not_mem_nil, or_false] at hw; rcases hw with rfl | rfl | rfl | rfl | rfl <;> assumption) (by rw [cost_cons, cost_cons, cost_cons, cost_cons, cost_cons, cost_nil]; omega) rfl
          · exact ⟨by rw [wOf_empty]; rfl, by decide +kernel, by decide +kernel⟩
          · exact ⟨by rw [wOf_blank]; rfl, by decide +kernel, by decide +kernel⟩
        have s3 := same_upd nD1 (o := .lst [V.str (" " ++ Txt.join " " [a, b, numS v]), .str (Txt.join " " [a, b, numS v] ++ " "), .str (Txt.join "  " [a, b, numS v]), .str "", .str " "])
        have hD1 : (upd H2 D1 (.lst [V.str (" " ++ Txt.join " " [a, b, numS v]), .str (Txt.join " " [a, b, numS v] ++ " "), .str (Txt.join "  " [a, b, numS v]), .str "", .str " "])) D1 = some (.lst (([" " ++ Txt.join " " [a, b, numS v], Txt.join " " [a, b, numS v] ++ " ", Txt.join "  " [a, b, numS v], "", " "] : List Str).map V.str)) := upd_same
        have nDp : D1 ≠ p := fun e => by
          obtain ⟨x, hx, _⟩ := B2
          rw [e, hx] at nD1
          cases nD1
        have B3 := bagS' B2 s3
        generalize upd H2 D1 (.lst [V.str (" " ++ Txt.join " " [a, b, numS v]), .str (Txt.join " " [a, b, numS v] ++ " "), .str (Txt.join "  " [a, b, numS v]), .str "", .str " "]) = H3 at s3 hD1 B3
        refine ⟨p, D1, _, rfl, B3, nDp, .inl (.inl hD1), by rw [List.length_map]; exact Nat.zero_lt_succ _, by rw [List.length_map]; show 5 ≤ 1000; omega, fun i z xs2 hz hx2 => ?_⟩
        rw [List.getElem?_map] at hz
        obtain ⟨x, hx, rfl⟩ := Option.map_eq_some_iff.mp hz
        exact kk _ x ((u2.trans (.of s3)).trans Upto.at_) ⟨xs2, upd_same, hx2⟩ (five x (List.mem_of_getElem? hx))
      refine iteDn (fun z => h6 (V.int.inj z)) ?_
      refine split_if' (α := Hp) (R := fun H3 => Upto p H H3 ∧ BagAt H3 p ∧ H3 W = some (.lst [.str a, .str b, .str (numS v)])) (C := ?C3) ?use3 ?key3
      case use3 =>
        intro key
        refine ⟨_, rfl, rfl, _, rfl, ?_⟩
        by_cases h7 : r = 7
        · refine iteD (congrArg V.int h7) ?_
          refine ⟨_, rfl, by show 0 ≤ sizeLine; omega, fun D0 nD0 => ?_⟩
          have s0 := same_upd nD0 (o := .lst [])
          have B0 := bagS' B2 s0
          have u0 : Upto p H (upd H2 D0 (.lst [])) := u2.trans (.of s0)
          have hll0 : (upd H2 D0 (.lst [])) ll = some (.lst (ls.map V.str)) := u0 _ _ hll nlp
          have hW0 := s0 _ _ hW2
          have hD0 : (upd H2 D0 (.lst [])) D0 = some (.lst []) := upd_same
          generalize upd H2 D0 (.lst []) = H3 at B0 u0 hll0 hW0 hD0
          refine ⟨.list (ls.map .str), .list [], .lst (.inl (.inl hll0)) (dp_strs _), .lst (.inl (.inl hD0)) .nil, shaped_lst hls, by decide +kernel, _, rfl, ?_⟩
          rw [eqv_nil]
          by_cases hn : ls = []
          · rw [decide_eq_true hn]
            refine iteF ?_
            exact key H3 ⟨u0, B0, hW0⟩
          · rw [decide_eq_false hn]
            refine iteT ?_
            refine ⟨⟨_, rfl⟩, _, rfl, ?_⟩
            unfold tNoPart
            refine ⟨2, rfl, W, _, rfl, .inl (.inl hW0), fun p1 np1 => ?_⟩
            rw [show cutV [V.str a, .str b, .str (numS v)] none (some (2 : Int)) = [V.str a, .str b] from rfl]
            have s3 := same_upd np1 (o := .lst [V.str a, .str b])
            have hp1 : (upd H3 p1 (.lst [V.str a, .str b])) p1 = some (.lst [V.str a, .str b]) := upd_same
            have B3 := bagS' B0 s3
            have np1p : p1 ≠ p := fun e => by
              obtain ⟨x, hx, _⟩ := B0
              rw [e, hx] at np1
              cases np1
            generalize upd H3 p1 (.lst [V.str a, .str b]) = H4 at s3 hp1 B3
            refine ⟨_, rfl, p, rfl, B3, fun x H5 hx u5 B5 => ?_⟩
            have hp5 := u5 _ _ hp1 np1p
            refine ⟨_, rfl, num_log hx, by show 1 ≤ sizeLine; omega, fun q nq => ?_⟩
            have s6 := same_upd nq (o := .lst [V.str (numS x)])
            have hq : (upd H5 q (.lst [V.str (numS x)])) q = some (.lst [V.str (numS x)]) := upd_same
            have hp6 := s6 _ _ hp5
            generalize upd H5 q (.lst [V.str (numS x)]) = H6 at s6 hq hp6
            refine ⟨p1, q, _, _, rfl, rfl, hp6, hq, by show 3 ≤ sizeLine; omega, fun Dc nc => ?_⟩
            have u6 : Upto p H H6 := ((u0.trans (.of s3)).trans u5).trans (.of s6)
            have lx := numS_len hx
            obtain ⟨ys, y1, y2, y3⟩ := lay3 a b (numS x) H6 Dc nc u6 (bagS' B5 s6) wa wb (wd_num x) (by omega) (by omega) (by rw [← len_tl]; omega) (no_twice (htw hn))
            exact ⟨_, Dc, ys, rfl, rfl, .inl y1, y2, y3⟩
        · refine iteDn (fun z => h7 (V.int.inj z)) ?_
          refine iteF ?_
          obtain ⟨H3, e3⟩ : ∃ H3, H3 = H2 := ⟨_, rfl⟩
          have k3 : Upto p H H3 ∧ BagAt H3 p ∧ H3 W = some (.lst [.str a, .str b, .str (numS v)]) := by rw [e3]; exact ⟨u2, B2, hW2⟩
          rw [← e3]
          exact key H3 k3
      case key3 =>
        rintro H3 ⟨u3, B3, hW3⟩
        have hnl3 := u3 _ _ hnl nnp
        have hwl3 := u3 _ _ hwl nwp
        refine ⟨_, rfl, wl, rfl, ⟨_, .inl (.inl hwl3)⟩, fun D nD => ?_⟩
        refine lc_listO (K := K) (a := wl) (xs := ms.map V.str) nD (fun i => ((ms.take i).filter fun n => decide (n ∉ ns)).map V.str) (by rw [List.take_zero]; rfl) (fun i _ => filt_size (by omega) i) (.inl (.inl hwl3)) ?_ ?_
        · intro i x H4 Nx hx s put skip
          rw [List.getElem?_map] at hx
          obtain ⟨y, hy, rfl⟩ := Option.map_eq_some_iff.mp hx
          refine ⟨rfl, ?_⟩
          refine ⟨_, rfl, _, rfl, nl, _, rfl, .inl (.inl (.inl (s _ _ hnl3))), rfl, flat_strs _, _, rfl, ?_⟩
          rw [inV_str]
          have e := filt_take (p := fun n => decide (n ∉ ns)) hy
          by_cases hm : y ∈ ns
          · rw [decide_eq_true hm]
            refine iteF ?_
            rw [if_neg (by rw [decide_eq_false (fun z => z hm)]; exact Bool.false_ne_true), List.append_nil] at e
            exact skip _ (.refl _) (congrArg _ e)
          · rw [decide_eq_false hm]
            refine iteT ?_
            rw [if_pos (decide_eq_true hm)] at e
            refine ⟨_, rfl, put _ _ (.refl _) ?_⟩
            rw [e, List.map_append]
            rfl
        intro H4 s4 hD
        rw [List.length_map, List.take_length] at hD
        have hW4 := s4 _ _ hW3
        have u4 := u3.trans (.of s4)
        have B4 := bagS' B3 s4
        have hstr : ∀ y ∈ ms.filter fun n => decide (n ∉ ns), y ∈ ms ∧ y ∉ ns := fun y hy => by
          rw [List.mem_filter, decide_eq_true_eq] at hy
          exact hy
        generalize hfl : (ms.filter fun n => decide (n ∉ ns)) = fl at hD hstr
        refine ⟨⟨_, rfl⟩, ?_⟩
        refine split_if2 (α := Str) (β := Hp) (R := fun y H5 => Wd1 y ∧ (tl y).length ≤ 20 ∧ y ∉ ns ∧ Same H4 H5) (C := ?C4) ?use4 ?key4
        case use4 =>
          intro key
          refine ⟨_, rfl, by show 0 ≤ sizeLine; omega, fun D0 nD0 => ?_⟩
          have s0 := same_upd nD0 (o := .lst [])
          have hD' := s0 _ _ hD
          have hD0 : (upd H4 D0 (.lst [])) D0 = some (.lst []) := upd_same
          generalize upd H4 D0 (.lst []) = H5 at s0 hD' hD0
          have hflp : ∀ y ∈ fl, Plain y := fun y hy => plain_low (hms y (hstr y hy).1)
          refine ⟨.list (fl.map .str), .list [], .lst (.inl (.inl hD')) (dp_strs _), .lst (.inl (.inl hD0)) .nil, shaped_lst hflp, by decide +kernel, _, rfl, ?_⟩
          rw [eqv_nil]
          cases fl with
          | nil =>
            rw [decide_eq_true rfl]
            refine iteF ?_
            refine ⟨_, 9, rfl, rfl, mulx_ok, ?_⟩
            have ex := mul_ex
            generalize Txt.mul "x" (9 : Int) = x9 at ex
            refine key x9 H5 ⟨⟨fun c hc => ?_⟩, by rw [ex]; decide, fun hmem => ?_, s0⟩
            · rw [ex] at hc
              rw [(List.mem_replicate.mp hc).2]
              omega
            · have := (hns _ hmem).most
              rw [show x9.cps.toList = tl x9 from rfl, ex] at this
              exact absurd this (by decide)
          | cons y0 yr =>
            rw [decide_eq_false (fun z => by cases z)]
            refine iteT ?_
            obtain ⟨h1, h2⟩ := hstr y0 List.mem_cons_self
            obtain ⟨y1, ey⟩ : ∃ y1, y1 = y0 := ⟨_, rfl⟩
            refine ⟨_, rfl, D, _, _, .str y1, rfl, rfl, .inl (.inl hD'), by rw [ey]; exact atI_nat (j := 0) rfl, ?_⟩
            have hy1 : Wd1 y1 ∧ (tl y1).length ≤ 20 ∧ y1 ∉ ns ∧ Same H4 H5 := by
              rw [ey]
              refine ⟨wd_name (hms y0 h1), ?_, h2, s0⟩
              have : (tl y0).length ≤ 8 := (hms y0 h1).most
              omega
            exact key y1 H5 hy1
        case key4 =>
          rintro y H5 ⟨wy, ly, hyn, s5⟩
          have hW5 := s5 _ _ hW4
          refine ⟨_, rfl, W, _, _, .str (numS v), rfl, rfl, .inl (.inl hW5), ix2, by show 3 ≤ sizeLine; omega, fun q nq => ?_⟩
          obtain ⟨ys, y1, y2, y3⟩ := lay3 "call" y (numS v) H5 q nq (u4.trans (.of s5)) (bagS' B4 s5) (wd_lit (by decide +kernel)) wy wc (by decide +kernel) ly (by omega) (no_call hyn)
          exact ⟨_, q, ys, rfl, rfl, .inl y1, y2, y3⟩
end
end K0
end
section
set_option Elab.async false
set_option linter.all false
set_option maxRecDepth 100000
set_option maxHeartbeats 2000000
namespace K0
open PySem PySem.Spec PyProof.Rows L2 TL
/-! ### lines of one day -/
structure DayW (ns ms : List Str) (f h : Str → Nat) : Prop where
  nn : ns.Nodup
  nm : ms.Nodup
  on : ∀ n ∈ ns, NameOk n
  om : ∀ n ∈ ms, NameOk n
  mf : ∀ y, f y ≤ mostC
  mh : ∀ y, h y ≤ mostC
theorem dayL_mem {ns ms : List Str} {f h : Str → Nat} {l : Str} : l ∈ dayL ns ms f h ↔ (∃ n ∈ ns, l = lineS "call " n (f n)) ∨ (∃ n ∈ ms, l = lineS "water " n (h n)) := by
  unfold dayL
  rw [List.mem_append, List.mem_map, List.mem_map]
  constructor
  · rintro (⟨n, h1, rfl⟩ | ⟨n, h1, rfl⟩)
    · exact .inl ⟨n, h1, rfl⟩
    · exact .inr ⟨n, h1, rfl⟩
  · rintro (⟨n, h1, rfl⟩ | ⟨n, h1, rfl⟩)
    · exact .inl ⟨n, h1, rfl⟩
    · exact .inr ⟨n, h1, rfl⟩
theorem nwc : ¬ ("water" : Str) = "call" := by decide +kernel
theorem ncw : ¬ ("call" : Str) = "water" := by decide +kernel
section
variable {ns ms : List Str} {f h : Str → Nat} (W : DayW ns ms f h)
include W
theorem DayW.lineOk {l : Str} (hl : l ∈ dayL ns ms f h) : LineOk ns ms l := by
  rcases dayL_mem.mp hl with ⟨n, h1, rfl⟩ | ⟨n, h1, rfl⟩
  · exact ⟨n, f n, W.mf n, .inl ⟨h1, rfl⟩⟩
  · exact ⟨n, h n, W.mh n, .inr ⟨h1, rfl⟩⟩
theorem DayW.nodup : (dayL ns ms f h).Nodup := by
  unfold dayL
  rw [List.nodup_append]
  refine ⟨?_, ?_, ?_⟩
  · rw [List.Nodup, List.pairwise_map]
    refine List.Pairwise.imp_of_mem (fun {a b} ha hb hab e => hab ?_) W.nn
    have := congrArg wOf e
    rw [words_call (W.on a ha), words_call (W.on b hb)] at this
    exact (List.cons.inj (List.cons.inj this).2).1
  · rw [List.Nodup, List.pairwise_map]
    refine List.Pairwise.imp_of_mem (fun {a b} ha hb hab e => hab ?_) W.nm
    have := congrArg wOf e
    rw [words_water (W.om a ha), words_water (W.om b hb)] at this
    exact (List.cons.inj (List.cons.inj this).2).1
  · intro x hx y hy e
    obtain ⟨a, ha, rfl⟩ := List.mem_map.mp hx
    obtain ⟨b, hb, rfl⟩ := List.mem_map.mp hy
    have := congrArg wOf e
    rw [words_call (W.on a ha), words_water (W.om b hb)] at this
    exact ncw (List.cons.inj this).1
theorem DayW.call_of {l : Str} (hl : l ∈ dayL ns ms f h) (hh : headW l = "call") : w1 l ∈ ns ∧ l = lineS "call " (w1 l) (f (w1 l)) ∧ digV (tl (w2 l)) = f (w1 l) := by
  rcases dayL_mem.mp hl with ⟨n, h1, rfl⟩ | ⟨n, h1, rfl⟩
  · have e1 : w1 (lineS "call " n (f n)) = n := by unfold w1; rw [words_call (W.on n h1)]; rfl
    have e2 : w2 (lineS "call " n (f n)) = numS (f n) := by unfold w2; rw [words_call (W.on n h1)]; rfl
    rw [e1, e2, tl_num, dg_val]
    exact ⟨h1, rfl, rfl⟩
  · unfold headW at hh
    rw [words_water (W.om n h1)] at hh
    exact absurd hh nwc
theorem DayW.water_of {l : Str} (hl : l ∈ dayL ns ms f h) (hh : headW l = "water") : w1 l ∈ ms ∧ l = lineS "water " (w1 l) (h (w1 l)) ∧ digV (tl (w2 l)) = h (w1 l) := by
  rcases dayL_mem.mp hl with ⟨n, h1, rfl⟩ | ⟨n, h1, rfl⟩
  · unfold headW at hh
    rw [words_call (W.on n h1)] at hh
    exact absurd hh ncw
  · have e1 : w1 (lineS "water " n (h n)) = n := by unfold w1; rw [words_water (W.om n h1)]; rfl
    have e2 : w2 (lineS "water " n (h n)) = numS (h n) := by unfold w2; rw [words_water (W.om n h1)]; rfl
    rw [e1, e2, tl_num, dg_val]
    exact ⟨h1, rfl, rfl⟩
/-- some of the lines, in any order, are all right -/
theorem DayW.okAt {ls : List Str} (hnd : ls.Nodup) (hin : ∀ l ∈ ls, l ∈ dayL ns ms f h) {j : Nat} (hj : j < ls.length) : okAt ns ms ls j = true := by
  have hl : ls[j]? = some ls[j] := List.getElem?_eq_getElem hj
  have hm := hin _ (List.getElem_mem hj)
  have nin : ls[j] ∉ ls.take j := nodup_take hnd hl
  unfold K0.okAt
  rw [hl]
  dsimp only
  rcases dayL_mem.mp hm with ⟨n, h1, e⟩ | ⟨n, h1, e⟩
  · have hk : n ∉ keysL (addL "call" (ls.take j)) := fun z => by
      obtain ⟨q, hq, e2⟩ := List.mem_map.mp z
      obtain ⟨l', hl', rfl⟩ := List.mem_map.mp hq
      obtain ⟨hl', hh⟩ := List.mem_filter.mp hl'
      obtain ⟨_, e3, _⟩ := W.call_of (hin _ (List.mem_of_mem_take hl')) (of_decide_eq_true hh)
      have e2 : w1 l' = n := e2
      rw [e2, ← e] at e3
      exact nin (e3 ▸ hl')
    rw [e, words_call (W.on n h1)]
    show ((if ("call" : Str) = "call" then decide (n ∈ ns) && !decide (n ∈ keysL (addL "call" (ls.take j))) else _) && numOk (tl (numS (f n)))) = true
    rw [if_pos rfl, decide_eq_true h1, decide_eq_false hk, tl_num, dg_ok (W.mf n)]
    rfl
  · have hk : n ∉ keysL (addL "water" (ls.take j)) := fun z => by
      obtain ⟨q, hq, e2⟩ := List.mem_map.mp z
      obtain ⟨l', hl', rfl⟩ := List.mem_map.mp hq
      obtain ⟨hl', hh⟩ := List.mem_filter.mp hl'
      obtain ⟨_, e3, _⟩ := W.water_of (hin _ (List.mem_of_mem_take hl')) (of_decide_eq_true hh)
      have e2 : w1 l' = n := e2
      rw [e2, ← e] at e3
      exact nin (e3 ▸ hl')
    rw [e, words_water (W.om n h1)]
    show ((if ("water" : Str) = "call" then _ else decide (("water" : Str) = "water") && (decide (n ∈ ms) && !decide (n ∈ keysL (addL "water" (ls.take j))))) && numOk (tl (numS (h n)))) = true
    rw [if_neg nwc, decide_eq_true h1, decide_eq_false hk, tl_num, dg_ok (W.mh n)]
    rfl
theorem DayW.good {ls : List Str} (hnd : ls.Nodup) (hin : ∀ l ∈ ls, l ∈ dayL ns ms f h) : GoodLs ns ms ls := by
  have := good_take (ns := ns) (ms := ms) ls.length (Nat.le_refl _) fun j hj => W.okAt hnd hin hj
  rwa [List.take_length] at this
theorem DayW.calls {ls : List Str} (hnd : ls.Nodup) (hin : ∀ l ∈ ls, l ∈ dayL ns ms f h) {y : Str} (hy : y ∈ ns) : fP (addL "call" ls) y = if lineS "call " y (f y) ∈ ls then f y else 0 := by
  have g := W.good hnd hin
  have wy := words_call (W.on y hy) (f y)
  by_cases hm : lineS "call " y (f y) ∈ ls
  · rw [if_pos hm]
    have eh : headW (lineS "call " y (f y)) = "call" := by unfold headW; rw [wy]; rfl
    have e1 : w1 (lineS "call " y (f y)) = y := by unfold w1; rw [wy]; rfl
    have e2 : w2 (lineS "call " y (f y)) = numS (f y) := by unfold w2; rw [wy]; rfl
    have hq : (y, f y) ∈ addL "call" ls := List.mem_map.mpr ⟨_, List.mem_filter.mpr ⟨hm, decide_eq_true eh⟩, by rw [e1, e2, tl_num, dg_val]⟩
    exact fP_mem g.ndc hq
  · rw [if_neg hm]
    refine fP_not fun z => hm ?_
    obtain ⟨q, hq, e2⟩ := List.mem_map.mp z
    obtain ⟨l', hl', rfl⟩ := List.mem_map.mp hq
    obtain ⟨hl', hh⟩ := List.mem_filter.mp hl'
    obtain ⟨_, e3, _⟩ := W.call_of (hin _ hl') (of_decide_eq_true hh)
    have e2 : w1 l' = y := e2
    rw [e2] at e3
    exact e3 ▸ hl'
theorem DayW.waters {ls : List Str} (hnd : ls.Nodup) (hin : ∀ l ∈ ls, l ∈ dayL ns ms f h) {y : Str} (hy : y ∈ ms) : fP (addL "water" ls) y = if lineS "water " y (h y) ∈ ls then h y else 0 := by
  have g := W.good hnd hin
  have wy := words_water (W.om y hy) (h y)
  by_cases hm : lineS "water " y (h y) ∈ ls
  · rw [if_pos hm]
    have eh : headW (lineS "water " y (h y)) = "water" := by unfold headW; rw [wy]; rfl
    have e1 : w1 (lineS "water " y (h y)) = y := by unfold w1; rw [wy]; rfl
    have e2 : w2 (lineS "water " y (h y)) = numS (h y) := by unfold w2; rw [wy]; rfl
    have hq : (y, h y) ∈ addL "water" ls := List.mem_map.mpr ⟨_, List.mem_filter.mpr ⟨hm, decide_eq_true eh⟩, by rw [e1, e2, tl_num, dg_val]⟩
    exact fP_mem g.ndw hq
  · rw [if_neg hm]
    refine fP_not fun z => hm ?_
    obtain ⟨q, hq, e2⟩ := List.mem_map.mp z
    obtain ⟨l', hl', rfl⟩ := List.mem_map.mp hq
    obtain ⟨hl', hh⟩ := List.mem_filter.mp hl'
    obtain ⟨_, e3, _⟩ := W.water_of (hin _ hl') (of_decide_eq_true hh)
    have e2 : w1 l' = y := e2
    rw [e2] at e3
    exact e3 ▸ hl'
theorem DayW.line {l : Str} (hl : l ∈ dayL ns ms f h) : (10 : Nat) ∉ tl l ∧ (tl l).length ≤ 50 := by
  obtain ⟨a, n, v, _, _, _, h1, h2⟩ := line_words W.on W.om (W.lineOk hl)
  exact ⟨h1, h2⟩
end
/-- lines in front stay right whatever comes behind -/
theorem okAt_app {ns ms ls rs : List Str} {j : Nat} (hj : j < ls.length) : okAt ns ms (ls ++ rs) j = okAt ns ms ls j := by
  unfold okAt
  rw [List.getElem?_append_left hj, List.take_append_of_le_length (by omega)]
theorem okAt_wrong {ns ms ls rs : List Str} {l : Str} (h : lineB ns ms (keysL (addL "call" ls)) (keysL (addL "water" ls)) (wOf l) = false) : okAt ns ms (ls ++ l :: rs) ls.length = false := by
  unfold okAt
  rw [List.getElem?_append_right (Nat.le_refl _), Nat.sub_self]
  show lineB ns ms (keysL (addL "call" ((ls ++ l :: rs).take ls.length))) (keysL (addL "water" ((ls ++ l :: rs).take ls.length))) (wOf l) = false
  rw [List.take_left]
  exact h
/-! ### the last two signs -/
theorem dg_two {v : Nat} (h : ¬ v = 0) (X : List Nat) : (X ++ [32] ++ dg v).drop ((X ++ [32] ++ dg v).length - 2) ≠ [32, 48] := fun e => by
  by_cases h2 : v < 10
  · rw [dg_low h2] at e
    have hl : (X ++ [32] ++ [48 + v]).length - 2 = X.length := by simp
    rw [hl, List.append_assoc, List.drop_left] at e
    have : 48 + v = 48 := (List.cons.inj (List.cons.inj e).2).1
    omega
  · rw [dg_rec (by omega)] at e
    obtain ⟨c, r, er⟩ : ∃ c r, dg (v / 10) = r ++ [c] := by
      have := List.dropLast_concat_getLast (dg_ne (v / 10))
      exact ⟨_, _, this.symm⟩
    have hc : 48 ≤ c := (dg_dig (v / 10) c (by rw [er]; exact List.mem_append_right _ (List.mem_singleton.mpr rfl))).1
    rw [er] at e
    have hl : (X ++ [32] ++ (r ++ [c] ++ [48 + v % 10])).length - 2 = (X ++ [32] ++ r).length := by simp; omega
    rw [hl] at e
    have e2 : X ++ [32] ++ (r ++ [c] ++ [48 + v % 10]) = (X ++ [32] ++ r) ++ [c, 48 + v % 10] := by simp
    rw [e2, List.drop_left] at e
    have : c = 32 := (List.cons.inj e).1
    omega
theorem lineS_two {x n : Str} {v : Nat} (h : ¬ v = 0) : (tl (lineS x n v)).drop ((tl (lineS x n v)).length - 2) ≠ [32, 48] := by
  have e : tl (lineS x n v) = tl (Str.empty ++ x ++ n) ++ [32] ++ dg v := by
    unfold lineS
    rw [tl_append, tl_append, tl_num, tl_sp]
  rw [e]
  exact dg_two h _
end K0
end
section
set_option Elab.async false
set_option linter.all false
set_option maxRecDepth 100000
set_option maxHeartbeats 2000000
namespace K0
open PySem PySem.Spec PyProof.Rows L2 TL
/-! ### helpers of the law -/
theorem bag_not {H : Hp} {p D : Addr} (hB : BagAt H p) (hD : H D = none) : D ≠ p := fun e => by
  obtain ⟨x, hx, _⟩ := hB
  rw [e, hx] at hD
  cases hD
theorem bag_new {H : Hp} {p D : Addr} {o : HO} (hB : BagAt H p) (hD : H D = none) : BagAt (upd H D o) p := by
  obtain ⟨x, hx, hv⟩ := hB
  exact ⟨x, by rw [upd_ne (ne_of_none hx hD)]; exact hx, hv⟩
theorem upto_none {H H' : Hp} {p D : Addr} (u : Upto p H H') (n : D ≠ p) (h : H' D = none) : H D = none := by
  cases e : H D with
  | none => rfl
  | some o =>
    rw [u _ _ e n] at h
    cases h
section
variable {K : PySem.W.Frag} {a : Addr} {tt : TT} {te : TE} {σ : L2.St} {H1 : Hp} {D : Addr} {Qd : Hp → Prop} {j : Nat}
/-- pairs of names and numbers, one after another -/
theorem lc_pairs {ns : List Str} (v : Str → Nat) (hD : H1 D = none) (hl : H1 a = some (.lst (ns.map V.str))) (hn : ns.Nodup) (h41 : ns.length ≤ 41)
    (hw : ∀ y, wipe ((wipe σ [j]).set j (some (V.str y))) [j] = wipe σ [j])
    (hs : ∀ y ∈ ns, ∀ (H9 : Hp) (Q' : VK), Same H1 H9 → (∀ t, H9 t = none → Q' (.ref t) (upd H9 t (.tup [.str y, .int (v y : Int)]))) → te ((wipe σ [j]).set j (some (V.str y))) H9 Q')
    (hd : ∀ (H9 : Hp) (ps : List Addr) (kvs : List (Key × V)), Same H1 H9 → H9 D = some (.lst (ps.map V.ref)) → Paired (fun p kv => SqT K H9 p [kV kv.1, kv.2]) ps kvs → mergeK [] kvs = amK v ns → Qd H9) :
    ∃ W : Nat → Nat → Hp → Prop, (∃ m, W 0 m (upd H1 D (.lst []))) ∧ ∀ i m H, W i m H →
      ((Itl K a).stop i H ∧ Qd H) ∨ ((Itl K a).go i H ∧ ∃ Nx : Hp → Prop, (∀ H', Nx H' → ∃ m', m' < m ∧ W (i + 1) m' H') ∧ ∀ x H', (Itl K a).yld i H x H' → gName j x (wipe σ [j]) H' fun σ2 H2 => wipe σ2 [j] = wipe σ [j] ∧ tYes σ2 H2 fun b H3 =>
        if b = true then te σ2 H3 fun y H4 => ∃ acc, H4 D = some (.lst acc) ∧ acc.length < sizeLine ∧ Nx (upd H4 D (.lst (acc ++ [y]))) else Nx H3) := by
  refine lc_list (K := K) (a := a) (xs := ns.map V.str) (fun i H9 => Same H1 H9 ∧ ∃ L : List (Addr × Str × Nat), PairN H9 D L ∧ L.map (·.2.1) = ns.take i ∧ (∀ q ∈ L, q.2.2 = v q.2.1))
    ⟨same_upd hD, [], ⟨upd_same, fun q hq => by cases hq⟩, rfl, fun q hq => by cases hq⟩ (fun i H9 hi h => .inl (.inl (h.1 _ _ hl))) ?_ ?_
  · rintro i x H9 hx ⟨s9, L, hP, hLn, hLv⟩
    rw [List.getElem?_map] at hx
    obtain ⟨y, hy, rfl⟩ := Option.map_eq_some_iff.mp hx
    refine ⟨hw y, ?_⟩
    unfold tYes
    refine iteT ?_
    refine hs y (List.mem_of_getElem? hy) H9 _ s9 fun t nt => ?_
    have tD : D ≠ t := ne_of_none hP.1 nt
    have hLl : L.length ≤ 41 := by
      have := congrArg List.length hLn
      rw [List.length_map, List.length_take] at this
      omega
    refine ⟨_, by rw [upd_ne tD]; exact hP.1, by rw [List.length_map]; exact small1000 (by omega), fun b o hb => ?_, L ++ [(t, y, v y)], ⟨by rw [upd_same, List.map_append]; rfl, fun q hq => ?_⟩, ?_, fun q hq => ?_⟩
    · rw [upd_ne (ne_of_none hb hD), upd_ne (ne_of_none (s9 _ _ hb) nt)]
      exact s9 _ _ hb
    · rcases List.mem_append.mp hq with e | e
      · have h4 := hP.2 q e
        rw [upd_ne (ne_of h4 hP.1 (fun z => by cases z)), upd_ne (ne_of_none h4 nt)]
        exact h4
      · rw [List.mem_singleton.mp e, upd_ne tD.symm, upd_same]
    · rw [List.map_append, hLn, List.take_add_one, hy]
      rfl
    · rcases List.mem_append.mp hq with e | e
      · exact hLv q e
      · rw [List.mem_singleton.mp e]
  · rintro H9 ⟨s9, L, hP, hLn, hLv⟩
    rw [List.length_map, List.take_length] at hLn
    refine hd H9 (L.map (·.1)) _ s9 (by rw [List.map_map]; exact hP.1) (pairN_paired hP.2) ?_
    have e : (L.map fun q => ((Sum.inr q.2.1 : Key), V.int (q.2.2 : Int))) = amK v ns := by
      unfold amK kmap
      rw [← hLn, List.map_map]
      refine List.map_congr_left fun q hq => ?_
      show _ = ((Sum.inr q.2.1 : Key), V.int (v q.2.1 : Int))
      rw [hLv q hq]
    rw [e]
    have := merge_kmap (f := fun y => .int (v y : Int)) (ms := ns) (ns := []) (by simpa using hn)
    rw [List.nil_append] at this
    exact this
/-- some of the texts of a list, as a bag says -/
theorem lc_keep {p : Addr} {zs : List Str} (keep : Str → Prop) (hB : BagAt H1 p) (hD : H1 D = none) (hl : H1 a = some (.lst (zs.map V.str))) (nap : a ≠ p) (hlen : zs.length ≤ 900)
    (hw : ∀ y, wipe ((wipe σ [j]).set j (some (V.str y))) [j] = wipe σ [j]) (hv : ∀ y, ((wipe σ [j]).set j (some (V.str y)))[j]? = some (some (V.str y)))
    (hs : ∀ y ∈ zs, ∀ (H9 : Hp) (Qb : Bool → Hp → Prop), BagAt H9 p → (∀ b H', Upto p H9 H' → BagAt H' p → (keep y → b = true) → Qb b H') → tt ((wipe σ [j]).set j (some (V.str y))) H9 Qb)
    (hd : ∀ (H9 : Hp) (S : List Str), Upto p H1 H9 → BagAt H9 p → H9 D = some (.lst (S.map V.str)) → S.Sublist zs → (∀ y ∈ zs, keep y → y ∈ S) → Qd H9) :
    ∃ W : Nat → Nat → Hp → Prop, (∃ m, W 0 m (upd H1 D (.lst []))) ∧ ∀ i m H, W i m H →
      ((Itl K a).stop i H ∧ Qd H) ∨ ((Itl K a).go i H ∧ ∃ Nx : Hp → Prop, (∀ H', Nx H' → ∃ m', m' < m ∧ W (i + 1) m' H') ∧ ∀ x H', (Itl K a).yld i H x H' → gName j x (wipe σ [j]) H' fun σ2 H2 => wipe σ2 [j] = wipe σ [j] ∧ tt σ2 H2 fun b H3 =>
        if b = true then tVar j σ2 H3 fun y H4 => ∃ acc, H4 D = some (.lst acc) ∧ acc.length < sizeLine ∧ Nx (upd H4 D (.lst (acc ++ [y]))) else Nx H3) := by
  have nDp := bag_not hB hD
  refine lc_list (K := K) (a := a) (xs := zs.map V.str) (fun i H9 => Upto p H1 H9 ∧ BagAt H9 p ∧ ∃ S : List Str, H9 D = some (.lst (S.map V.str)) ∧ S.Sublist (zs.take i) ∧ (∀ y ∈ zs.take i, keep y → y ∈ S))
    ⟨.of (same_upd hD), bag_new hB hD, [], upd_same, List.nil_sublist _, fun y hy => by rw [List.take_zero] at hy; cases hy⟩ (fun i H9 hi h => .inl (.inl (h.1 _ _ hl nap))) ?_ ?_
  · rintro i x H9 hx ⟨u9, B9, S, hS, hsub, hk⟩
    rw [List.getElem?_map] at hx
    obtain ⟨y, hy, rfl⟩ := Option.map_eq_some_iff.mp hx
    have et : zs.take (i + 1) = zs.take i ++ [y] := by rw [List.take_add_one, hy]; rfl
    refine ⟨hw y, hs y (List.mem_of_getElem? hy) H9 _ B9 fun b H' u' B' kb => ?_⟩
    have hS' := u' _ _ hS nDp
    have hSl : S.length ≤ 900 := by
      have h1 := hsub.length_le
      rw [List.length_take] at h1
      omega
    refine ite2 (fun _ => ?_) (fun nb => ?_)
    · refine ⟨_, hv y, _, hS', by rw [List.length_map]; exact small1000 (by omega), fun c o hc hcp => ?_, ?_, S ++ [y], by rw [upd_same, List.map_append]; rfl, ?_, fun z hz hkz => ?_⟩
      · rw [upd_ne (ne_of_none hc hD)]
        exact u' _ _ (u9 _ _ hc hcp) hcp
      · obtain ⟨xb, hxb, hvb⟩ := B'
        exact ⟨xb, by rw [upd_ne nDp.symm]; exact hxb, hvb⟩
      · rw [et]
        exact hsub.append (List.Sublist.refl _)
      · rw [et] at hz
        rcases List.mem_append.mp hz with e | e
        · exact List.mem_append_left _ (hk z e hkz)
        · exact List.mem_append_right _ e
    · refine ⟨u9.trans u', B', S, hS', ?_, fun z hz hkz => ?_⟩
      · rw [et]
        exact hsub.trans (List.sublist_append_left _ _)
      · rw [et] at hz
        rcases List.mem_append.mp hz with e | e
        · exact hk z e hkz
        · rw [List.mem_singleton.mp e] at hkz
          exact absurd (kb hkz) nb
  · rintro H9 ⟨u9, B9, S, hS, hsub, hk⟩
    rw [List.length_map, List.take_length] at hsub hk
    exact hd H9 S u9 B9 hS hsub hk
end
/-! ### all that the law holds -/
structure Kd (Cd Cg Cr : Addr) (H : Hp) (p W N cd wd g q dy L : Addr) (AR : List (Addr × Row)) (BR : List (Addr × RRow)) (f h : Str → Nat) : Prop where
  fB : BagAt H p
  fW : H W = some (.lst ((namesOf AR).map V.str))
  fN : H N = some (.lst ((rnm (bOf BR)).map V.str))
  fc : H cd = some (.dK (amK f (rnm (bOf BR))))
  fw : H wd = some (.dK (amK h (namesOf AR)))
  rig : RigOk Cg Cr H g q AR BR
  day : DayAt Cd H dy g (rnm (bOf BR)) (namesOf AR) f h
  fL : H L = some (.lst ((dayL (rnm (bOf BR)) (namesOf AR) f h).map V.str))
  nW : W ≠ p
  nN : N ≠ p
  nL : L ≠ p
theorem DayAt.bag {Cd : Addr} {H H' : Hp} {b p g : Addr} {ns ms : List Str} {f h : Str → Nat} (d : DayAt Cd H p g ns ms f h) (hB : BagAt H b) (u : Upto b H H') : DayAt Cd H' p g ns ms f h := by
  obtain ⟨dx, dc, dw, h1, h2, h3⟩ := d.ex
  obtain ⟨x, hx, _⟩ := hB
  exact ⟨dx, dc, dw, u _ _ h1 (ne_of h1 hx (fun z => by cases z)), u _ _ h2 (ne_of h2 hx (fun z => by cases z)), u _ _ h3 (ne_of h3 hx (fun z => by cases z))⟩
section
variable {Cd Cg Cr : Addr} {H H' : Hp} {p W N cd wd g q dy L : Addr} {AR : List (Addr × Row)} {BR : List (Addr × RRow)} {f h : Str → Nat}
theorem Kd.upto (k : Kd Cd Cg Cr H p W N cd wd g q dy L AR BR f h) (u : Upto p H H') (B' : BagAt H' p) : Kd Cd Cg Cr H' p W N cd wd g q dy L AR BR f h := by
  have hB := k.fB
  obtain ⟨x, hx, _⟩ := id k.fB
  exact ⟨B', u _ _ k.fW k.nW, u _ _ k.fN k.nN, u _ _ k.fc (ne_of k.fc hx (fun z => by cases z)), u _ _ k.fw (ne_of k.fw hx (fun z => by cases z)), rigI (bag_keepI hB u) k.rig, k.day.bag hB u, u _ _ k.fL k.nL, k.nW, k.nN, k.nL⟩
theorem Kd.same (k : Kd Cd Cg Cr H p W N cd wd g q dy L AR BR f h) (s : Same H H') : Kd Cd Cg Cr H' p W N cd wd g q dy L AR BR f h := k.upto (.of s) (bagS' k.fB s)
/-- good lines are read -/
theorem rd_ok {E : XK} {Q : VK} {ls : List Str} (r : RigOk Cg Cr H g q AR BR) (Wd : DayW (rnm (bOf BR)) (namesOf AR) f h) (hne : ls ≠ []) (hnd : ls.Nodup) (hin : ∀ l ∈ ls, l ∈ dayL (rnm (bOf BR)) (namesOf AR) f h) (h90 : ls.length ≤ 90)
    (k : ∀ H' p', Same H H' → DayAt Cd H' p' g (rnm (bOf BR)) (namesOf AR) (fP (addL "call" ls)) (fP (addL "water" ls)) → Q (.ref p') H') : spLRead Cd Cg Cr [.ref g, .str (Txt.join "\n" ls)] H Q E :=
by
  refine ⟨g, q, AR, BR, ls, rfl, r, ⟨hne, by omega, fun l hl => (Wd.line (hin l hl)).1, fun l hl => by have := (Wd.line (hin l hl)).2; omega⟩, fun i l hl hbad _ => ?_, fun _ => k⟩
  have := Wd.okAt hnd hin (List.getElem?_eq_some_iff.mp hl).1
  rw [this] at hbad
  cases hbad
/-- the first wrong line is told -/
theorem rd_bad {E : XK} {Q : VK} {as rs : List Str} {l : Str} (r : RigOk Cg Cr H g q AR BR) (Wd : DayW (rnm (bOf BR)) (namesOf AR) f h) (hnd : as.Nodup) (hin : ∀ l ∈ as, l ∈ dayL (rnm (bOf BR)) (namesOf AR) f h) (h90 : as.length ≤ 90)
    (hb : lineB (rnm (bOf BR)) (namesOf AR) (keysL (addL "call" as)) (keysL (addL "water" as)) (wOf l) = false) (hL : LnsD (as ++ l :: rs))
    (k : ∀ t H', Same H H' → H' t = some (.tup [.str "refused", .int (as.length : Int)]) → Q (.ref t) H') : spLRead Cd Cg Cr [.ref g, .str (Txt.join "\n" (as ++ l :: rs))] H Q E := by
  have hw := okAt_wrong (ns := rnm (bOf BR)) (ms := namesOf AR) (rs := rs) hb
  refine ⟨g, q, AR, BR, _, rfl, r, hL, fun i l' hl' hbad good => ?_, fun good => ?_⟩
  · rcases Nat.lt_trichotomy i as.length with e | e | e
    · rw [okAt_app e, Wd.okAt hnd hin e] at hbad
      cases hbad
    · subst e
      exact ⟨h90, k⟩
    · have := good _ e
      rw [hw] at this
      cases this
  · have := good as.length (by rw [List.length_append, List.length_cons]; omega)
    rw [hw] at this
    cases this
end
def refD (n : Nat) : PyData := .tuple [.str "refused", .int (n : Int)]
theorem ref_shaped (n : Nat) : SeqAt.shaped (refD n) = true := by
  have h : PyData.canLay0 (.str "refused") = true := by decide +kernel
  unfold refD SeqAt.shaped
  rw [Bool.and_eq_true]
  refine ⟨?_, ?_⟩
  · simp only [PyData.canLay0, PyData.canLayAll0, Bool.and_true] at h ⊢
    exact h
  · simp only [PyData.depth, PyData.depthAll]
    exact decide_eq_true (by decide)
theorem ref_eqv (n : Nat) : PyData.eqv (refD n) (refD n) = true := by
  simp only [refD, PyData.eqv, PyData.eqvAll, beq_self_eq_true, Bool.and_self]
theorem ref_dp {K : PySem.W.Frag} {H : Hp} {t : Addr} {n : Nat} (h : H t = some (.tup [.str "refused", .int (n : Int)])) : Dp K H (.ref t) (refD n) :=
  .tup (.inl (.inl h)) (.cons (.str _) (.cons (.int _) .nil))
end K0
end
section
set_option Elab.async false
set_option linter.all false
set_option maxRecDepth 100000
set_option maxHeartbeats 2000000
namespace K0
open PySem PySem.Spec PyProof.Rows L2 TL
/-! ### more helpers of the law -/
theorem am_fill (f : Str → Nat) (ns : List Str) : amK f ns = amK (fillN f ns) ns := kmap_congr fun x hx => by
  unfold fillN
  rw [if_pos hx]
theorem fill_fill (f : Str → Nat) (ns : List Str) : fillN (fillN f ns) ns = fillN f ns := funext fun y => by
  unfold fillN
  by_cases h : y ∈ ns
  · rw [if_pos h, if_pos h]
  · rw [if_neg h, if_neg h]
theorem fresh_nx {D : Ends} {σ : L2.St} {H : Hp} (h : ∀ σ', σ' = σ → D.nx σ' H) : D.nx σ H := h σ rfl
theorem cutN_take (xs : List V) (n : Nat) : cutV xs none (some (n : Int)) = xs.take n := by
  unfold cutV
  rw [HT.sIx_none, HT.sIx_nat]
  show (xs.drop 0).take (min n xs.length - 0) = xs.take n
  rw [List.drop_zero, Nat.sub_zero]
  exact (List.take_eq_take_min ..).symm
theorem cutN_drop (xs : List V) (n : Nat) : cutV xs (some (n : Int)) none = xs.drop n := by
  unfold cutV
  rw [HT.sIx_none, HT.sIx_nat]
  by_cases h : n ≤ xs.length
  · rw [Nat.min_eq_left h]
    exact List.take_of_length_le (by rw [List.length_drop]; omega)
  · rw [Nat.min_eq_right (by omega), Nat.sub_self, List.drop_of_length_le (Nat.le_refl _), List.drop_of_length_le (by omega)]
    rfl
theorem cut_two (y : Str) : tl (cutS y (some (-2)) none) = (tl y).drop ((tl y).length - 2) := by
  unfold cutS
  rw [HT.sIx_none]
  have el : y.length = (tl y).length := len_list y
  have e : HT.sIx y.length 0 (some (-2)) = (tl y).length - 2 := by
    show (if (-2 : Int) < 0 then ((-2 : Int) + (y.length : Int)).toNat else min (-2 : Int).toNat y.length) = (tl y).length - 2
    rw [if_pos (by decide)]
    omega
  rw [e]
  show ((tl y).drop ((tl y).length - 2)).take (y.length - ((tl y).length - 2)) = _
  exact List.take_of_length_le (by rw [List.length_drop]; omega)
section
variable {K : PySem.W.Frag} {Cd Cg Cr : Addr} {H : Hp} {σ : L2.St}
/-- calls and waters are compared and found equal -/
theorem chk {i j : Nat} {pF g c e : Addr} {ns ms : List Str} {fF hF f h : Str → Nat} {Q : Bool → Hp → Prop} (h14 : σ[14]? = some (some (.ref pF))) (hi : σ[i]? = some (some (.ref c))) (hj : σ[j]? = some (some (.ref e)))
    (D : DayAt Cd H pF g ns ms fF hF) (hc : H c = some (.dK (amK f ns))) (he : H e = some (.dK (amK h ms))) (e1 : ∀ y ∈ ns, fF y = f y) (e2 : ∀ y ∈ ms, hF y = h y) (k : ∀ H', Same H H' → Q false H') :
    tOr (tTest (tOp rNeDA (tMeth Cd "calls" (spDCalls Cd) [] E0 (tVar 14) tNil) (tVar i))) (tTest (tOp rNeDA (tMeth Cd "waters" (spDWaters Cd) [] E0 (tVar 14) tNil) (tVar j))) σ H Q := by
  obtain ⟨dx, dc, dw, j1, j2, j3⟩ := id D.ex
  refine ⟨_, h14, pF, dx, _, rfl, j1, e3no (by decide +kernel), pF, g, ns, ms, fF, hF, rfl, D, fun d nd => ?_⟩
  have s1 := same_upd nd (o := .dK (amK fF ns))
  have hd : (upd H d (.dK (amK fF ns))) d = some (.dK (amK fF ns)) := upd_same
  generalize upd H d (.dK (amK fF ns)) = H1 at s1 hd
  refine ⟨_, hi, d, c, _, _, rfl, rfl, hd, s1 _ _ hc, by rw [kmap_len, kmap_len], am_same e1, _, rfl, iteF ?_⟩
  refine ⟨_, h14, pF, dx, _, rfl, s1 _ _ j1, e3no (by decide +kernel), pF, g, ns, ms, fF, hF, rfl, D.same s1, fun d2 nd2 => ?_⟩
  have s2 := same_upd nd2 (o := .dK (amK hF ms))
  have hd2 : (upd H1 d2 (.dK (amK hF ms))) d2 = some (.dK (amK hF ms)) := upd_same
  generalize upd H1 d2 (.dK (amK hF ms)) = H2 at s2 hd2
  exact ⟨_, hj, d2, e, _, _, rfl, rfl, hd2, s2 _ _ (s1 _ _ he), by rw [kmap_len, kmap_len], am_same e2, _, rfl, k _ (s1.trans s2)⟩
end
theorem dayL_len (ns ms : List Str) (f h : Str → Nat) : (dayL ns ms f h).length = ns.length + ms.length := by
  unfold dayL
  rw [List.length_append, List.length_map, List.length_map]
section
variable {ns ms : List Str} {f h : Str → Nat}
theorem rd_lns {ls : List Str} (Wd : DayW ns ms f h) (hne : ls ≠ []) (hin : ∀ l ∈ ls, l ∈ dayL ns ms f h) (h90 : ls.length ≤ 90) : LnsD ls :=
  ⟨hne, by omega, fun l hl => (Wd.line (hin l hl)).1, fun l hl => by have := (Wd.line (hin l hl)).2; omega⟩
theorem rd_no {P : Nat → Prop} {ls : List Str} (Wd : DayW ns ms f h) (hnd : ls.Nodup) (hin : ∀ l ∈ ls, l ∈ dayL ns ms f h) : ∀ i l, ls[i]? = some l → okAt ns ms ls i = false → (∀ j, j < i → okAt ns ms ls j = true) → P i := fun i l hl hbad _ => by
  have := Wd.okAt hnd hin (List.getElem?_eq_some_iff.mp hl).1
  rw [this] at hbad
  cases hbad
theorem rd_idx {as rs : List Str} {l : Str} {i : Nat} (Wd : DayW ns ms f h) (hnd : as.Nodup) (hin : ∀ l ∈ as, l ∈ dayL ns ms f h)
    (hb : lineB ns ms (keysL (addL "call" as)) (keysL (addL "water" as)) (wOf l) = false) (hbad : okAt ns ms (as ++ l :: rs) i = false) (good : ∀ j, j < i → okAt ns ms (as ++ l :: rs) j = true) : i = as.length := by
  rcases Nat.lt_trichotomy i as.length with e | e | e
  · rw [okAt_app e, Wd.okAt hnd hin e] at hbad
    cases hbad
  · exact e
  · have := good _ e
    rw [okAt_wrong hb] at this
    cases this
theorem rd_nogood {P : Prop} {as rs : List Str} {l : Str} (hb : lineB ns ms (keysL (addL "call" as)) (keysL (addL "water" as)) (wOf l) = false) (good : ∀ j, j < (as ++ l :: rs).length → okAt ns ms (as ++ l :: rs) j = true) : P := by
  have := good as.length (by rw [List.length_append, List.length_cons]; omega)
  rw [okAt_wrong hb] at this
  cases this
end
theorem all_str (F : List Str) : (F.map V.str).all flatV = true := List.all_eq_true.mpr fun v hv => by
  obtain ⟨y, _, rfl⟩ := List.mem_map.mp hv
  rfl
end K0
end
section
set_option Elab.async false
set_option linter.all false
set_option maxRecDepth 100000
set_option maxHeartbeats 16000000
namespace K0
open PySem PySem.Spec PyProof.Rows L2 TL
/-! ### the law -/
abbrev scLaw_N : List Str := ["_law_script", "_law_bag_here", "_law_rows", "_law_rights_rows", "_law_weirs", "_law_names_here", "_law_drawn_calls", "_law_drawn_waters", "_law_calls", "_law_waters", "_law_rights_here", "_law_day", "_law_lines_here", "_law_text", "_law_found", "_law_some", "_law_few", "_law_asked", "_law_held", "_law_wrong_here", "_law_bad", "_law_at", "_law_early", "_law_row", "_law_name", "_law_weir", "_law_line"]
abbrev scLaw_S : Stmt := sLaw
theorem scLaw : FnScope scLaw_N ["_law_script"] (defScope sLaw) := ⟨rfl, rfl, rfl, by decide +kernel, rfl, by decide +kernel, by decide +kernel⟩
def spLaw (K : PySem.W.Frag) : Sp := fun vs H Q _ => ∃ (a : Addr) (ns : List Int), vs = [.ref a] ∧ SqL K H a (ns.map V.int) ∧ ns.length ≤ 63 ∧ ∀ H', Q (.bl true) H'
def Gf (K : PySem.W.Frag) (mg : Str → Option Value) (x : Str) (st : Stmt) : Prop := ∃ f fd, FnP K x st f fd ∧ mg x = some (.ref f)
/-- what the law calls -/
structure Lw (P : Program) (w : World) (K : PySem.W.Frag) (mg : Str → Option Value) (base : Heap) (Cd Cg Cr Ct : Addr) : Prop where
  bag : ∃ f fd, FnP K "_law_bag" sBag f fd ∧ mg "_law_bag" = some (.ref f) ∧ FnOk P w K mg base CX0 1 f fd ["_law_script", "_law_at", "_law_salt"] (spBag K)
  river : ∃ f fd, FnP K "_law_river" sLRiver f fd ∧ mg "_law_river" = some (.ref f) ∧ FnOk P w K mg base CX0 4 f fd ["_law_bag_here", "_law_many"] spLRiver
  rights : ∃ f fd, FnP K "_law_rights" sLRights f fd ∧ mg "_law_rights" = some (.ref f) ∧ FnOk P w K mg base CX0 4 f fd ["_law_bag_here", "_law_rows", "_law_many"] spLRights
  size : ∃ f fd, FnP K "_law_size" sLSize f fd ∧ mg "_law_size" = some (.ref f) ∧ FnOk P w K mg base CX0 2 f fd ["_law_bag_here", "_law_most"] spLSize
  take : ∃ f fd, FnP K "_law_take" sTake f fd ∧ mg "_law_take" = some (.ref f) ∧ FnOk P w K mg base CX0 1 f fd ["_law_bag_here", "_law_many"] spTake
  of : ∃ f fd, FnP K "_law_of" sOf f fd ∧ mg "_law_of" = some (.ref f) ∧ FnOk P w K mg base CX0 2 f fd ["_law_bag_here", "_law_some"] (spOf K)
  mixed : ∃ f fd, FnP K "_law_mixed" sMixed f fd ∧ mg "_law_mixed" = some (.ref f) ∧ FnOk P w K mg base CX0 2 f fd ["_law_bag_here", "_law_some"] (spMixed K)
  amounts : ∃ f fd, FnP K "_law_amounts" sLAmounts f fd ∧ mg "_law_amounts" = some (.ref f) ∧ FnOk P w K mg base CX0 3 f fd ["_law_bag_here", "_law_names_here"] spLAmounts
  lines : ∃ f fd, FnP K "_law_lines" sLLines f fd ∧ mg "_law_lines" = some (.ref f) ∧ FnOk P w K mg base CX0 1 f fd ["_law_calls", "_law_waters"] spLLines
  read : ∃ f fd, FnP K "_law_read" sLRead f fd ∧ mg "_law_read" = some (.ref f) ∧ FnOk P w K mg base CX0 8 f fd ["_law_rights_here", "_law_text"] (spLRead Cd Cg Cr)
  wrong : ∃ f fd, FnP K "_law_wrong" sLWrong f fd ∧ mg "_law_wrong" = some (.ref f) ∧ FnOk P w K mg base CX0 4 f fd ["_law_bag_here", "_law_lines_here", "_law_names_here", "_law_weirs"] spLWrong
  write : ∃ f fd, FnP K "write_day" sWriteDay f fd ∧ mg "write_day" = some (.ref f) ∧ FnOk P w K mg base CX0 2 f fd ["day"] (spWriteDay Cd)
  made : ∃ f fd, FnM K "__init__" "River.__init__" sInit f fd ∧ Mk K Cr f ∧ FnOk P w K mg base CX0 4 f fd ["self", "rows"] (spInit Cr)
  madeG : ∃ f fd, FnM K "__init__" "Rights.__init__" sGInit f fd ∧ Mk K Cg f ∧ FnOk P w K mg base CX0 5 f fd ["self", "river", "rows"] (spGInit Cg Cr)
  madeD : Dm P w K mg base Cd Cg Cr
  calls : ∃ f fd, FnM K "calls" "Day.calls" sDCalls f fd ∧ Meth K Cd "calls" f ∧ FnOk P w K mg base CX0 1 f fd ["self"] (spDCalls Cd)
  waters : ∃ f fd, FnM K "waters" "Day.waters" sDWaters f fd ∧ Meth K Cd "waters" f ∧ FnOk P w K mg base CX0 1 f fd ["self"] (spDWaters Cd)
  eq : ∃ f fd, FnM K "__eq__" "Day.__eq__" sDEq f fd ∧ PySem.W.findIn K (.ref Cd) "__eq__" = some (some (.ref f)) ∧ PySem.W.isFn K (.ref f) = true ∧ FnOk P w K mg base CX0 3 f fd ["self", "other"] (spHas (GDEq K Cd Cg Cr))
  nfD : PySem.W.notFirst K Cd (.ref Cd) = true
  ID : Ri K Cd
  kt : PySem.W.kitOne K (.ref Cd) (.type "tuple") = some false
section
variable {P : Program} {w : World} {K : PySem.W.Frag} {mg : Str → Option Value} {base : Heap} {tS tM tL : Tok}
theorem ok_law {f Cd Cg Cr Ct : Addr} {fd : FuncData} (F : FnP K "law" sLaw f fd) (L : Lw P w K mg base Cd Cg Cr Ct) (T : Rv K mg Cr) (TG : Rg K mg Cg) (TD : Dv1 K mg Cd) (B : Bl mg) : FnOk P w K mg base CX0 9 f fd ["_law_script"] (spLaw K) := by
  obtain ⟨f1, d1, F_law_bag, g_law_bag, G_law_bag⟩ := L.bag
  have b_law_bag : Binds K d1 ["_law_script", "_law_at", "_law_salt"] [] := F_law_bag.bindsN fun _ _ _ _ _ _ us hl => match us, hl with | [_, _, _], _ => rfl
  obtain ⟨f2, d2, F_law_river, g_law_river, G_law_river⟩ := L.river
  have b_law_river : Binds K d2 ["_law_bag_here", "_law_many"] [] := F_law_river.bindsN fun _ _ _ _ _ _ us hl => match us, hl with | [_, _], _ => rfl
  obtain ⟨f3, d3, F_law_rights, g_law_rights, G_law_rights⟩ := L.rights
  have b_law_rights : Binds K d3 ["_law_bag_here", "_law_rows", "_law_many"] [] := F_law_rights.bindsN fun _ _ _ _ _ _ us hl => match us, hl with | [_, _, _], _ => rfl
  obtain ⟨f4, d4, F_law_size, g_law_size, G_law_size⟩ := L.size
  have b_law_size : Binds K d4 ["_law_bag_here", "_law_most"] [] := F_law_size.bindsN fun _ _ _ _ _ _ us hl => match us, hl with | [_, _], _ => rfl
  obtain ⟨f5, d5, F_law_take, g_law_take, G_law_take⟩ := L.take
  have b_law_take : Binds K d5 ["_law_bag_here", "_law_many"] [] := F_law_take.bindsN fun _ _ _ _ _ _ us hl => match us, hl with | [_, _], _ => rfl
  obtain ⟨f6, d6, F_law_of, g_law_of, G_law_of⟩ := L.of
  have b_law_of : Binds K d6 ["_law_bag_here", "_law_some"] [] := F_law_of.bindsN fun _ _ _ _ _ _ us hl => match us, hl with | [_, _], _ => rfl
  obtain ⟨f7, d7, F_law_mixed, g_law_mixed, G_law_mixed⟩ := L.mixed
  have b_law_mixed : Binds K d7 ["_law_bag_here", "_law_some"] [] := F_law_mixed.bindsN fun _ _ _ _ _ _ us hl => match us, hl with | [_, _], _ => rfl
  obtain ⟨f8, d8, F_law_amounts, g_law_amounts, G_law_amounts⟩ := L.amounts
  have b_law_amounts : Binds K d8 ["_law_bag_here", "_law_names_here"] [] := F_law_amounts.bindsN fun _ _ _ _ _ _ us hl => match us, hl with | [_, _], _ => rfl
  obtain ⟨f9, d9, F_law_lines, g_law_lines, G_law_lines⟩ := L.lines
  have b_law_lines : Binds K d9 ["_law_calls", "_law_waters"] [] := F_law_lines.bindsN fun _ _ _ _ _ _ us hl => match us, hl with | [_, _], _ => rfl
  obtain ⟨fa, da, F_law_read, g_law_read, G_law_read⟩ := L.read
  have b_law_read : Binds K da ["_law_rights_here", "_law_text"] [] := F_law_read.bindsN fun _ _ _ _ _ _ us hl => match us, hl with | [_, _], _ => rfl
  obtain ⟨fb, db, F_law_wrong, g_law_wrong, G_law_wrong⟩ := L.wrong
  have b_law_wrong : Binds K db ["_law_bag_here", "_law_lines_here", "_law_names_here", "_law_weirs"] [] := F_law_wrong.bindsN fun _ _ _ _ _ _ us hl => match us, hl with | [_, _, _, _], _ => rfl
  obtain ⟨fc, dc, Fwrite_day, gwrite_day, Gwrite_day⟩ := L.write
  have bwrite_day : Binds K dc ["day"] [] := Fwrite_day.bindsN fun _ _ _ _ _ _ us hl => match us, hl with | [_], _ => rfl
  obtain ⟨fI, fdI, FI, MK, GI⟩ := L.made
  have bI : Binds K fdI ["self", "rows"] [] := FI.bindsN fun _ _ _ _ _ _ us hl => match us, hl with | [_, _], _ => rfl
  obtain ⟨fJ, fdJ, FJ, MKG, GJ⟩ := L.madeG
  have bJ : Binds K fdJ ["self", "river", "rows"] [] := FJ.bindsN fun _ _ _ _ _ _ us hl => match us, hl with | [_, _, _], _ => rfl
  obtain ⟨fD, fdD, FD, MKD, GD⟩ := L.madeD.ex
  obtain ⟨ds, hds, bD⟩ := binds_dinit FD
  obtain ⟨fE, fdE, FE, Mcalls, Gcalls⟩ := L.calls
  have bcalls : Binds K fdE ["self"] [] := FE.bindsN fun _ _ _ _ _ _ us hl => match us, hl with | [_], _ => rfl
  obtain ⟨fW, fdW, FW, Mwaters, Gwaters⟩ := L.waters
  have bwaters : Binds K fdW ["self"] [] := FW.bindsN fun _ _ _ _ _ _ us hl => match us, hl with | [_], _ => rfl
  obtain ⟨fQ, fdQ, FQ, hsQ, hfQ, GQ⟩ := L.eq
  have bQ : Binds K fdQ ["self", "other"] [] := FQ.bindsN fun _ _ _ _ _ _ us hl => match us, hl with | [_, _], _ => rfl
  have nfD := L.nfD
  have ID := L.ID
  have kt := L.kt
  clear L
  refine F.ok scLaw (fun vs H Q E h => ?_) (fun cdv A outer s H vs Q X0 hr h => ?_)
  · obtain ⟨a, ns, rfl, _⟩ := h
    rfl
  · obtain ⟨a, is, rfl, hS, his, kk⟩ := h
    have hu := hu_of hr
    have hu64 := hr.units
    have hul := Nat.lt_of_le_of_lt (Nat.le_add_right _ 64) hu64
    have hr_law_read : Room 8 _ := hr
    have hr_law_bag : Room 1 _ := hr.mono (by decide)
    have hr_law_river : Room 4 _ := hr.mono (by decide)
    have hr_law_rights : Room 4 _ := hr.mono (by decide)
    have hr_law_size : Room 2 _ := hr.mono (by decide)
    have hr_law_take : Room 1 _ := hr.mono (by decide)
    have hr_law_of : Room 2 _ := hr.mono (by decide)
    have hr_law_mixed : Room 2 _ := hr.mono (by decide)
    have hr_law_amounts : Room 3 _ := hr.mono (by decide)
    have hr_law_lines : Room 1 _ := hr.mono (by decide)
    have hr_law_wrong : Room 4 _ := hr.mono (by decide)
    have hrwrite_day : Room 2 _ := hr.mono (by decide)
    have hrI : Room 5 _ := hr.mono (by decide)
    have hrJ : Room 6 _ := hr.mono (by decide)
    have hrD : Room 6 _ := hr.mono (by decide)
    have hrcalls : Room 1 _ := hr.mono (by decide)
    have hrQ : Room 3 _ := hr.mono (by decide)
    refine ⟨_, PSs.nox (pss_cons
      (ps_set (i := 1) scLaw.nd rfl (Or.inr rfl) (pe_call G_law_bag hr_law_bag (by rfl) g_law_bag F_law_bag.kp b_law_bag .nil pass0 (pa_cons (pv 0) (pa_cons pe_int (pa_cons pe_int pa_nil)))))
      (pss_cons
      (ps_set (i := 2) scLaw.nd rfl (Or.inl rfl) (pe_call G_law_river hr_law_river (by rfl) g_law_river F_law_river.kp b_law_river .nil pass0 (pa_cons (pv 1) (pa_cons (pe_callB (call_max2 rfl) (by rfl) B.max (by decide +kernel) (pa_cons pe_int (pa_cons (pe_call G_law_size hr_law_size (by rfl) g_law_size F_law_size.kp b_law_size .nil pass0 (pa_cons (pv 1) (pa_cons pe_int pa_nil))) pa_nil))) pa_nil))))
      (pss_cons
      (ps_set (i := 3) scLaw.nd rfl (Or.inl rfl) (pe_call G_law_rights hr_law_rights (by rfl) g_law_rights F_law_rights.kp b_law_rights .nil pass0 (pa_cons (pv 1) (pa_cons (pv 2) (pa_cons (pe_call G_law_size hr_law_size (by rfl) g_law_size F_law_size.kp b_law_size .nil pass0 (pa_cons (pv 1) (pa_cons pe_int pa_nil))) pa_nil)))))
      (pss_cons
      (ps_par (i := 4) (j := 5) (by rfl) scLaw.nd rfl rfl (by decide) rfl rfl (pa_cons (pe_lc (own := [("_law_row", 23)]) (g := gName 23) (tt := tYes) (by rfl) scLaw.nd (pi_list (pv 2)) (blkOk_by (own := [("_law_row", 23)]) (N := scLaw_N) (sc := defScope scLaw_S) (by decide +kernel)) (fun _ _ _ _ _ => (pg_name (i := 23) scLaw.nd rfl (Or.inl rfl))) (fun _ _ _ _ _ => pts_nil) (fun _ _ _ _ _ => (pe_ix (ixTK (K := K)) (pv 23) pe_int (fun _ _ => rfl)))) (pa_cons (pe_lc (own := [("_law_row", 23)]) (g := gName 23) (tt := tYes) (by rfl) scLaw.nd (pi_list (pv 3)) (blkOk_by (own := [("_law_row", 23)]) (N := scLaw_N) (sc := defScope scLaw_S) (by decide +kernel)) (fun _ _ _ _ _ => (pg_name (i := 23) scLaw.nd rfl (Or.inl rfl))) (fun _ _ _ _ _ => pts_nil) (fun _ _ _ _ _ => (pe_ix (ixTK (K := K)) (pv 23) pe_int (fun _ _ => rfl)))) pa_nil)) (by rfl))
      (pss_cons
      (ps_if (PW.pt (pw_and (pt_cmpR (op_neD hu64) (pv 5) (pe_lst pa_nil) (nomark _)) (pw_and (pt_cmpR op_eq (pe_call G_law_take hr_law_take (by rfl) g_law_take F_law_take.kp b_law_take .nil pass0 (pa_cons (pv 1) (pa_cons pe_int pa_nil))) pe_int (nomark _)) (pw_and1 (pt_cmpR (notInK (K := K)) (pe_ix (ixLK (K := K)) (pv 4) pe_int (fun _ _ => rfl)) (pv 5) (by rfl)))))) (pss_cons
      (ps_asg (pe_ix (ixLK (K := K)) (pv 4) pe_int (fun _ _ => rfl)) (pg_sub (pv 5) pe_int set_list))
      (pss_one
      (ps_asg (pe_tup (pa_cons (pe_ix (ixLK (K := K)) (pv 4) pe_int (fun _ _ => rfl)) (pa_cons (pe_ix (ixTK (K := K)) (pe_ix (ixLK (K := K)) (pv 3) pe_int (fun _ _ => rfl)) pe_int (fun _ _ => rfl)) (pa_cons (pe_ix (ixTK (K := K)) (pe_ix (ixLK (K := K)) (pv 3) pe_int (fun _ _ => rfl)) pe_int (fun _ _ => rfl)) pa_nil)))) (pg_sub (pv 3) pe_int set_list)))) pss_nil)
      (pss_cons
      (ps_asg (pe_tup (pa_cons (pe_call G_law_amounts hr_law_amounts (by rfl) g_law_amounts F_law_amounts.kp b_law_amounts .nil pass0 (pa_cons (pv 1) (pa_cons (pv 5) pa_nil))) (pa_cons (pe_call G_law_amounts hr_law_amounts (by rfl) g_law_amounts F_law_amounts.kp b_law_amounts .nil pass0 (pa_cons (pv 1) (pa_cons (pv 4) pa_nil))) pa_nil))) (tgK (K := K) (n := 2) (by rfl) (pgs_cons (pg_name (i := 6) scLaw.nd rfl (Or.inr rfl)) (pgs_cons (pg_name (i := 7) scLaw.nd rfl (Or.inr rfl)) pgs_nil))))
      (pss_cons
      (ps_set (i := 8) scLaw.nd rfl (Or.inr rfl) (pe_callTy (call_dictP rfl) (by rfl) B.dict (by decide +kernel) (pa_cons (pe_lc (own := [("_law_name", 24)]) (g := gName 24) (tt := tYes) (by rfl) scLaw.nd (pi_list (pv 5)) (blkOk_by (own := [("_law_name", 24)]) (N := scLaw_N) (sc := defScope scLaw_S) (by decide +kernel)) (fun _ _ _ _ _ => (pg_name (i := 24) scLaw.nd rfl (Or.inl rfl))) (fun _ _ _ _ _ => pts_nil) (fun _ _ _ _ _ => (pe_tup (pa_cons (pv 24) (pa_cons (pe_dget hu (pv 6) (pv 24) (fun _ _ => rfl)) pa_nil))))) pa_nil)))
      (pss_cons
      (ps_set (i := 9) scLaw.nd rfl (Or.inr rfl) (pe_callTy (call_dictP rfl) (by rfl) B.dict (by decide +kernel) (pa_cons (pe_lc (own := [("_law_weir", 25)]) (g := gName 25) (tt := tYes) (by rfl) scLaw.nd (pi_list (pv 4)) (blkOk_by (own := [("_law_weir", 25)]) (N := scLaw_N) (sc := defScope scLaw_S) (by decide +kernel)) (fun _ _ _ _ _ => (pg_name (i := 25) scLaw.nd rfl (Or.inl rfl))) (fun _ _ _ _ _ => pts_nil) (fun _ _ _ _ _ => (pe_tup (pa_cons (pv 25) (pa_cons (pe_dget hu (pv 7) (pv 25) (fun _ _ => rfl)) pa_nil))))) pa_nil)))
      (pss_cons
      (ps_set (i := 10) scLaw.nd rfl (Or.inl rfl) (pe_make MKG GJ hrJ (by rfl) TG.mgC bJ .nil pass0 (pa_cons (pe_make MK GI hrI (by rfl) T.mgC bI .nil pass0 (pa_cons (pe_callTy (listK (K := K)) (by rfl) B.list (by decide +kernel) (pa_cons (pv 2) pa_nil)) pa_nil)) (pa_cons (pe_callTy (listK (K := K)) (by rfl) B.list (by decide +kernel) (pa_cons (pv 3) pa_nil)) pa_nil))))
      (pss_cons
      (ps_par (i := 11) (j := 12) (by rfl) scLaw.nd rfl rfl (by decide) rfl rfl (pa_cons (pe_make MKD GD hrD (by rfl) TD.mgC bD hds pass0 (pa_cons (pv 10) (pa_cons (pv 8) (pa_cons (pv 9) pa_nil)))) (pa_cons (pe_call G_law_lines hr_law_lines (by rfl) g_law_lines F_law_lines.kp b_law_lines .nil pass0 (pa_cons (pv 8) (pa_cons (pv 9) pa_nil))) pa_nil)) (by rfl))
      (pss_cons
      (ps_set (i := 13) scLaw.nd rfl (Or.inl rfl) (pe_call Gwrite_day hrwrite_day (by rfl) gwrite_day Fwrite_day.kp bwrite_day .nil pass0 (pa_cons (pv 11) pa_nil)))
      (pss_cons
      (ps_if (PW.pt (pw_or (pt_not (pt_val (pe_callB call_isi (by rfl) B.isinstance (by decide +kernel) (pa_cons (pv 13) (pa_cons (pe_bltn (v := .ty "str") (by rfl) B.str (by decide +kernel) rfl) pa_nil))))) (pw_or1 (pt_cmpR op_ne (pv 13) (pe_join pe_str (pv 12)) (nomark _))))) (pss_one
      (ps_ret pe_bl)) pss_nil)
      (pss_cons
      (ps_set (i := 14) scLaw.nd rfl (Or.inl rfl) (pe_call G_law_read hr_law_read (by rfl) g_law_read F_law_read.kp b_law_read .nil pass0 (pa_cons (pv 10) (pa_cons (pv 13) pa_nil))))
      (pss_cons
      (ps_if (PW.pt (pw_or (pt_val (pe_callB call_isi (by rfl) B.isinstance (by decide +kernel) (pa_cons (pv 14) (pa_cons (pe_bltn (v := .ty "tuple") (by rfl) B.tuple (by decide +kernel) rfl) pa_nil)))) (pw_or (pt_not (pt_cmpR (k0_eq_own GQ hrQ rfl hsQ hfQ bQ) (pv 14) (pv 11) (nomark _))) (pw_or (pt_cmpR (op_ne_dictA hul) (pe_meth0 (pv 14) TD.cl Mcalls Gcalls hrcalls bcalls .nil pass0) (pv 8) (nomark _)) (pw_or1 (pt_cmpR (op_ne_dictA hul) (pe_meth0 (pv 14) TD.cl Mwaters Gwaters hrcalls bwaters .nil pass0) (pv 9) (nomark _))))))) (pss_one
      (ps_ret pe_bl)) pss_nil)
      (pss_cons
      (ps_setLc (i := 15) (own := [("_law_line", 26)]) (g := gName 26)  (by rfl) scLaw.nd rfl rfl (sw_true rfl rfl rfl (by decide +kernel)) (pi_list (pe_call G_law_mixed hr_law_mixed (by rfl) g_law_mixed F_law_mixed.kp b_law_mixed .nil pass0 (pa_cons (pv 1) (pa_cons (pv 12) pa_nil)))) (blkOk_by (own := [("_law_line", 26)]) (N := scLaw_N) (sc := defScope scLaw_S) (by decide +kernel)) (fun _ _ _ _ _ => (pg_name (i := 26) scLaw.nd rfl (Or.inl rfl))) (fun _ _ _ _ _ => (pts_one (PW.pt (pw_or (pt_cmpR op_ne (pe_slice sl_str (pv 26) (po_some (pe_un un_neg pe_int)) po_none) pe_str (nomark _)) (pw_or1 (pt_cmpR op_eq (pe_call G_law_take hr_law_take (by rfl) g_law_take F_law_take.kp b_law_take .nil pass0 (pa_cons (pv 1) (pa_cons pe_int pa_nil))) pe_int (nomark _))))))) (fun _ _ _ _ _ => (pv 26)))
      (pss_cons
      (ps_if (pt_cmpR (op_neD hu64) (pv 15) (pe_lst pa_nil) (nomark _)) (pss_cons
      (ps_set (i := 14) scLaw.nd rfl (Or.inl rfl) (pe_call G_law_read hr_law_read (by rfl) g_law_read F_law_read.kp b_law_read .nil pass0 (pa_cons (pv 10) (pa_cons (pe_join pe_str (pv 15)) pa_nil))))
      (pss_one
      (ps_if (PW.pt (pw_or (pt_val (pe_callB call_isi (by rfl) B.isinstance (by decide +kernel) (pa_cons (pv 14) (pa_cons (pe_bltn (v := .ty "tuple") (by rfl) B.tuple (by decide +kernel) rfl) pa_nil)))) (pw_or (pt_cmpR (op_ne_dictA hul) (pe_meth0 (pv 14) TD.cl Mcalls Gcalls hrcalls bcalls .nil pass0) (pv 8) (nomark _)) (pw_or1 (pt_cmpR (op_ne_dictA hul) (pe_meth0 (pv 14) TD.cl Mwaters Gwaters hrcalls bwaters .nil pass0) (pv 9) (nomark _)))))) (pss_one
      (ps_ret pe_bl)) pss_nil))) pss_nil)
      (pss_cons
      (ps_set (i := 16) scLaw.nd rfl (Or.inr rfl) (pe_lc (own := [("_law_line", 26)]) (g := gName 26)  (by rfl) scLaw.nd (pi_list (pe_call G_law_mixed hr_law_mixed (by rfl) g_law_mixed F_law_mixed.kp b_law_mixed .nil pass0 (pa_cons (pv 1) (pa_cons (pv 12) pa_nil)))) (blkOk_by (own := [("_law_line", 26)]) (N := scLaw_N) (sc := defScope scLaw_S) (by decide +kernel)) (fun _ _ _ _ _ => (pg_name (i := 26) scLaw.nd rfl (Or.inl rfl))) (fun _ _ _ _ _ => (pts_one (pt_cmpR op_gt (pe_call G_law_take hr_law_take (by rfl) g_law_take F_law_take.kp b_law_take .nil pass0 (pa_cons (pv 1) (pa_cons pe_int pa_nil))) pe_int (nomark _)))) (fun _ _ _ _ _ => (pv 26))))
      (pss_cons
      (ps_if (pt_cmpR (op_neD hu64) (pv 16) (pe_lst pa_nil) (nomark _)) (pss_cons
      (ps_set (i := 14) scLaw.nd rfl (Or.inl rfl) (pe_call G_law_read hr_law_read (by rfl) g_law_read F_law_read.kp b_law_read .nil pass0 (pa_cons (pv 10) (pa_cons (pe_join pe_str (pv 16)) pa_nil))))
      (pss_cons
      (ps_set (i := 17) scLaw.nd rfl (Or.inl rfl) (pe_callTy (call_dictP rfl) (by rfl) B.dict (by decide +kernel) (pa_cons (pe_lc (own := [("_law_name", 24)]) (g := gName 24) (tt := tYes) (by rfl) scLaw.nd (pi_list (pv 5)) (blkOk_by (own := [("_law_name", 24)]) (N := scLaw_N) (sc := defScope scLaw_S) (by decide +kernel)) (fun _ _ _ _ _ => (pg_name (i := 24) scLaw.nd rfl (Or.inl rfl))) (fun _ _ _ _ _ => pts_nil) (fun _ _ _ _ _ => (pe_tup (pa_cons (pv 24) (pa_cons (pe_ifExp (pt_cmpR (inK (K := K)) (pe_op op_add_str (pe_op op_add_str (pe_op op_add_str pe_str (pv 24)) pe_str) (pe_callTy call_str_int (by rfl) B.str (by decide +kernel) (pa_cons (pe_dget hu (pv 8) (pv 24) (fun _ _ => rfl)) pa_nil))) (pv 16) (by rfl)) (pe_dget hu (pv 8) (pv 24) (fun _ _ => rfl)) pe_int) pa_nil))))) pa_nil)))
      (pss_cons
      (ps_set (i := 18) scLaw.nd rfl (Or.inl rfl) (pe_callTy (call_dictP rfl) (by rfl) B.dict (by decide +kernel) (pa_cons (pe_lc (own := [("_law_weir", 25)]) (g := gName 25) (tt := tYes) (by rfl) scLaw.nd (pi_list (pv 4)) (blkOk_by (own := [("_law_weir", 25)]) (N := scLaw_N) (sc := defScope scLaw_S) (by decide +kernel)) (fun _ _ _ _ _ => (pg_name (i := 25) scLaw.nd rfl (Or.inl rfl))) (fun _ _ _ _ _ => pts_nil) (fun _ _ _ _ _ => (pe_tup (pa_cons (pv 25) (pa_cons (pe_ifExp (pt_cmpR (inK (K := K)) (pe_op op_add_str (pe_op op_add_str (pe_op op_add_str pe_str (pv 25)) pe_str) (pe_callTy call_str_int (by rfl) B.str (by decide +kernel) (pa_cons (pe_dget hu (pv 9) (pv 25) (fun _ _ => rfl)) pa_nil))) (pv 16) (by rfl)) (pe_dget hu (pv 9) (pv 25) (fun _ _ => rfl)) pe_int) pa_nil))))) pa_nil)))
      (pss_one
      (ps_if (PW.pt (pw_or (pt_val (pe_callB call_isi (by rfl) B.isinstance (by decide +kernel) (pa_cons (pv 14) (pa_cons (pe_bltn (v := .ty "tuple") (by rfl) B.tuple (by decide +kernel) rfl) pa_nil)))) (pw_or (pt_cmpR (op_ne_dictA hul) (pe_meth0 (pv 14) TD.cl Mcalls Gcalls hrcalls bcalls .nil pass0) (pv 17) (nomark _)) (pw_or1 (pt_cmpR (op_ne_dictA hul) (pe_meth0 (pv 14) TD.cl Mwaters Gwaters hrcalls bwaters .nil pass0) (pv 18) (nomark _)))))) (pss_one
      (ps_ret pe_bl)) pss_nil))))) pss_nil)
      (pss_cons
      (ps_set (i := 19) scLaw.nd rfl (Or.inl rfl) (pe_call G_law_wrong hr_law_wrong (by rfl) g_law_wrong F_law_wrong.kp b_law_wrong .nil pass0 (pa_cons (pv 1) (pa_cons (pv 16) (pa_cons (pv 5) (pa_cons (pv 4) pa_nil))))))
      (pss_cons
      (ps_set (i := 20) scLaw.nd rfl (Or.inl rfl) (pe_op op_cat (pe_op op_cat (pv 16) (pe_lst (pa_cons (pv 19) pa_nil))) (pe_call G_law_of hr_law_of (by rfl) g_law_of F_law_of.kp b_law_of .nil pass0 (pa_cons (pv 1) (pa_cons (pe_lst (pa_cons (pe_lst pa_nil) (pa_cons (pe_lst (pa_cons pe_str pa_nil)) (pa_cons (pe_lst (pa_cons pe_str pa_nil)) (pa_cons (pv 16) pa_nil))))) pa_nil)))))
      (pss_cons
      (ps_if (pt_cmpR (op_neD hu64) (pe_call G_law_read hr_law_read (by rfl) g_law_read F_law_read.kp b_law_read .nil pass0 (pa_cons (pv 10) (pa_cons (pe_join pe_str (pv 20)) pa_nil))) (pe_tup (pa_cons pe_str (pa_cons (pe_callB (lenK (K := K)) (by rfl) B.len PySem.boot_len (pa_cons (pv 16) pa_nil)) pa_nil))) (nomark _)) (pss_one
      (ps_ret pe_bl)) pss_nil)
      (pss_cons
      (ps_set (i := 21) scLaw.nd rfl (Or.inl rfl) (pe_call G_law_take hr_law_take (by rfl) g_law_take F_law_take.kp b_law_take .nil pass0 (pa_cons (pv 1) (pa_cons (pe_op op_add (pe_callB (lenK (K := K)) (by rfl) B.len PySem.boot_len (pa_cons (pv 16) pa_nil)) pe_int) pa_nil))))
      (pss_cons
      (ps_set (i := 22) scLaw.nd rfl (Or.inl rfl) (pe_op op_cat (pe_op op_cat (pe_op op_cat (pe_slice sl_list (pv 16) po_none (po_some (pv 21))) (pe_lst (pa_cons (pe_call G_law_wrong hr_law_wrong (by rfl) g_law_wrong F_law_wrong.kp b_law_wrong .nil pass0 (pa_cons (pv 1) (pa_cons (pe_slice sl_list (pv 16) po_none (po_some (pv 21))) (pa_cons (pv 5) (pa_cons (pv 4) pa_nil))))) pa_nil))) (pe_slice sl_list (pv 16) (po_some (pv 21)) po_none)) (pe_lst (pa_cons pe_str pa_nil))))
      (pss_cons
      (ps_if (pt_cmpR (op_neD hu64) (pe_call G_law_read hr_law_read (by rfl) g_law_read F_law_read.kp b_law_read .nil pass0 (pa_cons (pv 10) (pa_cons (pe_join pe_str (pv 22)) pa_nil))) (pe_tup (pa_cons pe_str (pa_cons (pv 21) pa_nil))) (nomark _)) (pss_one
      (ps_ret pe_bl)) pss_nil)
      (pss_one
      (ps_ret (pe_and (pe_cmpR (op_eqD hu64) (pe_call G_law_read hr_law_read (by rfl) g_law_read F_law_read.kp b_law_read .nil pass0 (pa_cons (pv 10) (pa_cons pe_str pa_nil))) (pe_tup (pa_cons pe_str (pa_cons pe_int pa_nil))) (nomark _)) (pe_one (pe_cmpR (op_eqD hu64) (pe_call G_law_read hr_law_read (by rfl) g_law_read F_law_read.kp b_law_read .nil pass0 (pa_cons (pv 10) (pa_cons (pe_op op_add_str (pv 13) pe_str) pa_nil))) (pe_tup (pa_cons pe_str (pa_cons (pe_callB (lenK (K := K)) (by rfl) B.len PySem.boot_len (pa_cons (pv 12) pa_nil)) pa_nil))) (nomark _)))))))))))))))))))))))))))))), ?_⟩
    have z40 : 900000 ≤ sizeLine := by rw [sizeLine_eq]; omega
    refine ⟨_, rfl, a, is, 0, 4327, rfl, hS, his, by decide, by decide, by decide, by decide, fun H1 p s1 np B1 => ?_⟩
    refine ⟨_, rfl, _, rfl, p, 40, rfl, B1, by decide, by decide, fun r1 H2 hr40 u2 B2 => ⟨1, r1, rfl, ?_⟩⟩
    obtain ⟨m, em, m1, m40⟩ : ∃ m : Nat, (if (r1 : Int) > 1 then (r1 : Int) else 1) = (m : Int) ∧ 1 ≤ m ∧ m ≤ 40 := ⟨if r1 > 1 then r1 else 1, by split <;> split <;> omega, by split <;> omega, by split <;> omega⟩
    refine ⟨p, m, congrArg (fun z => [V.ref p, V.int z]) em, B2, m1, by omega, fun H3 l AR u3 B3 nl nlp hR hPre hlen => ?_⟩
    have hG : GoodRows (rowsOf AR) := hPre.good (by omega)
    refine ⟨_, rfl, _, rfl, _, rfl, p, 40, rfl, B3, by decide, by decide, fun r2 H4 h40 u4 B4 => ⟨p, l, r2, AR, rfl, B4, nlp, hR.upto B3 nlp u4, hG, by omega, fun H5 z BR u5 B5 nz nzp hBR hPre2 hlen2 => ?_⟩⟩
    have hR5 := (hR.upto B3 nlp u4).upto B4 nlp u5
    have hRt : RtOk (rowsOf AR) (bOf BR) := ⟨hPre2.nd, hPre2.ok, hPre2.inn, hPre2.last, by rw [List.length_map]; omega⟩
    have hAl : AR.length ≤ 40 := by have := hG.most; rw [List.length_map] at this; exact this
    have hlz : l ≠ z := ne_of_none (hR.upto B3 nlp u4).lst nz
    refine ⟨_, rfl, l, rfl, ⟨_, .inl (.inl hR5.lst)⟩, fun D1 nD1 => ?_⟩
    refine lc_listO (K := K) (a := l) (xs := AR.map fun q => V.ref q.1) nD1 (fun i => ((namesOf AR).take i).map V.str) (by rw [List.take_zero]; rfl) (fun i hi => by rw [List.length_map, List.length_take, List.length_map, List.length_map]; exact small1000 (by omega)) (.inl (.inl hR5.lst)) ?_ ?_
    · intro i x HX Nx hx sX put skip
      have hi : i < AR.length := by
        have := (List.getElem?_eq_some_iff.mp hx).1
        rw [List.length_map] at this
        exact this
      have ex := row_at hx hi
      subst ex
      have en : (namesOf AR)[i]? = some AR[i].2.1 := by
        rw [List.getElem?_map, List.getElem?_map, List.getElem?_eq_getElem hi]
        rfl
      refine ⟨rfl, ?_⟩
      unfold tYes
      refine iteT ?_
      exact ⟨_, rfl, AR[i].1, _, _, _, rfl, rfl, .inl (.inl (sX _ _ (hR5.tup _ (List.getElem_mem hi)))), atI_nat (j := 0) rfl, put _ _ (.refl _) (take_map1 en)⟩
    intro H6 s6 hW6
    have hlnW : (AR.map fun q => V.ref q.1).length = (namesOf AR).length := by rw [List.length_map, List.length_map, List.length_map]
    rw [hlnW, List.take_length] at hW6
    have hR6 := hR5.same s6
    have hBR6 := hBR.same s6
    have B6 := bagS' B5 s6
    have nD1p : D1 ≠ p := bag_not B5 nD1
    have nD1z : D1 ≠ z := (ne_of_none hBR.lst nD1).symm
    refine ⟨_, rfl, z, rfl, ⟨_, .inl (.inl hBR6.lst)⟩, fun D2 nD2 => ?_⟩
    refine lc_listO (K := K) (a := z) (xs := BR.map fun q => V.ref q.1) nD2 (fun i => ((rnm (bOf BR)).take i).map V.str) (by rw [List.take_zero]; rfl) (fun i hi => by rw [List.length_map, List.length_take, List.length_map, List.length_map]; exact small1000 (by omega)) (.inl (.inl hBR6.lst)) ?_ ?_
    · intro i x HX Nx hx sX put skip
      have hi : i < BR.length := by
        have := (List.getElem?_eq_some_iff.mp hx).1
        rw [List.length_map] at this
        exact this
      have ex := brow_at hx hi
      subst ex
      refine ⟨rfl, ?_⟩
      unfold tYes
      refine iteT ?_
      exact ⟨_, rfl, BR[i].1, _, _, _, rfl, rfl, .inl (.inl (sX _ _ (hBR6.tup _ (List.getElem_mem hi)))), atI_nat (j := 0) rfl, put _ _ (.refl _) (take_map1 (brow_nm hi))⟩
    intro H7 s7 hN7
    have hlnN : (BR.map fun q => V.ref q.1).length = (rnm (bOf BR)).length := by rw [List.length_map, List.length_map, List.length_map]
    rw [hlnN, List.take_length] at hN7
    have hR7 := hR6.same s7
    have hBR7 := hBR6.same s7
    have B7 := bagS' B6 s7
    have hW7 := s7 _ _ hW6
    have nD2p : D2 ≠ p := bag_not B6 nD2
    have nD2z : D2 ≠ z := (ne_of_none hBR6.lst nD2).symm
    have nD12 : D1 ≠ D2 := ne_of_none hW6 nD2
    have nlD2 : l ≠ D2 := ne_of_none hR6.lst nD2
    clear s6 s7 hW6 nD1 nD2 hR6 hBR6 B6 hR5 hBR nz hlen2 hlen hPre2 u4 u5 B4 B5 hlnW hlnN
    refine ⟨_, _, rfl, ?_⟩
    refine split_if2 (R := fun (H' : Hp) (BR' : List (Addr × RRow)) => BagAt H' p ∧ RowsAt H' l AR ∧ BRows H' z BR' ∧ RtOk (rowsOf AR) (bOf BR') ∧ H' D1 = some (.lst ((namesOf AR).map V.str)) ∧ H' D2 = some (.lst ((rnm (bOf BR')).map V.str))) (C := ?C) ?use ?key
    case use =>
      intro key
      obtain ⟨BZ, eZ⟩ : ∃ BZ, BZ = BR := ⟨_, rfl⟩
      rw [← eZ] at hBR7 hRt hN7
      clear eZ
      have fx : ∀ H', Upto p H7 H' → BagAt H' p → BagAt H' p ∧ RowsAt H' l AR ∧ BRows H' z BZ ∧ RtOk (rowsOf AR) (bOf BZ) ∧ H' D1 = some (.lst ((namesOf AR).map V.str)) ∧ H' D2 = some (.lst ((rnm (bOf BZ)).map V.str)) := fun H' u B' =>
        ⟨B', hR7.upto B7 nlp u, ⟨u _ _ hBR7.lst nzp, fun q hq => u _ _ (hBR7.tup q hq) (bag_ne B7 (hBR7.tup q hq))⟩, hRt, u _ _ hW7 nD1p, u _ _ hN7 nD2p⟩
      refine ⟨_, rfl, by show 0 ≤ sizeLine; omega, fun D0 nD0 => ?_⟩
      have s0 := same_upd nD0 (o := .lst [])
      have B0 := bagS' B7 s0
      have hD0 : (upd H7 D0 (.lst [])) D0 = some (.lst []) := upd_same
      have F0 := fx _ (.of s0) B0
      generalize upd H7 D0 (.lst []) = H8 at s0 B0 hD0 F0
      have plN : ∀ y ∈ rnm (bOf BZ), Plain y := fun y hy => by
        obtain ⟨r, hr, rfl⟩ := List.mem_map.mp hy
        exact plain_low (hRt.ok r hr)
      refine ⟨.list ((rnm (bOf BZ)).map .str), .list [], .lst (.inl (.inl F0.2.2.2.2.2)) (dp_strs _), .lst (.inl (.inl hD0)) .nil, shaped_lst plN, by decide +kernel, _, rfl, ?_⟩
      rw [eqv_nil]
      by_cases hn : rnm (bOf BZ) = []
      · rw [decide_eq_true hn]
        refine iteF (iteF ?_)
        exact key H8 BZ F0
      rw [decide_eq_false hn]
      refine iteT ?_
      refine ⟨_, rfl, p, 3, rfl, B0, by decide, by decide, fun rr xx _ _ hxx => ?_⟩
      have B9 : BagAt (upd H8 p (.lst xx)) p := ⟨xx, upd_same, hxx⟩
      have F9 := fx _ ((Upto.of s0).trans Upto.at_) B9
      generalize upd H8 p (.lst xx) = H9 at B9 F9
      refine ⟨rfl, _, rfl, ite2 (fun _ => ?_) (fun _ => iteF (key H9 BZ F9))⟩
      obtain ⟨_, hR9, hBR9, _, hW9, hN9⟩ := F9
      obtain ⟨w0, Wt, eW⟩ : ∃ w0 Wt, namesOf AR = w0 :: Wt := by
        cases e : namesOf AR with
        | nil =>
          have h1 := hG.one
          rw [← List.length_map (f := (·.1)), show (rowsOf AR).map (·.1) = [] from e] at h1
          cases h1
        | cons w0 Wt => exact ⟨w0, Wt, rfl⟩
      have i0 : (List.map V.str (namesOf AR))[0]? = some (V.str w0) := by rw [eW]; rfl
      refine ⟨_, rfl, D1, _, 0, _, rfl, rfl, .inl (.inl hW9), atI_nat (j := 0) i0, _, rfl, D2, _, rfl, .inl (.inl (.inl hN9)), rfl, List.all_eq_true.mpr (fun v hv => by obtain ⟨y, _, rfl⟩ := List.mem_map.mp hv; rfl), _, rfl, ite2 (fun hc => ?_) (fun _ => key H9 BZ ⟨B9, hR9, hBR9, hRt, hW9, hN9⟩)⟩
      have hc2 : (!inV (V.str w0) ((rnm (bOf BZ)).map V.str)) = true := hc
      rw [inV_str] at hc2
      have hwn : w0 ∉ rnm (bOf BZ) := by simpa using hc2
      obtain ⟨⟨b0, n0, k0⟩, Bt, rfl⟩ : ∃ b0 Bt, BZ = b0 :: Bt := by
        cases BZ with
        | nil => exact absurd rfl hn
        | cons b0 Bt => exact ⟨b0, Bt, rfl⟩
      have hx0 : ixN (List.map V.str (rnm (bOf ((b0, n0, k0) :: Bt)))).length 0 = some 0 := by
        unfold ixN
        rw [if_pos (by decide), if_pos (by rw [List.length_map, List.length_map, List.length_map, List.length_cons]; omega)]
        rfl
      have hx1 : ixN (List.map (fun q : Addr × RRow => V.ref q.1) ((b0, n0, k0) :: Bt)).length 0 = some 0 := by
        unfold ixN
        rw [if_pos (by decide), if_pos (by rw [List.length_map, List.length_cons]; omega)]
        rfl
      refine ⟨_, rfl, D1, _, 0, _, rfl, rfl, .inl (.inl hW9), atI_nat (j := 0) i0, _, rfl, D2, _, 0, 0, rfl, rfl, hN9, hx0, ?_⟩
      have hNA : (upd H9 D2 (.lst ((List.map V.str (rnm (bOf ((b0, n0, k0) :: Bt)))).set 0 (V.str w0)))) D2 = some (.lst ((w0 :: rnm (bOf Bt)).map V.str)) := upd_same
      have uA : Upto D2 H9 (upd H9 D2 (.lst ((List.map V.str (rnm (bOf ((b0, n0, k0) :: Bt)))).set 0 (V.str w0)))) := Upto.at_
      generalize upd H9 D2 (.lst ((List.map V.str (rnm (bOf ((b0, n0, k0) :: Bt)))).set 0 (V.str w0))) = HA at hNA uA
      have hWA := uA _ _ hW9 nD12
      have hRA : RowsAt HA l AR := ⟨uA _ _ hR9.lst nlD2, fun q hq => uA _ _ (hR9.tup q hq) (ne_of (hR9.tup q hq) hN9 (fun z => by cases z))⟩
      have hBA : BRows HA z ((b0, n0, k0) :: Bt) := ⟨uA _ _ hBR9.lst nD2z.symm, fun q hq => uA _ _ (hBR9.tup q hq) (ne_of (hBR9.tup q hq) hN9 (fun z => by cases z))⟩
      have BA : BagAt HA p := by
        obtain ⟨x, hx, hv⟩ := B9
        exact ⟨x, uA _ _ hx nD2p.symm, hv⟩
      have t0 := hBA.tup _ List.mem_cons_self
      refine ⟨_, rfl, D1, _, 0, _, rfl, rfl, .inl (.inl hWA), atI_nat (j := 0) i0, _, rfl, z, _, 0, _, rfl, rfl, .inl (.inl hBA.lst), atI_nat (j := 0) rfl, b0, _, 1, _, rfl, rfl, .inl (.inl t0), atI_nat (j := 1) rfl, _, rfl, z, _, 0, _, rfl, rfl, .inl (.inl hBA.lst), atI_nat (j := 0) rfl, b0, _, 2, _, rfl, rfl, .inl (.inl t0), atI_nat (j := 2) rfl, by show 3 ≤ sizeLine; omega, fun t nt => ?_⟩
      have st := same_upd nt (o := .tup [V.str w0, V.str k0.1, V.str k0.2])
      have htt : (upd HA t (.tup [V.str w0, V.str k0.1, V.str k0.2])) t = some (.tup [V.str w0, V.str k0.1, V.str k0.2]) := upd_same
      refine ⟨_, rfl, z, _, 0, 0, rfl, rfl, st _ _ hBA.lst, hx1, ?_⟩
      generalize upd HA t (.tup [V.str w0, V.str k0.1, V.str k0.2]) = HT at st htt
      have hzz : (upd HT z (.lst ((List.map (fun q : Addr × RRow => V.ref q.1) ((b0, n0, k0) :: Bt)).set 0 (V.ref t)))) z = some (.lst ((List.map (fun q : Addr × RRow => V.ref q.1) ((t, w0, k0) :: Bt)))) := upd_same
      have uz : Upto z HT (upd HT z (.lst ((List.map (fun q : Addr × RRow => V.ref q.1) ((b0, n0, k0) :: Bt)).set 0 (V.ref t)))) := Upto.at_
      have hzT := st _ _ hBA.lst
      refine key _ ((t, w0, k0) :: Bt) ⟨?_, ⟨uz _ _ (st _ _ hRA.lst) hlz, fun q hq => uz _ _ (st _ _ (hRA.tup q hq)) (ne_of (st _ _ (hRA.tup q hq)) hzT (fun z => by cases z))⟩, ⟨hzz, fun q hq => ?_⟩, ?_, uz _ _ (st _ _ hWA) nD1z, uz _ _ (st _ _ hNA) nD2z⟩
      · obtain ⟨x, hx, hv⟩ := BA
        exact ⟨x, uz _ _ (st _ _ hx) nzp.symm, hv⟩
      · rcases List.mem_cons.mp hq with rfl | hq
        · exact uz _ _ htt (ne_of htt hzT (fun z => by cases z))
        · have h1 := st _ _ (hBA.tup q (List.mem_cons_of_mem _ hq))
          exact uz _ _ h1 (ne_of h1 hzT (fun z => by cases z))
      · have hw0 : w0 ∈ namesOf AR := by rw [eW]; exact List.mem_cons_self
        have nd := hRt.nd
        refine ⟨?_, fun r hr => ?_, fun r hr => ?_, fun r hr => ?_, ?_⟩
        · show (w0 :: (bOf Bt).map (·.1)).Nodup
          have nd2 : (n0 :: (bOf Bt).map (·.1)).Nodup := nd
          rw [List.nodup_cons] at nd2 ⊢
          exact ⟨fun h => hwn (List.mem_cons_of_mem _ h), nd2.2⟩
        · rcases List.mem_cons.mp hr with rfl | hr
          · exact hG.nm.ok _ hw0
          · exact hRt.ok r (List.mem_cons_of_mem _ hr)
        · rcases List.mem_cons.mp hr with rfl | hr
          · exact hRt.inn (n0, k0) List.mem_cons_self
          · exact hRt.inn r (List.mem_cons_of_mem _ hr)
        · rcases List.mem_cons.mp hr with rfl | hr
          · exact hRt.last (n0, k0) List.mem_cons_self
          · exact hRt.last r (List.mem_cons_of_mem _ hr)
        · have := hRt.most
          exact this
    case key =>
      clear hRt hBR7 hN7 hR7 hW7 B7
      clear BR
      rintro H7 BR ⟨B7, hR7, hBR7, hRt, hW7, hN7⟩
      have hBl : BR.length ≤ 40 := by have := hRt.most; rw [List.length_map] at this; exact this
      have ms_nd : (namesOf AR).Nodup := hG.nm.nd
      have ns_nd : (rnm (bOf BR)).Nodup := hRt.nd
      have lW : (namesOf AR).length ≤ 40 := by rw [List.length_map, List.length_map]; exact hAl
      have lN : (rnm (bOf BR)).length ≤ 40 := by rw [List.length_map, List.length_map]; exact hBl
      have okN : ∀ n ∈ rnm (bOf BR), NameOk n := fun y hy => by
        obtain ⟨r, hr, rfl⟩ := List.mem_map.mp hy
        exact hRt.ok r hr
      have okW : ∀ n ∈ namesOf AR, NameOk n := hG.nm.ok
      have n8 : ∀ n ∈ rnm (bOf BR), n.length ≤ 8 := fun y hy => by rw [len_list]; exact (okN y hy).most
      have w8 : ∀ n ∈ namesOf AR, n.length ≤ 8 := fun y hy => by rw [len_list]; exact (okW y hy).most
      refine ⟨_, rfl, _, rfl, p, D2, rnm (bOf BR), rfl, B7, nD2p, hN7, ns_nd, by omega, fun H8 d1 zs1 f1 u8 B8 nd1 nd1p hd1 pz1 mf1 => ?_⟩
      refine ⟨_, rfl, _, rfl, p, D1, namesOf AR, rfl, B8, nD1p, u8 _ _ hW7 nD1p, ms_nd, by omega, fun H9 d2 zs2 f2 u9 B9 nd2 nd2p hd2 pz2 mf2 => ?_⟩
      have u79 := u8.trans u9
      have hd19 := u9 _ _ hd1 nd1p
      have hW9 := u79 _ _ hW7 nD1p
      have hN9 := u79 _ _ hN7 nD2p
      have hR9 := hR7.upto B7 nlp u79
      have hBR9 : BRows H9 z BR := ⟨u79 _ _ hBR7.lst nzp, fun q hq => u79 _ _ (hBR7.tup q hq) (bag_ne B7 (hBR7.tup q hq))⟩
      clear hBR7 hR7 hN7 hW7 B7 B8 hd1 u8 u9 u79 nd1 nd2
      refine ⟨by show 2 ≤ sizeLine; omega, fun tt ntt => ?_⟩
      have sA := same_upd ntt (o := .tup [V.ref d1, V.ref d2])
      have htA : (upd H9 tt (.tup [V.ref d1, V.ref d2])) tt = some (.tup [V.ref d1, V.ref d2]) := upd_same
      generalize upd H9 tt (.tup [V.ref d1, V.ref d2]) = HA at sA htA
      refine ⟨tt, _, rfl, .inl (.inl htA), rfl, _, _, rfl, _, _, rfl, rfl, ?_⟩
      have hNA := sA _ _ hN9
      refine ⟨_, rfl, D2, rfl, ⟨_, .inl (.inl hNA)⟩, fun E1 nE1 => ?_⟩
      refine lc_pairs (K := K) (j := 24) f1 nE1 hNA ns_nd (by omega) (fun _ => rfl) (fun y hy H' Q' s' k => ?_) (fun H' ps kvs s' hps hpair hm => ?_)
      · exact ⟨_, rfl, _, rfl, _, rfl, d1, _, rfl, .inl ⟨_, Sum.inr y, .inl (s' _ _ (sA _ _ hd19)), rfl, (kmap_at (f := fun y => .int (f1 y : Int)) (pz1.mem_iff.mpr hy)).symm⟩, by show 2 ≤ sizeLine; omega, k⟩
      refine ⟨E1, ps, kvs, rfl, .inl (.inl hps), hpair, fun cd ncd => ?_⟩
      rw [hm, am_fill]
      have sB := (sA.trans s').trans (same_upd ncd (o := .dK (amK (fillN f1 (rnm (bOf BR))) (rnm (bOf BR)))))
      have hcdB : (upd H' cd (.dK (amK (fillN f1 (rnm (bOf BR))) (rnm (bOf BR))))) cd = some (.dK (amK (fillN f1 (rnm (bOf BR))) (rnm (bOf BR)))) := upd_same
      show Ends.nx _ _ (upd H' cd (.dK (amK (fillN f1 (rnm (bOf BR))) (rnm (bOf BR)))))
      generalize upd H' cd (.dK (amK (fillN f1 (rnm (bOf BR))) (rnm (bOf BR)))) = HB at sB hcdB
      clear hps hpair hm ncd s' ps kvs nE1 E1 hNA sA H'
      have hWB := sB _ _ hW9
      refine ⟨_, rfl, D1, rfl, ⟨_, .inl (.inl hWB)⟩, fun E1 nE1 => ?_⟩
      refine lc_pairs (K := K) (j := 25) f2 nE1 hWB ms_nd (by omega) (fun _ => rfl) (fun y hy H' Q' s' k => ?_) (fun H' ps kvs s' hps hpair hm => ?_)
      · exact ⟨_, rfl, _, rfl, _, rfl, d2, _, rfl, .inl ⟨_, Sum.inr y, .inl (s' _ _ (sB _ _ hd2)), rfl, (kmap_at (f := fun y => .int (f2 y : Int)) (pz2.mem_iff.mpr hy)).symm⟩, by show 2 ≤ sizeLine; omega, k⟩
      refine ⟨E1, ps, kvs, rfl, .inl (.inl hps), hpair, fun wd nwd => ?_⟩
      rw [hm, am_fill]
      have sC := (sB.trans s').trans (same_upd nwd (o := .dK (amK (fillN f2 (namesOf AR)) (namesOf AR))))
      have sBC := s'.trans (same_upd nwd (o := .dK (amK (fillN f2 (namesOf AR)) (namesOf AR))))
      have hwdC : (upd H' wd (.dK (amK (fillN f2 (namesOf AR)) (namesOf AR)))) wd = some (.dK (amK (fillN f2 (namesOf AR)) (namesOf AR))) := upd_same
      show Ends.nx _ _ (upd H' wd (.dK (amK (fillN f2 (namesOf AR)) (namesOf AR))))
      generalize upd H' wd (.dK (amK (fillN f2 (namesOf AR)) (namesOf AR))) = HC at sC sBC hwdC
      have hcdC := sBC _ _ hcdB
      clear hps hpair hm nwd s' ps kvs nE1 E1 hWB sB sBC hcdB H' HB
      have mf := fill_most mf1 (rnm (bOf BR))
      have mh := fill_most mf2 (namesOf AR)
      have ff := fill_fill f1 (rnm (bOf BR))
      have fh := fill_fill f2 (namesOf AR)
      generalize fillN f1 (rnm (bOf BR)) = f0 at mf ff hcdC
      generalize fillN f2 (namesOf AR) = h0 at mh fh hwdC
      have hRC := hR9.same sC
      have hBRC := hBR9.same sC
      have BC := bagS' B9 sC
      have hWC := sC _ _ hW9
      have hNC := sC _ _ hN9
      clear hR9 hBR9 B9 hW9 hN9 sC hd2 hd19 mf1 mf2 pz1 pz2 htA ntt
      refine ⟨_, rfl, l, _, rfl, .inl (.inl (.inl hRC.lst)), fun l2 nl2 => ?_⟩
      intro q dx nq ndx hne
      have s1 := same_upd nl2 (o := .lst (AR.map fun q => V.ref q.1))
      have hl2 : (upd HC l2 (.lst (AR.map fun q => V.ref q.1))) l2 = some (.lst (AR.map fun q => V.ref q.1)) := upd_same
      generalize upd HC l2 (.lst (AR.map fun q => V.ref q.1)) = HD at s1 hl2 nq ndx
      have sx : Same HD (upd (upd HD dx (.own q)) q (.ins Cr dx [])) := fun b o hb => by
        rw [upd_ne (ne_of_none hb nq), upd_ne (ne_of_none hb ndx)]
        exact hb
      refine ⟨q, l2, dx, AR, rfl, upd_same, ⟨sx _ _ hl2, fun v hv => sx _ _ (s1 _ _ (hRC.tup v hv))⟩, hG, fun HE uE hriv => ⟨rfl, ?_⟩⟩
      have sE : Same HC HE := fun b o hb => uE b o (sx _ _ (s1 _ _ hb)) (ne_of_none (s1 _ _ hb) nq)
      clear s1 hl2 nq ndx sx uE nl2 hne l2 HD dx
      refine ⟨_, rfl, z, _, rfl, .inl (.inl (.inl (sE _ _ hBRC.lst))), fun l3 nl3 => ?_⟩
      intro g dg ng ndg hneg
      have s1 := same_upd nl3 (o := .lst (BR.map fun q => V.ref q.1))
      have hl3 : (upd HE l3 (.lst (BR.map fun q => V.ref q.1))) l3 = some (.lst (BR.map fun q => V.ref q.1)) := upd_same
      generalize upd HE l3 (.lst (BR.map fun q => V.ref q.1)) = HF at s1 hl3 ng ndg
      have sx : Same HF (upd (upd HF dg (.own g)) g (.ins Cg dg [])) := fun b o hb => by
        rw [upd_ne (ne_of_none hb ng), upd_ne (ne_of_none hb ndg)]
        exact hb
      refine ⟨g, q, l3, dg, AR, BR, rfl, upd_same, Same.riv (s1.trans sx) hriv, hG, ⟨sx _ _ hl3, fun v hv => sx _ _ (s1 _ _ (sE _ _ (hBRC.tup v hv)))⟩, hRt, fun HG uG hrig => ⟨rfl, ?_⟩⟩
      have sG : Same HC HG := fun b o hb => uG b o (sx _ _ (s1 _ _ (sE _ _ hb))) (ne_of_none (s1 _ _ (sE _ _ hb)) ng)
      have rigG : RigOk Cg Cr HG g q AR BR := ⟨hrig, hG, hRt⟩
      clear s1 hl3 ng ndg sx uG nl3 hneg l3 HF dg hriv sE hrig HE
      have hcdG := sG _ _ hcdC
      have hwdG := sG _ _ hwdC
      refine ⟨_, rfl, _, rfl, _, rfl, ?_⟩
      intro dy dd ndy ndd hned
      have sx : Same HG (upd (upd HG dd (.own dy)) dy (.ins Cd dd [])) := fun b o hb => by
        rw [upd_ne (ne_of_none hb ndy), upd_ne (ne_of_none hb ndd)]
        exact hb
      refine ⟨dy, g, q, cd, wd, dd, AR, BR, f0, h0, rnm (bOf BR), namesOf AR, rfl, upd_same, rigG.same sx, ⟨sx _ _ hcdG, ns_nd, fun _ h => h, mf⟩, ⟨sx _ _ hwdG, ms_nd, fun _ h => h, mh⟩, fun HI uI DI => ⟨rfl, ?_⟩⟩
      rw [ff, fh] at DI
      have sI : Same HG HI := fun b o hb => uI b o (sx _ _ hb) (ne_of_none hb ndy)
      have hcdI := sI _ _ hcdG
      have hwdI := sI _ _ hwdG
      have BI := bagS' BC (sG.trans sI)
      refine ⟨_, rfl, _, rfl, cd, wd, rnm (bOf BR), namesOf AR, f0, h0, rfl, hcdI, hwdI, by omega, by omega, n8, w8, mf, mh, fun HJ L sJ nL hL => ?_⟩
      refine ⟨_, _, rfl, ?_⟩
      refine ⟨_, rfl, dy, g, rnm (bOf BR), namesOf AR, f0, h0, rfl, DI.same sJ, by omega, by omega, n8, w8, mf, mh, fun H1' sK => ?_⟩
      have sall := ((sG.trans sI).trans sJ).trans sK
      have kd : Kd Cd Cg Cr H1' p D1 D2 cd wd g q dy L AR BR f0 h0 := ⟨bagS' BC sall, sall _ _ hWC, sall _ _ hNC, sall _ _ hcdC, sall _ _ hwdC, rigG.same ((sI.trans sJ).trans sK), (DI.same sJ).same sK, sK _ _ hL, nD1p, nD2p, bag_not BI nL⟩
      have Wd : DayW (rnm (bOf BR)) (namesOf AR) f0 h0 := ⟨ns_nd, ms_nd, okN, okW, mf, mh⟩
      clear sx sI hcdI hwdI BI ndy ndd hned uI DI sJ nL hL sK sall HJ HI HG rigG sG hcdG hwdG hRC hBRC BC hWC hNC hcdC hwdC ff fh dd HC HA H9 H8 H7 f1 f2 zs1 zs2
      have e1 : ("\n" : Str).length = 1 := by decide +kernel
      have hdl : (dayL (rnm (bOf BR)) (namesOf AR) f0 h0).length ≤ 80 := by
        rw [dayL_len]
        omega
      have wpos : 0 < (namesOf AR).length := by rw [List.length_map]; exact hG.one
      have dne : dayL (rnm (bOf BR)) (namesOf AR) f0 h0 ≠ [] := fun e => by
        have := congrArg List.length e
        rw [dayL_len, List.length_nil] at this
        omega
      have lenL : ∀ ls : List Str, (∀ l ∈ ls, (tl l).length ≤ 5200) → ls.length ≤ 200 → (ls.map fun x => x.length).sum + ls.length * ("\n" : Str).length ≤ 16777216 := fun ls h1 h2 => by
        have h3 := sum_len (m := 5200) (ls := ls) fun y hy => by rw [len_list]; exact h1 y hy
        rw [e1]
        have h4 : ls.length * 5200 ≤ 200 * 5200 := Nat.mul_le_mul_right _ h2
        omega
      have line52 : ∀ l ∈ dayL (rnm (bOf BR)) (namesOf AR) f0 h0, (tl l).length ≤ 5200 := fun y hy => by have := (Wd.line hy).2; omega
      show Ends.nx _ _ _
      refine fresh_nx fun σ1 eσ => ?_
      have eσ2 : σ1 = [some (.ref a), some (.ref p), some (.ref l), some (.ref z), some (.ref D1), some (.ref D2), some (.ref d1), some (.ref d2), some (.ref cd), some (.ref wd), some (.ref g), some (.ref dy), some (.ref L), some (.str (Txt.join "\n" (dayL (rnm (bOf BR)) (namesOf AR) f0 h0))), none, none, none, none, none, none, none, none, none, none, none, none, none] := eσ.trans rfl
      clear eσ
      subst eσ2
      refine ⟨_, rfl, _, _, .type "str", .type "str", true, rfl, .ty _, .base (.str _), kit_ty (by decide +kernel), _, rfl, iteF ?_⟩
      refine ⟨_, rfl, ⟨_, rfl⟩, _, rfl, "\n", L, _, rfl, rfl, .inl (.inl (.inl kd.fL)), lenL _ line52 (by omega), rfl, _, rfl, ?_⟩
      refine ite2 (fun hc => absurd hc (by simp)) (fun _ => ?_)
      refine ⟨_, rfl, _, rfl, g, q, AR, BR, _, rfl, kd.rig, rd_lns Wd dne (fun _ h => h) (by omega), rd_no Wd Wd.nodup (fun _ h => h), fun _ H2' p1 s1 DF => ?_⟩
      have eC1 : ∀ y ∈ rnm (bOf BR), fP (addL "call" (dayL (rnm (bOf BR)) (namesOf AR) f0 h0)) y = f0 y := fun y hy => by
        rw [Wd.calls Wd.nodup (fun _ h => h) hy, if_pos (dayL_mem.mpr (.inl ⟨y, hy, rfl⟩))]
      have eW1 : ∀ y ∈ namesOf AR, fP (addL "water" (dayL (rnm (bOf BR)) (namesOf AR) f0 h0)) y = h0 y := fun y hy => by
        rw [Wd.waters Wd.nodup (fun _ h => h) hy, if_pos (dayL_mem.mpr (.inr ⟨y, hy, rfl⟩))]
      have kd2 := kd.same s1
      obtain ⟨dxF, dcF, dwF, j1, j2, j3⟩ := id DF.ex
      obtain ⟨dxG, dcG, dwG, i1, i2, i3⟩ := id kd2.day.ex
      refine ⟨_, rfl, _, _, .ref Cd, .type "tuple", false, rfl, .ty _, .base (.ins j1 TD.cl ID.ha ID.hn ID.htk ID.hm), kt, _, rfl, iteF ?_⟩
      refine ⟨_, rfl, _, rfl, p1, dxF, _, true, .ref Cd, rfl, j1, ⟨dy, g, q, AR, BR, _, _, f0, h0, rfl, DF, kd2.day, kd2.rig, eC1, eW1, rfl⟩, .base (.ins i1 TD.cl ID.ha ID.hn ID.htk ID.hm), nfD, _, rfl, ?_⟩
      refine ite2 (fun hc => absurd hc (by decide)) (fun _ => ?_)
      refine chk rfl rfl rfl DF kd2.fc kd2.fw eC1 eW1 fun H3' s3 => ?_
      refine iteF ?_
      have kd3 := kd2.same s3
      clear j1 j2 j3 i1 i2 i3 dxF dcF dwF dxG dcG dwG DF s1 s3 kd kd2 eC1 eW1
      -- lines of 0 left out at times
      refine ⟨_, rfl, _, rfl, p, L, _, rfl, kd3.fB, kd3.nL, .inl (.inl kd3.fL), by rw [List.length_map]; omega, fun H4 M zsV u4 B4 nM nMp hM pm => ?_⟩
      obtain ⟨zs, rfl, pz⟩ := perm_strs pm
      have kd4 := kd3.upto u4 B4
      refine ⟨M, rfl, ⟨_, .inl (.inl hM)⟩, fun D5 nD5 => ?_⟩
      have nD5p : D5 ≠ p := bag_not B4 nD5
      refine lc_keep (K := K) (j := 26) (p := p) (fun y => (tl y).drop ((tl y).length - 2) ≠ [32, 48]) B4 nD5 hM nMp (by rw [pz.length_eq]; omega) (fun _ => rfl) (fun _ => rfl) (fun y hy H9 Qb B9 kb => ?_) (fun H5 S u5 B5 hS hsub hkeep => ?_)
      · refine ⟨_, rfl, 2, rfl, -2, rfl, y, rfl, ?_, rfl, _, rfl, ite2 (fun _ => kb true H9 .refl B9 fun _ => rfl) fun hc => ?_⟩
        · have := line52 y (pz.mem_iff.mp hy)
          rw [len_list]
          show (tl y).length ≤ sizeLine
          omega
        · refine ⟨_, rfl, p, 2, rfl, B9, by decide, by decide, fun rr xx _ _ hxx => ⟨rfl, _, rfl, kb _ _ .at_ ⟨xx, upd_same, hxx⟩ fun hk => absurd ?_ hk⟩⟩
          have ec : cutS y (some (-2)) none = " 0" := by simpa using hc
          rw [← cut_two, ec]
          decide +kernel
      have kd5 := kd4.upto u5 B5
      have hSin : ∀ l ∈ S, l ∈ dayL (rnm (bOf BR)) (namesOf AR) f0 h0 := fun y hy => pz.mem_iff.mp (hsub.subset hy)
      have hSnd : S.Nodup := hsub.nodup (pz.nodup_iff.mpr Wd.nodup)
      have hSl : S.length ≤ 80 := by have := hsub.length_le; rw [pz.length_eq] at this; omega
      have plS : ∀ l ∈ S, Plain l := fun y hy => plain_line okN okW (Wd.lineOk (hSin y hy))
      have eC2 : ∀ y ∈ rnm (bOf BR), fP (addL "call" S) y = f0 y := fun y hy => by
        rw [Wd.calls hSnd hSin hy]
        by_cases h : f0 y = 0
        · rw [h]
          split <;> rfl
        · rw [if_pos (hkeep _ (pz.mem_iff.mpr (dayL_mem.mpr (.inl ⟨y, hy, rfl⟩))) (lineS_two h))]
      have eW2 : ∀ y ∈ namesOf AR, fP (addL "water" S) y = h0 y := fun y hy => by
        rw [Wd.waters hSnd hSin hy]
        by_cases h : h0 y = 0
        · rw [h]
          split <;> rfl
        · rw [if_pos (hkeep _ (pz.mem_iff.mpr (dayL_mem.mpr (.inr ⟨y, hy, rfl⟩))) (lineS_two h))]
      refine split_if2 (R := fun (σ' : L2.St) (H' : Hp) => Kd Cd Cg Cr H' p D1 D2 cd wd g q dy L AR BR f0 h0 ∧ ∃ v14, σ' = [some (.ref a), some (.ref p), some (.ref l), some (.ref z), some (.ref D1), some (.ref D2), some (.ref d1), some (.ref d2), some (.ref cd), some (.ref wd), some (.ref g), some (.ref dy), some (.ref L), some (.str (Txt.join "\n" (dayL (rnm (bOf BR)) (namesOf AR) f0 h0))), v14, some (.ref D5), none, none, none, none, none, none, none, none, none, none, none]) (C := ?C2) ?use2 ?key2
      case use2 =>
        intro key
        refine ⟨_, rfl, by show 0 ≤ sizeLine; omega, fun D0 nD0 => ?_⟩
        have s0 := same_upd nD0 (o := .lst [])
        have hS0 := s0 _ _ hS
        have hD0 : (upd H5 D0 (.lst [])) D0 = some (.lst []) := upd_same
        generalize upd H5 D0 (.lst []) = H6 at s0 hS0 hD0
        have kd6 := kd5.same s0
        refine ⟨.list (S.map .str), .list [], .lst (.inl (.inl hS0)) (dp_strs _), .lst (.inl (.inl hD0)) .nil, shaped_lst plS, by decide +kernel, _, rfl, ?_⟩
        rw [eqv_nil]
        by_cases hn : S = []
        · rw [decide_eq_true hn]
          refine iteF ?_
          show Ends.nx _ _ _
          refine fresh_nx fun σ1 eσ => ?_
          exact key σ1 H6 ⟨kd6, _, eσ.trans rfl⟩
        rw [decide_eq_false hn]
        refine iteT ?_
        refine ⟨_, rfl, ⟨_, rfl⟩, _, rfl, "\n", D5, S, rfl, rfl, .inl (.inl (.inl hS0)), lenL _ (fun y hy => line52 y (hSin y hy)) (by omega), g, q, AR, BR, _, rfl, kd6.rig, rd_lns Wd hn hSin (by omega), rd_no Wd hSnd hSin, fun _ H7 p2 s7 DF => ?_⟩
        have kd7 := kd6.same s7
        obtain ⟨dxF, dcF, dwF, j1, j2, j3⟩ := id DF.ex
        refine ⟨_, rfl, _, _, .ref Cd, .type "tuple", false, rfl, .ty _, .base (.ins j1 TD.cl ID.ha ID.hn ID.htk ID.hm), kt, _, rfl, iteF ?_⟩
        refine chk rfl rfl rfl DF kd7.fc kd7.fw eC2 eW2 fun H8 s8 => ?_
        refine iteF ?_
        exact key _ H8 ⟨kd7.same s8, _, rfl⟩
      case key2 =>
        clear hS hsub hkeep hSin hSnd hSl plS eC2 eW2 kd4 kd5 kd3 u4 u5 B4 B5 nM nMp hM pm pz nD5
        rintro σ1 H5 ⟨kd5, v14, rfl⟩
        -- some of the lines
        refine ⟨_, rfl, _, rfl, p, L, _, rfl, kd5.fB, kd5.nL, .inl (.inl kd5.fL), by rw [List.length_map]; omega, fun H6 M zsV u6 B6 nM nMp hM pm => ?_⟩
        obtain ⟨zs, rfl, pz⟩ := perm_strs pm
        have kd6 := kd5.upto u6 B6
        refine ⟨M, rfl, ⟨_, .inl (.inl hM)⟩, fun FW nFW => ?_⟩
        have nFWp : FW ≠ p := bag_not B6 nFW
        refine lc_keep (K := K) (j := 26) (p := p) (fun _ => False) B6 nFW hM nMp (by rw [pz.length_eq]; omega) (fun _ => rfl) (fun _ => rfl) (fun y hy H9 Qb B9 kb => ?_) (fun H7 F u7 B7 hF hsub _ => ?_)
        · exact ⟨_, rfl, p, 3, rfl, B9, by decide, by decide, fun rr xx _ _ hxx => ⟨_, _, rfl, rfl, _, rfl, kb _ _ .at_ ⟨xx, upd_same, hxx⟩ fun hk => hk.elim⟩⟩
        have kd7 := kd6.upto u7 B7
        have hFin : ∀ l ∈ F, l ∈ dayL (rnm (bOf BR)) (namesOf AR) f0 h0 := fun y hy => pz.mem_iff.mp (hsub.subset hy)
        have hFnd : F.Nodup := hsub.nodup (pz.nodup_iff.mpr Wd.nodup)
        have hFl : F.length ≤ 80 := by have := hsub.length_le; rw [pz.length_eq] at this; omega
        have plF : ∀ l ∈ F, Plain l := fun y hy => plain_line okN okW (Wd.lineOk (hFin y hy))
        clear hsub pz pm u6 u7 nM nMp hM B6 kd6 nFW kd5
        have e5 : ("call " : Str).length = 5 := by decide +kernel
        have e6 : ("water " : Str).length = 6 := by decide +kernel
        have e1s : (" " : Str).length = 1 := by decide +kernel
        refine split_if2 (R := fun (σ' : L2.St) (H' : Hp) => Kd Cd Cg Cr H' p D1 D2 cd wd g q dy L AR BR f0 h0 ∧ H' FW = some (.lst (F.map V.str)) ∧ ∃ v14 v17 v18, σ' = [some (.ref a), some (.ref p), some (.ref l), some (.ref z), some (.ref D1), some (.ref D2), some (.ref d1), some (.ref d2), some (.ref cd), some (.ref wd), some (.ref g), some (.ref dy), some (.ref L), some (.str (Txt.join "\n" (dayL (rnm (bOf BR)) (namesOf AR) f0 h0))), v14, some (.ref D5), some (.ref FW), v17, v18, none, none, none, none, none, none, none, none]) (C := ?C3) ?use3 ?key3
        case use3 =>
          intro key
          refine ⟨_, rfl, by show 0 ≤ sizeLine; omega, fun D0 nD0 => ?_⟩
          have s0 := same_upd nD0 (o := .lst [])
          have hF0 := s0 _ _ hF
          have hD0 : (upd H7 D0 (.lst [])) D0 = some (.lst []) := upd_same
          generalize upd H7 D0 (.lst []) = H8 at s0 hF0 hD0
          have kd8 := kd7.same s0
          refine ⟨.list (F.map .str), .list [], .lst (.inl (.inl hF0)) (dp_strs _), .lst (.inl (.inl hD0)) .nil, shaped_lst plF, by decide +kernel, _, rfl, ?_⟩
          rw [eqv_nil]
          by_cases hn : F = []
          · rw [decide_eq_true hn]
            refine iteF ?_
            show Ends.nx _ _ _
            refine fresh_nx fun σ1 eσ => ?_
            exact key σ1 H8 ⟨kd8, hF0, _, _, _, eσ.trans rfl⟩
          rw [decide_eq_false hn]
          refine iteT ?_
          refine ⟨_, rfl, ⟨_, rfl⟩, _, rfl, "\n", FW, F, rfl, rfl, .inl (.inl (.inl hF0)), lenL _ (fun y hy => line52 y (hFin y hy)) (by omega), g, q, AR, BR, _, rfl, kd8.rig, rd_lns Wd hn hFin (by omega), rd_no Wd hFnd hFin, fun _ H9 p2 s9 DF => ?_⟩
          have kd9 := kd8.same s9
          have hF9 := s9 _ _ hF0
          refine ⟨_, rfl, D2, rfl, ⟨_, .inl (.inl kd9.fN)⟩, fun E1 nE1 => ?_⟩
          refine lc_pairs (K := K) (j := 24) (fun y => if lineS "call " y (f0 y) ∈ F then f0 y else 0) nE1 kd9.fN ns_nd (by omega) (fun _ => rfl) (fun y hy H' Q' s' k => ?_) (fun H' ps kvs s' hps hpair hm => ?_)
          · have hy8 := n8 y hy
            have hn31 : (Str.ofString (toString ((f0 y : Nat) : Int))).length ≤ 31 := numS_len (mf y)
            have dg : DGet H' cd (.str y) (some (.int (f0 y : Int))) := .inl ⟨_, Sum.inr y, .inl (s' _ _ kd9.fc), rfl, (kmap_at (f := fun y => .int (f0 y : Int)) hy).symm⟩
            refine ⟨_, rfl, _, rfl, _, _, rfl, rfl, by omega, _, _, rfl, rfl, by simp only [len_cat]; omega, ?_⟩
            refine ⟨_, rfl, _, rfl, cd, _, rfl, dg, _, rfl, num_log (mf y), _, _, rfl, rfl, by simp only [len_cat]; omega, ?_⟩
            rw [lineS_add]
            refine ⟨_, rfl, FW, _, rfl, .inl (.inl (.inl (s' _ _ hF9))), rfl, all_str F, _, rfl, ?_⟩
            have ei : inV (V.str (lineS "call " y (f0 y))) (F.map V.str) = decide (lineS "call " y (f0 y) ∈ F) := inV_str _ _
            rw [if_neg Bool.false_ne_true, ei]
            by_cases hm : lineS "call " y (f0 y) ∈ F
            · rw [if_pos hm] at k
              rw [decide_eq_true hm]
              refine iteT ?_
              exact ⟨_, rfl, _, rfl, cd, _, rfl, dg, by show 2 ≤ sizeLine; omega, k⟩
            · rw [if_neg hm] at k
              rw [decide_eq_false hm]
              refine iteF ?_
              exact ⟨by show 2 ≤ sizeLine; omega, k⟩
          refine ⟨E1, ps, kvs, rfl, .inl (.inl hps), hpair, fun ad nad => ?_⟩
          rw [hm]
          have sB := s'.trans (same_upd nad (o := .dK (amK (fun y => if lineS "call " y (f0 y) ∈ F then f0 y else 0) (rnm (bOf BR)))))
          have had : (upd H' ad (.dK (amK (fun y => if lineS "call " y (f0 y) ∈ F then f0 y else 0) (rnm (bOf BR))))) ad = some (.dK (amK (fun y => if lineS "call " y (f0 y) ∈ F then f0 y else 0) (rnm (bOf BR)))) := upd_same
          show Ends.nx _ _ (upd H' ad (.dK (amK (fun y => if lineS "call " y (f0 y) ∈ F then f0 y else 0) (rnm (bOf BR)))))
          generalize upd H' ad (.dK (amK (fun y => if lineS "call " y (f0 y) ∈ F then f0 y else 0) (rnm (bOf BR)))) = HA at sB had
          clear hps hpair hm nad s' ps kvs nE1 E1 H'
          have kdA := kd9.same sB
          have DFA := DF.same sB
          have hFA := sB _ _ hF9
          refine ⟨_, rfl, D1, rfl, ⟨_, .inl (.inl kdA.fW)⟩, fun E1 nE1 => ?_⟩
          refine lc_pairs (K := K) (j := 25) (fun y => if lineS "water " y (h0 y) ∈ F then h0 y else 0) nE1 kdA.fW ms_nd (by omega) (fun _ => rfl) (fun y hy H' Q' s' k => ?_) (fun H' ps kvs s' hps hpair hm => ?_)
          · have hy8 := w8 y hy
            have hn31 : (Str.ofString (toString ((h0 y : Nat) : Int))).length ≤ 31 := numS_len (mh y)
            have dg : DGet H' wd (.str y) (some (.int (h0 y : Int))) := .inl ⟨_, Sum.inr y, .inl (s' _ _ kdA.fw), rfl, (kmap_at (f := fun y => .int (h0 y : Int)) hy).symm⟩
            refine ⟨_, rfl, _, rfl, _, _, rfl, rfl, by omega, _, _, rfl, rfl, by simp only [len_cat]; omega, ?_⟩
            refine ⟨_, rfl, _, rfl, wd, _, rfl, dg, _, rfl, num_log (mh y), _, _, rfl, rfl, by simp only [len_cat]; omega, ?_⟩
            rw [lineS_add]
            refine ⟨_, rfl, FW, _, rfl, .inl (.inl (.inl (s' _ _ hFA))), rfl, all_str F, _, rfl, ?_⟩
            have ei : inV (V.str (lineS "water " y (h0 y))) (F.map V.str) = decide (lineS "water " y (h0 y) ∈ F) := inV_str _ _
            rw [if_neg Bool.false_ne_true, ei]
            by_cases hm : lineS "water " y (h0 y) ∈ F
            · rw [if_pos hm] at k
              rw [decide_eq_true hm]
              refine iteT ?_
              exact ⟨_, rfl, _, rfl, wd, _, rfl, dg, by show 2 ≤ sizeLine; omega, k⟩
            · rw [if_neg hm] at k
              rw [decide_eq_false hm]
              refine iteF ?_
              exact ⟨by show 2 ≤ sizeLine; omega, k⟩
          refine ⟨E1, ps, kvs, rfl, .inl (.inl hps), hpair, fun hd nhd => ?_⟩
          rw [hm]
          have sC := s'.trans (same_upd nhd (o := .dK (amK (fun y => if lineS "water " y (h0 y) ∈ F then h0 y else 0) (namesOf AR))))
          have hhd : (upd H' hd (.dK (amK (fun y => if lineS "water " y (h0 y) ∈ F then h0 y else 0) (namesOf AR)))) hd = some (.dK (amK (fun y => if lineS "water " y (h0 y) ∈ F then h0 y else 0) (namesOf AR))) := upd_same
          show Ends.nx _ _ (upd H' hd (.dK (amK (fun y => if lineS "water " y (h0 y) ∈ F then h0 y else 0) (namesOf AR))))
          generalize upd H' hd (.dK (amK (fun y => if lineS "water " y (h0 y) ∈ F then h0 y else 0) (namesOf AR))) = HB at sC hhd
          clear hps hpair hm nhd s' ps kvs nE1 E1 H'
          have kdB := kdA.same sC
          have DFB := DFA.same sC
          have hFB := sC _ _ hFA
          obtain ⟨dxF, dcF, dwF, j1, j2, j3⟩ := id DFB.ex
          refine ⟨_, rfl, _, _, .ref Cd, .type "tuple", false, rfl, .ty _, .base (.ins j1 TD.cl ID.ha ID.hn ID.htk ID.hm), kt, _, rfl, iteF ?_⟩
          refine chk rfl rfl rfl DFB (sC _ _ had) hhd (fun y hy => Wd.calls hFnd hFin hy) (fun y hy => Wd.waters hFnd hFin hy) fun HE sE => ?_
          refine iteF ?_
          exact key _ HE ⟨kdB.same sE, sE _ _ hFB, _, _, _, rfl⟩
        case key3 =>
          clear hF kd7 B7
          rintro σ1 H5 ⟨kd5, hF, v14, v17, v18, rfl⟩
          have hms : namesOf AR ≠ [] := fun e => by rw [e] at wpos; cases wpos
          have nsea : ∀ n ∈ namesOf AR, n ≠ "sea" := fun y hy e => hG.nm.sea y hy e
          refine ⟨_, rfl, _, rfl, _, rfl, _, rfl, p, FW, D2, D1, F, rnm (bOf BR), namesOf AR, rfl, kd5.fB, nFWp, kd5.nN, kd5.nW, hF, kd5.fN, kd5.fW, by omega, hms, by omega, by omega, okN, okW, nsea, fun y hy => Wd.lineOk (hFin y hy), fun H6 w1 u6 B6 wl => ?_⟩
          have kd6 := kd5.upto u6 B6
          have hF6 := u6 _ _ hF nFWp
          have lnbad : ∀ (as rs : List Str) (w1 : Str), (∀ l ∈ as, l ∈ dayL (rnm (bOf BR)) (namesOf AR) f0 h0) → as.length + rs.length ≤ 165 → (10 : Nat) ∉ tl w1 → (tl w1).length ≤ 5200 → (∀ y ∈ rs, (10 : Nat) ∉ tl y ∧ (tl y).length ≤ 5200) → LnsD (as ++ w1 :: rs) := fun as rs w1 h1 h2 h3 h4 h5 => by
            have all : ∀ y ∈ as ++ w1 :: rs, (10 : Nat) ∉ tl y ∧ (tl y).length ≤ 5200 := fun y hy => by
              rcases List.mem_append.mp hy with e | e
              · exact ⟨(Wd.line (h1 y e)).1, line52 y (h1 y e)⟩
              rcases List.mem_cons.mp e with rfl | e
              · exact ⟨h3, h4⟩
              · exact h5 y e
            exact ⟨by simp, by rw [List.length_append, List.length_cons]; omega, fun y hy => (all y hy).1, fun y hy => (all y hy).2⟩
          -- a wrong line behind
          refine ⟨_, rfl, _, rfl, by show 1 ≤ sizeLine; omega, fun A1 nA1 => ?_⟩
          have s1 := same_upd nA1 (o := .lst [V.str w1])
          have hA1 : (upd H6 A1 (.lst [V.str w1])) A1 = some (.lst [V.str w1]) := upd_same
          generalize upd H6 A1 (.lst [V.str w1]) = H7 at s1 hA1
          have kd7 := kd6.same s1
          have hF7 := s1 _ _ hF6
          refine ⟨FW, A1, _, _, rfl, rfl, hF7, hA1, by rw [List.length_map]; show F.length + 1 ≤ sizeLine; omega, fun A2 nA2 => ?_⟩
          have s2 := same_upd nA2 (o := .lst (F.map V.str ++ [V.str w1]))
          have hA2 : (upd H7 A2 (.lst (F.map V.str ++ [V.str w1]))) A2 = some (.lst (F.map V.str ++ [V.str w1])) := upd_same
          have nA2p := bag_not kd7.fB nA2
          generalize upd H7 A2 (.lst (F.map V.str ++ [V.str w1])) = H8 at s2 hA2
          have kd8 := kd7.same s2
          refine ⟨_, rfl, by show 0 ≤ sizeLine; omega, fun A3 nA3 => ?_⟩
          have s3 := same_upd nA3 (o := .lst [])
          have hA3 : (upd H8 A3 (.lst [])) A3 = some (.lst []) := upd_same
          have nA3p := bag_not kd8.fB nA3
          generalize upd H8 A3 (.lst []) = H9 at s3 hA3
          have kd9 := kd8.same s3
          refine ⟨by show 1 ≤ sizeLine; omega, fun A4 nA4 => ?_⟩
          have s4 := same_upd nA4 (o := .lst [V.str ""])
          have hA4 : (upd H9 A4 (.lst [V.str ""])) A4 = some (.lst [V.str ""]) := upd_same
          have nA4p := bag_not kd9.fB nA4
          generalize upd H9 A4 (.lst [V.str ""]) = HA at s4 hA4
          have kdA := kd9.same s4
          refine ⟨by show 1 ≤ sizeLine; omega, fun A5 nA5 => ?_⟩
          have s5 := same_upd nA5 (o := .lst [V.str "call"])
          have hA5 : (upd HA A5 (.lst [V.str "call"])) A5 = some (.lst [V.str "call"]) := upd_same
          have nA5p := bag_not kdA.fB nA5
          generalize upd HA A5 (.lst [V.str "call"]) = HB at s5 hA5
          have kdB := kdA.same s5
          refine ⟨_, rfl, by show 4 ≤ sizeLine; omega, fun A6 nA6 => ?_⟩
          have s6 := same_upd nA6 (o := .lst [V.ref A3, V.ref A4, V.ref A5, V.ref FW])
          have hA6 : (upd HB A6 (.lst [V.ref A3, V.ref A4, V.ref A5, V.ref FW])) A6 = some (.lst [V.ref A3, V.ref A4, V.ref A5, V.ref FW]) := upd_same
          have nA6p := bag_not kdB.fB nA6
          generalize upd HB A6 (.lst [V.ref A3, V.ref A4, V.ref A5, V.ref FW]) = HC at s6 hA6
          have kdC := kdB.same s6
          have hA5C := s6 _ _ hA5
          have hA4C := s6 _ _ (s5 _ _ hA4)
          have hA3C := s6 _ _ (s5 _ _ (s4 _ _ hA3))
          have hA2C := s6 _ _ (s5 _ _ (s4 _ _ (s3 _ _ hA2)))
          have hFC := s6 _ _ (s5 _ _ (s4 _ _ (s3 _ _ (s2 _ _ hF7))))
          refine ⟨p, A6, _, rfl, kdC.fB, nA6p, .inl (.inl hA6), by show 0 < 4; decide, by show 4 ≤ 1000; decide, fun ii v xs hi hxs => ?_⟩
          have uD : Upto p HC (upd HC p (.lst xs)) := Upto.at_
          have kdD := kdC.upto uD ⟨xs, upd_same, hxs⟩
          generalize upd HC p (.lst xs) = HD at uD kdD
          obtain ⟨Wv, rs, rfl, hW, r1, r2⟩ : ∃ (Wv : Addr) (rs : List Str), v = .ref Wv ∧ HD Wv = some (.lst (rs.map V.str)) ∧ rs.length ≤ 80 ∧ (∀ y ∈ rs, (10 : Nat) ∉ tl y ∧ (tl y).length ≤ 5200) := by
            match ii, hi with
            | 0, hi => exact ⟨A3, [], (Option.some.inj hi).symm, uD _ _ hA3C nA3p, by decide, fun y hy => by cases hy⟩
            | 1, hi => exact ⟨A4, [""], (Option.some.inj hi).symm, uD _ _ hA4C nA4p, by decide, fun y hy => by rw [List.mem_singleton.mp hy]; decide +kernel⟩
            | 2, hi => exact ⟨A5, ["call"], (Option.some.inj hi).symm, uD _ _ hA5C nA5p, by decide, fun y hy => by rw [List.mem_singleton.mp hy]; decide +kernel⟩
            | 3, hi => exact ⟨FW, F, (Option.some.inj hi).symm, uD _ _ hFC nFWp, hFl, fun y hy => ⟨(Wd.line (hFin y hy)).1, line52 y (hFin y hy)⟩⟩
            | k + 4, hi => cases hi
          have hA2D := uD _ _ hA2C nA2p
          have hFD := uD _ _ hFC nFWp
          clear hA3 hA4 hA5 hA6 hA2 hA1 hA5C hA4C hA3C hA2C hFC s1 s2 s3 s4 s5 s6 nA1 nA2 nA3 nA4 nA5 nA6 hi hxs uD kd6 kd7 kd8 kd9 kdA kdB kdC hF6 hF7 nA2p nA3p nA4p nA5p nA6p kd5 hF u6 B6
          refine ⟨A2, Wv, _, _, rfl, rfl, hA2D, hW, by simp only [List.length_append, List.length_map, List.length_cons, List.length_nil]; omega, fun A7 nA7 => ?_⟩
          have s7 := same_upd nA7 (o := .lst (F.map V.str ++ [V.str w1] ++ rs.map V.str))
          have hA7 : (upd HD A7 (.lst (F.map V.str ++ [V.str w1] ++ rs.map V.str))) A7 = some (.lst ((F ++ w1 :: rs).map V.str)) := by
            rw [upd_same, List.map_append, List.map_cons, List.append_assoc]
            rfl
          generalize upd HD A7 (.lst (F.map V.str ++ [V.str w1] ++ rs.map V.str)) = HE at s7 hA7
          have kdE := kdD.same s7
          have hFE := s7 _ _ hFD
          have lb1 := lnbad F rs w1 hFin (by omega) wl.nl wl.most r2
          refine ⟨_, rfl, ⟨_, rfl⟩, _, rfl, "\n", A7, _, rfl, rfl, .inl (.inl (.inl hA7)), lenL _ lb1.len (by have := lb1.most; omega), g, q, AR, BR, _, rfl, kdE.rig, lb1, fun i l' hl' hb good => ?_, rd_nogood wl.no⟩
          obtain rfl := rd_idx Wd hFnd hFin wl.no hb good
          refine ⟨by omega, fun t HF0 sT hT => ?_⟩
          have kdF := kdE.same sT
          have hFF := sT _ _ hFE
          refine ⟨_, rfl, FW, _, rfl, .inl (.inl (.inl hFF)), by show 2 ≤ sizeLine; omega, fun t2 nt2 => ?_⟩
          have sU := same_upd nt2 (o := .tup [V.str "refused", V.int ((F.map V.str).length : Int)])
          have hU : (upd HF0 t2 (.tup [V.str "refused", V.int ((F.map V.str).length : Int)])) t2 = some (.tup [V.str "refused", V.int (F.length : Int)]) := by rw [upd_same, List.length_map]
          generalize upd HF0 t2 (.tup [V.str "refused", V.int ((F.map V.str).length : Int)]) = HG at sU hU
          have kdG := kdF.same sU
          have hFG := sU _ _ hFF
          refine ⟨refD F.length, refD F.length, ref_dp (sU _ _ hT), ref_dp hU, ref_shaped _, ref_shaped _, _, rfl, ?_⟩
          rw [ref_eqv]
          refine iteF ?_
          clear kdF hFF hU hT sU nt2 t2 t sT hl' hb good hA7 kdE hFE s7 nA7 lb1 kdD hA2D hW r1 r2 wl hFD HF0 HE HD
          -- a wrong line between
          refine ⟨_, rfl, _, rfl, FW, _, rfl, .inl (.inl (.inl hFG)), _, _, rfl, rfl, p, _, rfl, kdG.fB, by show (0 : Int) < ((F.map V.str).length : Int) + 1; omega, by show ((F.map V.str).length : Int) + 1 < _; rw [List.length_map]; omega, fun at_ xs ha0 ha1 hxs => ?_⟩
          have ha1 : at_ < ((F.map V.str).length : Int) + 1 := ha1
          rw [List.length_map] at ha1
          obtain ⟨n, rfl⟩ : ∃ n : Nat, at_ = (n : Int) := ⟨at_.toNat, by omega⟩
          have hnF : n ≤ F.length := by omega
          have uH : Upto p HG (upd HG p (.lst xs)) := Upto.at_
          have kdH := kdG.upto uH ⟨xs, upd_same, hxs⟩
          have hFH := uH _ _ hFG nFWp
          show Ends.nx _ _ (upd HG p (.lst xs))
          generalize upd HG p (.lst xs) = HH at uH kdH hFH
          clear uH hxs hFG kdG HG ha0 ha1
          have tin : ∀ l ∈ F.take n, l ∈ dayL (rnm (bOf BR)) (namesOf AR) f0 h0 := fun y hy => hFin y (List.mem_of_mem_take hy)
          have tnd : (F.take n).Nodup := hFnd.sublist (List.take_sublist _ _)
          have tlen : (F.take n).length = n := by rw [List.length_take]; omega
          have c1 : cutV (F.map V.str) none (some (n : Int)) = (F.take n).map V.str := by rw [cutN_take, List.map_take]
          have c2 : cutV (F.map V.str) (some (n : Int)) none = (F.drop n).map V.str := by rw [cutN_drop, List.map_drop]
          refine ⟨_, rfl, _, rfl, _, rfl, FW, _, rfl, .inl (.inl hFH), fun B1 nB1 => ?_⟩
          rw [c1]
          have s1 := same_upd nB1 (o := .lst ((F.take n).map V.str))
          have hB1 : (upd HH B1 (.lst ((F.take n).map V.str))) B1 = some (.lst ((F.take n).map V.str)) := upd_same
          have nB1p := bag_not kdH.fB nB1
          generalize upd HH B1 (.lst ((F.take n).map V.str)) = H1 at s1 hB1
          have kd1 := kdH.same s1
          have hF1 := s1 _ _ hFH
          refine ⟨_, rfl, _, rfl, _, rfl, _, rfl, FW, _, rfl, .inl (.inl hF1), fun B2 nB2 => ?_⟩
          rw [c1]
          have s2 := same_upd nB2 (o := .lst ((F.take n).map V.str))
          have hB2 : (upd H1 B2 (.lst ((F.take n).map V.str))) B2 = some (.lst ((F.take n).map V.str)) := upd_same
          have nB2p := bag_not kd1.fB nB2
          generalize upd H1 B2 (.lst ((F.take n).map V.str)) = H2 at s2 hB2
          have kd2 := kd1.same s2
          have hF2 := s2 _ _ hF1
          have hB12 := s2 _ _ hB1
          refine ⟨_, rfl, _, rfl, p, B2, D2, D1, F.take n, rnm (bOf BR), namesOf AR, rfl, kd2.fB, nB2p, kd2.nN, kd2.nW, hB2, kd2.fN, kd2.fW, by omega, hms, by omega, by omega, okN, okW, nsea, fun y hy => Wd.lineOk (tin y hy), fun H3 w2 u3 Bb3 wl2 => ?_⟩
          have kd3 := kd2.upto u3 Bb3
          have hF3 := u3 _ _ hF2 nFWp
          have hB13 := u3 _ _ hB12 nB1p
          refine ⟨by show 1 ≤ sizeLine; omega, fun B3 nB3 => ?_⟩
          have s4 := same_upd nB3 (o := .lst [V.str w2])
          have hB3 : (upd H3 B3 (.lst [V.str w2])) B3 = some (.lst [V.str w2]) := upd_same
          generalize upd H3 B3 (.lst [V.str w2]) = H4 at s4 hB3
          refine ⟨B1, B3, _, _, rfl, rfl, s4 _ _ hB13, hB3, by rw [List.length_map]; show (F.take n).length + 1 ≤ sizeLine; omega, fun B4 nB4 => ?_⟩
          have s5 := same_upd nB4 (o := .lst ((F.take n).map V.str ++ [V.str w2]))
          have hB4 : (upd H4 B4 (.lst ((F.take n).map V.str ++ [V.str w2]))) B4 = some (.lst ((F.take n).map V.str ++ [V.str w2])) := upd_same
          generalize upd H4 B4 (.lst ((F.take n).map V.str ++ [V.str w2])) = H5 at s5 hB4
          have s35 := s4.trans s5
          refine ⟨_, rfl, _, rfl, _, rfl, FW, _, rfl, .inl (.inl (s35 _ _ hF3)), fun B5 nB5 => ?_⟩
          rw [c2]
          have s6 := same_upd nB5 (o := .lst ((F.drop n).map V.str))
          have hB5 : (upd H5 B5 (.lst ((F.drop n).map V.str))) B5 = some (.lst ((F.drop n).map V.str)) := upd_same
          generalize upd H5 B5 (.lst ((F.drop n).map V.str)) = H6 at s6 hB5
          refine ⟨B4, B5, _, _, rfl, rfl, s6 _ _ hB4, hB5, by simp only [List.length_append, List.length_map, List.length_cons, List.length_nil, List.length_drop]; omega, fun B6 nB6 => ?_⟩
          have s7 := same_upd nB6 (o := .lst ((F.take n).map V.str ++ [V.str w2] ++ (F.drop n).map V.str))
          have hB6 : (upd H6 B6 (.lst ((F.take n).map V.str ++ [V.str w2] ++ (F.drop n).map V.str))) B6 = some (.lst ((F.take n).map V.str ++ [V.str w2] ++ (F.drop n).map V.str)) := upd_same
          generalize upd H6 B6 (.lst ((F.take n).map V.str ++ [V.str w2] ++ (F.drop n).map V.str)) = H7 at s7 hB6
          refine ⟨by show 1 ≤ sizeLine; omega, fun B7 nB7 => ?_⟩
          have s8 := same_upd nB7 (o := .lst [V.str "water sea 0"])
          have hB7 : (upd H7 B7 (.lst [V.str "water sea 0"])) B7 = some (.lst [V.str "water sea 0"]) := upd_same
          generalize upd H7 B7 (.lst [V.str "water sea 0"]) = H8 at s8 hB7
          refine ⟨B6, B7, _, _, rfl, rfl, s8 _ _ hB6, hB7, by simp only [List.length_append, List.length_map, List.length_cons, List.length_nil, List.length_drop]; omega, fun B8 nB8 => ?_⟩
          have s9 := same_upd nB8 (o := .lst ((F.take n).map V.str ++ [V.str w2] ++ (F.drop n).map V.str ++ [V.str "water sea 0"]))
          have hB8 : (upd H8 B8 (.lst ((F.take n).map V.str ++ [V.str w2] ++ (F.drop n).map V.str ++ [V.str "water sea 0"]))) B8 = some (.lst ((F.take n ++ w2 :: (F.drop n ++ [("water sea 0" : Str)])).map V.str)) := by
            rw [upd_same, List.map_append, List.map_cons, List.map_append, List.append_assoc, List.append_assoc]
            rfl
          generalize upd H8 B8 (.lst ((F.take n).map V.str ++ [V.str w2] ++ (F.drop n).map V.str ++ [V.str "water sea 0"])) = H9 at s9 hB8
          have s39 := (((s35.trans s6).trans s7).trans s8).trans s9
          have kd9 := kd3.same s39
          clear s1 s2 s4 s5 s6 s7 s8 s9 s35 s39 hB1 hB2 hB3 hB4 hB5 hB6 hB7 hB12 hB13 nB1 nB2 nB3 nB4 nB5 nB6 nB7 nB8 kd1 kd2 kd3 kdH hFH hF1 hF2 hF3 u3 Bb3 c1 c2
          have lb2 := lnbad (F.take n) (F.drop n ++ [("water sea 0" : Str)]) w2 tin (by rw [List.length_append, List.length_drop]; show (F.take n).length + (F.length - n + 1) ≤ 165; omega) wl2.nl wl2.most (fun y hy => by
            rcases List.mem_append.mp hy with e | e
            · exact ⟨(Wd.line (hFin y (List.mem_of_mem_drop e))).1, line52 y (hFin y (List.mem_of_mem_drop e))⟩
            · rw [List.mem_singleton.mp e]
              decide +kernel)
          refine ⟨_, rfl, ⟨_, rfl⟩, _, rfl, "\n", B8, _, rfl, rfl, .inl (.inl (.inl hB8)), lenL _ lb2.len (by have := lb2.most; omega), g, q, AR, BR, _, rfl, kd9.rig, lb2, fun i l' hl' hb good => ?_, rd_nogood wl2.no⟩
          have ei := rd_idx Wd tnd tin wl2.no hb good
          rw [tlen] at ei
          subst ei
          refine ⟨by omega, fun t HA sT hT => ?_⟩
          have kdA := kd9.same sT
          refine ⟨_, rfl, by show 2 ≤ sizeLine; omega, fun t2 nt2 => ?_⟩
          have sU := same_upd nt2 (o := .tup [V.str "refused", V.int (i : Int)])
          have hU : (upd HA t2 (.tup [V.str "refused", V.int (i : Int)])) t2 = some (.tup [V.str "refused", V.int (i : Int)]) := upd_same
          generalize upd HA t2 (.tup [V.str "refused", V.int (i : Int)]) = HB at sU hU
          have kdB := kdA.same sU
          refine ⟨refD i, refD i, ref_dp (sU _ _ hT), ref_dp hU, ref_shaped _, ref_shaped _, _, rfl, ?_⟩
          rw [ref_eqv]
          refine iteF ?_
          clear kdA hU hT sU nt2 t2 t sT hl' hb good hB8 kd9 lb2 wl2 tlen tnd tin HA H9
          -- nothing, and a feed too many
          have hb0 : lineB (rnm (bOf BR)) (namesOf AR) (keysL (addL "call" [])) (keysL (addL "water" [])) (wOf "") = false := by
            rw [wOf_empty]
            rfl
          have hb1 : lineB (rnm (bOf BR)) (namesOf AR) (keysL (addL "call" (dayL (rnm (bOf BR)) (namesOf AR) f0 h0))) (keysL (addL "water" (dayL (rnm (bOf BR)) (namesOf AR) f0 h0))) (wOf "") = false := by
            rw [wOf_empty]
            rfl
          have lb3 := lnbad [] [] "" (fun y hy => by cases hy) (by decide) (by decide +kernel) (by decide +kernel) (fun y hy => by cases hy)
          have lb4 := lnbad (dayL (rnm (bOf BR)) (namesOf AR) f0 h0) [] "" (fun _ h => h) (by rw [List.length_nil]; omega) (by decide +kernel) (by decide +kernel) (fun y hy => by cases hy)
          refine ⟨_, rfl, g, q, AR, BR, [] ++ ("" : Str) :: [], congrArg (fun z => [V.ref g, V.str z]) nl_none, kdB.rig, lb3, fun i l' hl' hb good => ?_, rd_nogood hb0⟩
          have ei := rd_idx Wd List.nodup_nil (fun y hy => by cases hy) hb0 hb good
          have ei : i = 0 := ei
          subst ei
          refine ⟨by decide, fun t HC sT hT => ⟨by show 2 ≤ sizeLine; omega, fun t2 nt2 => ?_⟩⟩
          have sU := same_upd nt2 (o := .tup [V.str "refused", V.int 0])
          have hU : (upd HC t2 (.tup [V.str "refused", V.int 0])) t2 = some (.tup [V.str "refused", V.int 0]) := upd_same
          generalize upd HC t2 (.tup [V.str "refused", V.int 0]) = HD at sU hU
          have kdD := (kdB.same sT).same sU
          refine ⟨refD 0, refD 0, ref_dp (sU _ _ hT), ref_dp hU, ref_shaped _, ref_shaped _, _, rfl, ?_⟩
          rw [ref_eqv]
          refine iteT ?_
          refine ⟨_, rfl, _, rfl, _, _, rfl, rfl, ?_, g, q, AR, BR, dayL (rnm (bOf BR)) (namesOf AR) f0 h0 ++ ("" : Str) :: [], congrArg (fun z => [V.ref g, V.str z]) (nl_end dne), kdD.rig, lb4, fun i l' hl' hb good => ?_, rd_nogood hb1⟩
          · have := joinedD_len (rd_lns Wd dne (fun _ h => h) (by omega))
            show (Txt.join "\n" (dayL (rnm (bOf BR)) (namesOf AR) f0 h0)).length + ("\n" : Str).length ≤ sizeLine
            rw [e1]
            omega
          have ei := rd_idx Wd Wd.nodup (fun _ h => h) hb1 hb good
          subst ei
          refine ⟨by omega, fun t3 HE sT3 hT3 => ?_⟩
          have kdE := kdD.same sT3
          refine ⟨_, rfl, L, _, rfl, .inl (.inl (.inl kdE.fL)), by show 2 ≤ sizeLine; omega, fun t4 nt4 => ?_⟩
          have sV := same_upd nt4 (o := .tup [V.str "refused", V.int (((dayL (rnm (bOf BR)) (namesOf AR) f0 h0).map V.str).length : Int)])
          refine ⟨refD (dayL (rnm (bOf BR)) (namesOf AR) f0 h0).length, refD (dayL (rnm (bOf BR)) (namesOf AR) f0 h0).length, ref_dp (sV _ _ hT3), ref_dp (by rw [upd_same, List.length_map]), ref_shaped _, ref_shaped _, ?_⟩
          rw [ref_eqv]
          exact kk _
end
end K0
end
section
set_option Elab.async false
set_option linter.all false
set_option maxRecDepth 100000
set_option maxHeartbeats 8000000
namespace K0
open PySem PySem.Spec PyProof.Rows L2 TL
def Gd (K : PySem.W.Frag) (C : Addr) (x q : Str) (st : Stmt) : Prop := ∃ f fd, FnM K x q st f fd ∧ Meth K C x f
/-- all functions of the text -/
structure All (P : Program) (w : World) (K : PySem.W.Frag) (mg : Str → Option Value) (base : Heap) (tS tM tL tN tC : Tok) (Cd Cg Cr Ct : Addr) : Prop where
  B : Bl mg
  C : Gc mg tS tM tL
  gN : mg "LONGEST_NUMERAL" = some (.int 31 tN)
  gC : mg "MOST_CUBES" = some (.int mostI tC)
  T : Rv K mg Cr
  TG : Rg K mg Cg
  TD : Dv1 K mg Cd
  S : Sc K Cr
  SG : Gm K Cg
  made : ∃ f fd, FnM K "__init__" "River.__init__" sInit f fd ∧ Mk K Cr f
  madeG : ∃ f fd, FnM K "__init__" "Rights.__init__" sGInit f fd ∧ Mk K Cg f
  madeD : ∃ f fd, FnDI K f fd ∧ Mk K Cd f
  calls : Gd K Cd "calls" "Day.calls" sDCalls
  waters : Gd K Cd "waters" "Day.waters" sDWaters
  Mf : Mf K mg
  G : Mg P w K mg base Cg Cr
  NT : ∃ f fd, NpT P K mg Ct f fd
  eqG : ∃ f fd, FnM K "__eq__" "Rights.__eq__" sGEq f fd ∧ PySem.W.findIn K (.ref Cg) "__eq__" = some (some (.ref f)) ∧ PySem.W.isFn K (.ref f) = true
  eqD : ∃ f fd, FnM K "__eq__" "Day.__eq__" sDEq f fd ∧ PySem.W.findIn K (.ref Cd) "__eq__" = some (some (.ref f)) ∧ PySem.W.isFn K (.ref f) = true
  IG : Ri K Cg
  ID : Ri K Cd
  tyG : PySem.W.typeIn K (.ref Cg) = some (.type "type")
  nfG : PySem.W.notFirst K Cg (.ref Cg) = true
  nfD : PySem.W.notFirst K Cd (.ref Cd) = true
  kt : PySem.W.kitOne K (.ref Cd) (.type "tuple") = some false
  J : Rq K Cr
  R : Te K mg Ct
  H : Hf K mg
  isNat : Gf K mg "is_natural" sIsNat
  isWhole : Gf K mg "is_whole" sIsWhole
  isCubes : Gf K mg "is_cubes" sIsCubes
  numeral : Gf K mg "is_numeral" sNumeral
  needC : Gf K mg "_need_cubes" sNeedCubes
  isLine : Gf K mg "_is_line" sIsLine
  read : Gf K mg "read_day" sReadDay
  write : Gf K mg "write_day" sWriteDay
  bag : Gf K mg "_law_bag" sBag
  river : Gf K mg "_law_river" sLRiver
  course : Gf K mg "_law_course" sLCourse
  rights : Gf K mg "_law_rights" sLRights
  cubes : Gf K mg "_law_cubes" sLCubes
  amounts : Gf K mg "_law_amounts" sLAmounts
  size : Gf K mg "_law_size" sLSize
  lines : Gf K mg "_law_lines" sLLines
  lread : Gf K mg "_law_read" sLRead
  number : Gf K mg "_law_number" sLNumber
  wrong : Gf K mg "_law_wrong" sLWrong
section
variable {P : Program} {w : World} {K : PySem.W.Frag} {mg : Str → Option Value} {base : Heap} {tS tM tL tN tC : Tok}
theorem lw_of {Cd Cg Cr Ct : Addr} (L : All P w K mg base tS tM tL tN tC Cd Cg Cr Ct) : Lw P w K mg base Cd Cg Cr Ct := by
  obtain ⟨B, C, gN, gC, T, TG, TD, S, SG, ⟨fI, fdI, FI, MK⟩, ⟨fJ, fdJ, FJ, MKG⟩, ⟨fD, fdD, FD, MKD⟩, ⟨fE, fdE, FE, Mcalls⟩, ⟨fW, fdW, FW, Mwaters⟩, M, G, ⟨ft, fdt, NT⟩, ⟨fq, fdq, Fq, hsq, hfq⟩, ⟨fQ, fdQ, FQ, hsQ, hfQ⟩, IG, ID, tyG, nfG, nfD, kt, J, R, HF,
    ⟨f1, d1, F1, m1⟩, ⟨f2, d2, F2, m2⟩, ⟨f3, d3, F3, m3⟩, ⟨f4, d4, F4, m4⟩, ⟨f5, d5, F5, m5⟩, ⟨f6, d6, F6, m6⟩, ⟨f7, d7, F7, m7⟩, ⟨f8, d8, F8, m8⟩, ⟨f9, d9, F9, m9⟩, ⟨fa, da, Fa, ma⟩, ⟨fb, db, Fb, mb⟩, ⟨fc, dc, Fc, mc⟩, ⟨fd', dd, Fd, md⟩, ⟨fe, de, Fe, me⟩, ⟨ff, df, Ff, mf⟩, ⟨fg, dg, Fg, mg'⟩, ⟨fh, dh, Fh, mh⟩, ⟨fj, dj, Fj, mj⟩, ⟨fk, dk, Fk, mk⟩⟩ := L
  obtain ⟨fT, dT, FT, mT⟩ := id HF.take
  obtain ⟨fO, dO, FO, mO⟩ := id HF.of
  obtain ⟨fX, dX, FX, mX⟩ := id HF.mixed
  have CB : Cb P w K mg base := ⟨f3, d3, F3, m3, ok_iscubes F3 F2 m2 F1 m1 gC B⟩
  have DM : Dm P w K mg base Cd Cg Cr := ⟨fD, fdD, FD, MKD, ok_dinit FD CB F5 m5 SG S TG T TD B⟩
  have Gread := ok_readday F7 F6 m6 F4 m4 gN gC DM TD TG T NT B
  have GQ : Gq P w K mg base Cg Cr := ⟨⟨fq, fdq, Fq, hsq, hfq, ok_geq Fq TG IG tyG T J B⟩, nfG⟩
  exact ⟨⟨f9, d9, F9, m9, ok_bag F9 B⟩, ⟨fa, da, Fa, ma, ok_lriver Fa HF⟩, ⟨fc, dc, Fc, mc, ok_lrights (fN := fb) (fdN := db) Fc Fb mb HF⟩, ⟨ff, df, Ff, mf, ok_lsize Ff FT mT B⟩, ⟨fT, dT, FT, mT, ok_take FT B⟩, ⟨fO, dO, FO, mO, ok_of FO FT B mT⟩, ⟨fX, dX, FX, mX, ok_mixed FX FT B mT⟩,
    ⟨fe, de, Fe, me, ok_lamounts Fe FT mT FX mX Fd md B⟩, ⟨fg, dg, Fg, mg', ok_llines Fg B⟩, ⟨fh, dh, Fh, mh, ok_lread Fh F7 m7 Gread R B⟩, ⟨fk, dk, Fk, mk, ok_lwrong Fk FT mT FO mO Fd md Fj mj B⟩, ⟨f8, d8, F8, m8, ok_writeday F8 FE Mcalls FW Mwaters TD B⟩,
    ⟨fI, fdI, FI, MK, ok_init FI M T B C⟩, ⟨fJ, fdJ, FJ, MKG, ok_ginit FJ G TG T B C⟩, DM, ⟨fE, fdE, FE, Mcalls, ok_dcalls FE TD B⟩, ⟨fW, fdW, FW, Mwaters, ok_dwaters FW TD B⟩, ⟨fQ, fdQ, FQ, hsQ, hfQ, ok_deq FQ TD ID TG IG GQ B⟩, nfD, ID, kt⟩
theorem ok_lawA {f Cd Cg Cr Ct : Addr} {fd : FuncData} (F : FnP K "law" sLaw f fd) (L : All P w K mg base tS tM tL tN tC Cd Cg Cr Ct) : FnOk P w K mg base CX0 9 f fd ["_law_script"] (spLaw K) := ok_law F (lw_of L) L.T L.TG L.TD L.B
end
end K0
end
section
set_option Elab.async false
set_option linter.all false
set_option maxRecDepth 100000
set_option maxHeartbeats 0
namespace K0H
open PySem PySem.Spec PyProof.Rows L2 K0 LamX
open PySem.W (Frag)
/-! ### the defs, as data -/
def dD (x : Str) (st : Stmt) : He.DefD := ⟨(x, none), x, x, defArgs st, defBody st, defScope st, [], []⟩
def dA (al x : Str) (st : Stmt) : He.DefD := ⟨(al, none), x, x, defArgs st, defBody st, defScope st, [], []⟩
def dM (c m q : Str) (st : Stmt) : He.DefD := ⟨(c, some m), m, q, defArgs st, defBody st, defScope st, [], []⟩
def dMK (c m q : Str) (st : Stmt) (kws : List (Str × He.Dv)) : He.DefD := ⟨(c, some m), m, q, defArgs st, defBody st, defScope st, [], kws⟩
def fn : List He.DefD := [dD "is_natural" sIsNat, dD "is_whole" sIsWhole, dD "is_cubes" sIsCubes, dD "is_numeral" sNumeral, dD "_need_cubes" sNeedCubes, dD "_is_line" sIsLine, dD "read_day" sReadDay, dD "write_day" sWriteDay, dD "need_weir" sNeed, dD "is_name" sIsName, dD "_course" sCourse, dD "_find_courses" sFind, dD "_directly_above" sAbove, dD "_find_upstream" sUp, dD "_order_by_depth" sOrder, dA "is_row_rivers" "_is_row" sIsRow, dA "need_rows_rivers" "_need_rows" sNeedRows, dA "is_row_rights" "_is_row" sIsRowR, dA "need_rows_rights" "_need_rows" sNeedRowsR, dM "River" "__init__" "River.__init__" sInit, dM "River" "__contains__" "River.__contains__" sContains, dM "River" "__eq__" "River.__eq__" sEq, dM "River" "is_down" "River.is_down" sIsDown, dM "River" "way" "River.way" sWay, dM "Rights" "__init__" "Rights.__init__" sGInit, dM "Rights" "__contains__" "Rights.__contains__" sGContains, dM "Rights" "__eq__" "Rights.__eq__" sGEq, dM "Rights" "_those_over" "Rights._those_over" sThose, dMK "Day" "__init__" "Day.__init__" sDInit [("call", .int 0), ("water", .int 0)], dM "Day" "__eq__" "Day.__eq__" sDEq, dM "Day" "calls" "Day.calls" sDCalls, dM "Day" "waters" "Day.waters" sDWaters, dD "_law_bag" sBag, dD "_law_take" sTake, dD "_law_of" sOf, dD "_law_mixed" sMixed, dD "_law_names" sNames, dD "_law_river" sLRiver, dD "_law_course" sLCourse, dD "_law_rights" sLRights, dD "_law_cubes" sLCubes, dD "_law_amounts" sLAmounts, dD "_law_size" sLSize, dD "_law_lines" sLLines, dD "_law_read" sLRead, dD "_law_number" sLNumber, dD "_law_wrong" sLWrong, dD "law" sLaw]
def fa0 : List He.Fa := [.glo "is_natural", .glo "is_whole", .glo "is_cubes", .glo "is_numeral", .glo "_need_cubes", .glo "Day", .glo "_is_line", .glo "read_day", .glo "write_day", .glo "is_name", .glo "is_row_rivers", .glo "need_rows_rivers", .glo "_course", .glo "_find_courses", .glo "_directly_above", .glo "_find_upstream", .glo "_order_by_depth", .glo "River", .glo "is_row_rights", .glo "need_rows_rights", .glo "Rights", .glo "need_weir", .glo "NotText", .glo "_law_bag", .glo "_law_take", .glo "_law_of", .glo "_law_mixed", .glo "_law_names", .glo "_law_river", .glo "_law_course"]
def fa1 : List He.Fa := [.glo "_law_rights", .glo "_law_cubes", .glo "_law_amounts", .glo "_law_size", .glo "_law_lines", .glo "_law_read", .glo "_law_number", .glo "_law_wrong", .glo "law", .free "len", .free "enumerate", .free "int", .free "abs", .free "list", .free "range", .free "dict", .free "tuple", .free "isinstance", .free "str", .free "all", .free "any", .free "bool", .free "sorted", .free "max", .free "min", .free "iter", .free "super", .free "ValueError", .free "sum", .str "SEA" "sea"]
def fa2 : List He.Fa := [.int "MOST_ROWS" 40, .int "LONGEST_NAME" 8, .int "LONGEST_NUMERAL" 31, .int "MOST_CUBES" 1000000000000000000000000000000, .cls "River", .mkr "River", .cls "Rights", .mkr "Rights", .cls "Day", .mkr "Day", .exm "NotText" "NotText" true, .noat "NotText" "line", .noat "River" "weirs", .noat "River" "_rows", .noat "River" "_below", .noat "River" "_courses", .noat "River" "_above", .noat "River" "_upstream", .noat "River" "_deepest_first", .noat "Rights" "river", .noat "Rights" "names", .noat "Rights" "_rows", .noat "Rights" "_ways", .noat "Rights" "_lasts", .noat "Rights" "_passing", .noat "Day" "rights", .noat "Day" "_calls", .noat "Day" "_waters", .meth "River" "is_down", .meth "River" "way"]
def fa3 : List He.Fa := [.meth "Rights" "_those_over", .meth "Day" "calls", .meth "Day" "waters"]
def fa : List He.Fa := fa0 ++ fa1 ++ fa2 ++ fa3
/-! ### more facts, as a Bool -/
def spB (K : Frag) (c m : Str) : Bool := He.eqO (PySem.W.findIn K (.ref (He.ga K c)) m) (some (some (.ref (He.ma K (He.ga K c) m)))) && PySem.W.isFn K (.ref (He.ma K (He.ga K c) m))
/-- an error's class is one over ValueError, its __init__ its own -/
def clsB (K : Frag) (c : Str) : Bool := match K.lookup (He.ga K c) with
  | some ⟨.type t, _, .cls cd, sl⟩ => decide (t = "type") && (match cd.mro, sl.toList with
    | .ref C' :: bm, [_, _, _, _, some (.builtin n), _] => decide (C' = He.ga K c) && (decide (n = "ValueError.__new__") && (cd.hasDict && (!cd.hasDel && PySem.HandSPX.refsVE bm)))
    | _, _ => false)
  | _ => false
def errB (K : Frag) (c : Str) : Bool := He.eqO (PySem.W.findIn K (.ref (He.ga K c)) "__setattr__") (some (some (.builtin "object.__setattr__"))) && (decide (PySem.W.subIn K (.ref (He.ga K c)) (.type "BaseException") = some true) && (decide (PySem.W.typeIn K (.ref (He.ga K c)) = some (.type "type")) && (PySem.W.keepIn K (.ref (He.ga K c)) &&
  (decide (PySem.W.mroIn K (He.ga K c) (.ref (He.ga K c)) = some true) && (decide (PySem.W.subIn K (.ref (He.ga K c)) (.type "ValueError") = some true) && (He.eqO (PySem.W.ks_superIn K (He.ga K c) (He.ga K c) "__init__") (some (some (.builtin "ValueError.__init__"))) &&
  (He.eqO (PySem.W.nsIn K cStatics "thirdparty.any") (some none) && (He.eqO (PySem.W.findIn K (.ref (He.ga K c)) "__init__") (some (some (.ref (He.ma K (He.ga K c) "__init__")))) && decide (PySem.W.typeIn K (.ref (He.ma K (He.ga K c) "__init__")) = some (.type "function"))))))))))
def xfB (K : Frag) (c : Str) : Bool := He.eqO (PySem.W.findIn K (.ref (He.ga K c)) "__getattribute__") (some (some (.builtin "BaseException.__getattribute__"))) && (He.eqO (PySem.W.findIn K (.ref (He.ga K c)) "__getattr__") (some none) && PySem.W.hasDictIn K (He.ga K c))
def iniB (K : Frag) (c qual : Str) : Bool := match K.lookup (He.fAd K (c, some "__init__")) with
  | some ⟨_, _, .func fd, _⟩ => (match fd.code, fd.closure with
    | .ref cda, [(x, cc)] => decide (x = "__class__") && (PySem.W.codeIn K (.ref cda) qual && ((match K.lookup cda with
      | some ⟨_, _, .fields vs, _⟩ => (match (vs[2]? : Option Value) with
        | some (.str file _) => (PySem.Challenge.pw_weirkeepers_k43_days_as_texts.main.file == file)
        | _ => false)
      | _ => false) && (match K.lookup cc with
      | some ⟨_, _, .cell (some (.ref C)), _⟩ => decide (C = He.ga K c)
      | _ => false)))
    | _, _ => false)
  | _ => false
def riB (K : Frag) (c : Str) : Bool := He.eqO (PySem.W.findIn K (.ref (He.ga K c)) "__class__") (some (some (.builtin "object.__class__"))) && (He.eqO (PySem.W.specialIn K (.builtin "object.__class__") "__get__") (some (some (.builtin "getset_descriptor.__get__"))) && (decide (PySem.W.takesIn K (.builtin "object.__class__") = some true) && decide (PySem.W.mroIn K (He.ga K c) (.type "object") = some true)))
def neB (K : Frag) (c : Str) : Bool := He.eqO (PySem.W.findIn K (.ref (He.ga K c)) "__ne__") (some (some (.builtin "object.__ne__")))
def tyB (K : Frag) (c : Str) : Bool := decide (PySem.W.typeIn K (.ref (He.ga K c)) = some (.type "type"))
def ex (K : Frag) : Bool := spB K "River" "__contains__" && (spB K "River" "__eq__" && (spB K "Rights" "__contains__" && (spB K "Rights" "__eq__" && (spB K "Day" "__eq__" && (riB K "River" && (riB K "Rights" && (riB K "Day" && (tyB K "River" && (tyB K "Rights" && (PySem.W.notFirst K (He.ga K "River") (.ref (He.ga K "River")) && (PySem.W.notFirst K (He.ga K "Rights") (.ref (He.ga K "Rights")) && (PySem.W.notFirst K (He.ga K "Day") (.ref (He.ga K "Day")) && (decide (PySem.W.kitOne K (.ref (He.ga K "Day")) (.type "tuple") = some false) && (riB K "NotText" && (clsB K "NotText" && (errB K "NotText" && (iniB K "NotText" "NotText.__init__" && (xfB K "NotText" && (true)))))))))))))))))))
abbrev FnY : Type := Option (Str × Str × Arguments × FuncBody × Scope × Addr × Value × Value × Option Addr × Addr)
def fnY (K : Frag) (c : Str) : FnY := match K.lookup (He.fAd K (c, some "__init__")) with
  | some ⟨_, _, .func fd, _⟩ => some (fd.name, fd.qualname, fd.params, fd.body, fd.scope, fd.globals, fd.defaults, fd.kwdefaults, fd.annotations, fd.builtins)
  | _ => none
def valY (qual : Str) (st : Stmt) : FnY := some ("__init__", qual, defArgs st, .stmts (defBody st), defScope st, mainGlobals, .none, .none, none, builtinsNs)
def ers : List (Str × Str × Stmt) := [("NotText", "NotText.__init__", sNTx)]
def dts : List (Str × List Str) := []
def tf : List He.Defn := []
abbrev AlY : Type := He.AlD × Bool × List FnY × List (Option (List (Option (Str × Int))))
def frY (n : Nat) (g : Addr → Option Obj) : Frag := He.frT g (cStatics :: He.asD g n)
def obsY (n : Nat) (g : Addr → Option Obj) : AlY := (He.obsD fa fn (frY n g), ex (frY n g) && He.tabsB g tf (frY n g), ers.map fun q => fnY (frY n g) q.1, dts.map fun q => He.dicW (frY n g) (He.ga (frY n g) q.1))
abbrev R : PySem.W.OpenRow := PySem.W.OpenLaw.row PySem.Challenge.rw_weirkeepers_k43_days_as_texts
structure SaysY (w : World) (h : Heap) (K : Frag) : Prop where
  d : He.SaysD fa fn K
  more : ex K = true
  y : (ers.map fun q => fnY K q.1) = ers.map fun q => valY q.2.1 q.2.2
  dt : (dts.map fun q => He.dicW K (He.ga K q.1)) = dts.map fun q => some (He.keysIn w.params q.2)
  hd : ∀ p ∈ tf, PySem.W.codeHdIn K (He.cT K p).1 (He.cT K p).2 = true
  out : ∀ p ∈ tf, K.lookup (He.cT K p).2 = none
  empty : ∀ p ∈ tf, h.get? (He.cT K p).2 = some { cls := .none, data := .fields #[] }
def valW (w : World) : AlY := (He.valD fn, true, ers.map fun q => valY q.2.1 q.2.2, dts.map fun q => some (He.keysIn w.params q.2))
theorem saysY_of {n : Nat} {h : Heap} {w : World} (e : obsY n h.get? = valW w) : SaysY w h (frY n h.get?) := by
  have e1 : He.obsD fa fn (frY n h.get?) = He.valD fn := congrArg (fun z : AlY => z.1) e
  have e2 : (ex (frY n h.get?) && He.tabsB h.get? tf (frY n h.get?)) = true := congrArg (fun z : AlY => z.2.1) e
  have e3 : (ers.map fun q => fnY (frY n h.get?) q.1) = ers.map fun q => valY q.2.1 q.2.2 := congrArg (fun z : AlY => z.2.2.1) e
  have e4 : (dts.map fun q => He.dicW (frY n h.get?) (He.ga (frY n h.get?) q.1)) = dts.map fun q => some (He.keysIn w.params q.2) := congrArg (fun z : AlY => z.2.2.2) e
  obtain ⟨h1, h2⟩ := He.ba e2
  have key : ∀ p ∈ tf, PySem.W.codeHdIn (frY n h.get?) (He.cT (frY n h.get?) p).1 (He.cT (frY n h.get?) p).2 = true ∧ ∃ o, h.get? (He.cT (frY n h.get?) p).2 = some o ∧ He.emptyTab o = true := fun p hp => by
    obtain ⟨h3, h4⟩ := He.ba (List.all_eq_true.mp h2 p hp)
    refine ⟨h3, ?_⟩
    cases q : h.get? (He.cT (frY n h.get?) p).2 with
    | none =>
      rw [q] at h4
      cases h4
    | some o =>
      rw [q] at h4
      exact ⟨o, rfl, h4⟩
  exact ⟨e1, h1, e3, e4, fun p hp => (key p hp).1, fun p hp => by
    obtain ⟨_, o, q, z⟩ := key p hp
    exact He.frT_none q z, fun p hp => by
    obtain ⟨_, o, q, z⟩ := key p hp
    rw [q, He.emptyTab_eq z]⟩
def hk (n : Nat) : PySem.W.Hook where
  α := AlY
  obs := fun s => obsY n s.heap.get?
  val := valW
  says := fun w h => ∃ K : Frag, K.In h ∧ SaysY w h K
  of := fun _ _ e => ⟨_, He.frT_in, saysY_of e⟩
  keeps := fun _ _ _ ⟨K, hK, c⟩ k => ⟨K, PySem.W.Frag.In.keeps hK k, ⟨c.d, c.more, c.y, c.dt, c.hd, c.out, fun p hp => k _ _ (c.empty p hp)⟩⟩
def ob (s : PySem.W.SharedT) : AlY := obsY 4 (HandSHeadRun.getT s)
theorem ob_eq (s : PySem.W.SharedT) : ob s = (hk 4).obs s.abs := by
  have e : HandSHeadRun.getT s = s.abs.heap.get? := funext (HandSHeadRun.getT_eq s)
  unfold ob
  rw [e] <;> rfl
theorem y_at {w : World} {h : Heap} {K : Frag} (c : SaysY w h K) (i : Nat) {q : Str × Str × Stmt} (hq : ers[i]? = some q) : fnY K q.1 = valY q.2.1 q.2.2 := by
  have e := congrArg (fun l : List FnY => l[i]?) c.y
  simp only [List.getElem?_map, hq] at e
  exact Option.some.inj e
theorem dt_at {w : World} {h : Heap} {K : Frag} (c : SaysY w h K) (i : Nat) {q : Str × List Str} (hq : dts[i]? = some q) : He.dicW K (He.ga K q.1) = some (He.keysIn w.params q.2) := by
  have e := congrArg (fun l : List (Option (List (Option (Str × Int)))) => l[i]?) c.dt
  simp only [List.getElem?_map, hq] at e
  exact Option.some.inj e
end K0H
end
section
set_option Elab.async false
set_option linter.all false
set_option maxRecDepth 100000
set_option maxHeartbeats 0
namespace K0H
open PySem PySem.Spec PyProof.Rows L2 K0
def loose0 : List Str := ["_wall", "__name__", "WeirError", "NotRiver", "NotRights", "NotText", "NoWeir", "NoRight", "NotDown", "NotDay", "MOST_CUBES", "LONGEST_NUMERAL", "is_natural", "is_whole", "is_cubes", "is_numeral", "need_weir", "need_right", "_need_cubes", "Day", "_is_line", "read_day", "write_day", "SEA", "MOST_ROWS", "LONGEST_NAME", "is_name", "_is_row", "is_row_rivers", "_need_rows"]
def loose1 : List Str := ["need_rows_rivers", "_course", "_find_courses", "_directly_above", "_find_upstream", "_order_by_depth", "River", "is_row_rights", "need_rows_rights", "Rights", "_law_bag", "_law_take", "_law_of", "_law_mixed", "_law_names", "_law_river", "_law_course", "_law_rights", "_law_cubes", "_law_amounts", "_law_size", "_law_lines", "_law_read", "_law_number", "_law_wrong"]
def loose : List Str := loose0 ++ loose1
noncomputable def endR (w : World) (os : OsState) : Option PySem.W.SharedT := HandSHeadRun.endF (HandSHeadRun.stepQ (HandSHeadRun.denQ HandSHeadRun.tabQ) R.prog w) 6000 R.prog w os
theorem three {S A B C : Type} {o : Option S} {f : S → A} {g : S → B} {h : S → C} {a : A} {b : B} {c : C} (x : o.map f = some a) (y : o.map g = some b) (z : o.map h = some c) : o.map (fun s => (f s, g s, h s)) = some (a, b, c) := by
  cases o with
  | none => cases x
  | some s =>
    cases x
    cases y
    cases z
    rfl
theorem runA (w : World) (os : OsState) : (endR w os).map (fun s => HandSHeadRun.looksF R.prog (PySem.W.boot_heap w.params) s.abs) = some true := by
  kernel_rfl
theorem runB (w : World) (os : OsState) : (endR w os).map (fun s => HandSHeadRun.seenQ (PySem.W.view R.prog [63]) loose (importedModules R.prog.main.body) (fun s => PySem.W.xlAt (PySem.W.view R.prog [63]) [] s && PySem.W.recOk R.records s) s.abs) = some (PySem.W.openGood (PySem.W.view R.prog [63]) loose) := by
  kernel_rfl
theorem runC (w : World) (os : OsState) : (endR w os).map ob = some ((hk 4).val w) := by
  kernel_rfl
theorem run (w : World) : HandSHeadRun.RunEq R (PySem.W.view R.prog [63]) (hk 4) ob 6000 loose w := fun os => three (runA w os) (runB w os) (runC w os)
end K0H
end
section
set_option Elab.async false
set_option linter.all false
set_option maxRecDepth 100000
set_option maxHeartbeats 0
namespace K0H
open PySem PySem.Spec PyProof.Rows L2 K0 LamX
open PySem.W (Frag)
abbrev PP : Program := PySem.Challenge.pw_weirkeepers_k43_days_as_texts
theorem sup_ok {K : Frag} {c qual : Str} {st : Stmt} (y : fnY K c = valY qual st) (hi : iniB K c qual = true) : ∃ (fd : FuncData) (oc : Value) (od : Option Addr) (doc pm : Value) (cda : Addr) (ct : Value) (cc : Addr) (osl : Array (Option Value)),
    fd = PySem.W.ksFn "__init__" qual (defArgs st) (defBody st) (defScope st) .none .none doc pm none (.ref cda) ct cc ∧ K.lookup (He.fAd K (c, some "__init__")) = some ⟨oc, od, .func fd, osl⟩ ∧ PySem.W.codeIn K (.ref cda) qual = true ∧
    (∃ (ccl : Value) (cdd : Option Addr) (vs : Array Value) (ccs : Array (Option Value)) (file : Str) (tf : Tok), K.lookup cda = some ⟨ccl, cdd, .fields vs, ccs⟩ ∧ vs[2]? = some (.str file tf) ∧ ((PP.main.file : Str) == file) = true) ∧
    ∃ (cl : Value) (cld : Option Addr) (csl : Array (Option Value)), K.lookup cc = some ⟨cl, cld, .cell (some (.ref (He.ga K c))), csl⟩ := by
  unfold fnY at y
  unfold iniB at hi
  split at y
  · rename_i oc od fd osl q
    rw [q] at hi
    obtain ⟨n1, n2, n3, n4, n5, n6, n7, n8, n9, n10, n11, n12, n13, n14, n15⟩ := fd
    have y2 : (some (n1, n2, n3, n4, n5, n6, n8, n9, n12, n15) : FnY) = valY qual st := y
    unfold valY at y2
    simp only [Option.some.injEq, Prod.mk.injEq] at y2
    obtain ⟨h1, h2, h3, h4, h5, h6, h7, h8, h9, h10⟩ := y2
    subst h1 h2 h3 h4 h5 h6 h7 h8 h9 h10
    dsimp only at hi
    split at hi
    · rename_i cda x cc
      obtain ⟨g1, hi⟩ := He.ba hi
      obtain ⟨g2, hi⟩ := He.ba hi
      obtain ⟨g3, g4⟩ := He.ba hi
      have g1 := of_decide_eq_true g1
      subst g1
      refine ⟨_, oc, od, n10, n11, cda, n14, cc, osl, rfl, q, g2, ?_, ?_⟩
      · split at g3
        · rename_i ccl cdd vs ccs qc
          split at g3
          · rename_i file tf qv
            exact ⟨_, _, _, _, file, tf, qc, qv, g3⟩
          · cases g3
        · cases g3
      · split at g4
        · rename_i cl cld C csl qc
          have e := of_decide_eq_true g4
          subst e
          exact ⟨_, _, _, qc⟩
        · cases g4
    · cases hi
  · cases y
theorem cls_ok2 {K : Frag} {c : Str} (h : clsB K c = true) : ∃ nm q N bs bm sn sub ab col dd k0 k1 k2 k3 k5, K.lookup (He.ga K c) = some (excClassObj nm q (He.ga K c) N bs bm true sn sub ab col dd k0 k1 k2 k3 k5 "ValueError.__new__") ∧ PySem.HandSPX.refsVE bm = true := by
  unfold clsB at h
  split at h
  · rename_i t dd cd sl q
    obtain ⟨g0, h⟩ := He.ba h
    have e0 := of_decide_eq_true g0
    clear g0
    split at h
    · rename_i C' bm k0 k1 k2 k3 n k5 e1 e2
      obtain ⟨g1, h⟩ := He.ba h
      obtain ⟨g2, h⟩ := He.ba h
      obtain ⟨g3, h⟩ := He.ba h
      obtain ⟨g4, g5⟩ := He.ba h
      have g1 := of_decide_eq_true g1
      have g2 := of_decide_eq_true g2
      subst g1 g2
      obtain ⟨c1, c2, c3, c4, c5, c6, c7, c8, c9, c10, c11⟩ := cd
      dsimp only at e1 g3 g4
      subst e1
      have g4 : c11 = false := by simpa using g4
      subst g3 g4
      have es : sl = #[k0, k1, k2, k3, some (.builtin "ValueError.__new__"), k5] := by
        apply Array.ext'
        rw [e2]
      subst es
      subst e0
      exact ⟨c1, c5, c4, c2, bm, c7, c8, c9, c10, dd, k0, k1, k2, k3, k5, q, g5⟩
    · cases h
  · cases h
theorem spB_ok {K : Frag} {c m : Str} (h : spB K c m = true) : PySem.W.findIn K (.ref (He.ga K c)) m = some (some (.ref (He.ma K (He.ga K c) m))) ∧ PySem.W.isFn K (.ref (He.ma K (He.ga K c) m)) = true := by
  obtain ⟨h1, h2⟩ := He.ba h
  exact ⟨He.eqO_ok h1, h2⟩
theorem all_ok {w : World} {K : Frag} {h : Heap} {mg : Str → Option Value} (X : K.In h) (G : h.Ns mainGlobals mg) (c : SaysY w h K) :
    ∃ tS tM tL tN tC, ∀ base : Heap, All PP w K mg base tS tM tL tN tC (He.ga K "Day") (He.ga K "Rights") (He.ga K "River") (He.ga K "NotText") := by
  obtain ⟨d0, f0⟩ := c.d.def_ 0 (d := dD "is_natural" sIsNat) rfl
  have F0 : FnP K "is_natural" sIsNat (He.ga K "is_natural") d0 := f0
  obtain ⟨d1, f1⟩ := c.d.def_ 1 (d := dD "is_whole" sIsWhole) rfl
  have F1 : FnP K "is_whole" sIsWhole (He.ga K "is_whole") d1 := f1
  obtain ⟨d2, f2⟩ := c.d.def_ 2 (d := dD "is_cubes" sIsCubes) rfl
  have F2 : FnP K "is_cubes" sIsCubes (He.ga K "is_cubes") d2 := f2
  obtain ⟨d3, f3⟩ := c.d.def_ 3 (d := dD "is_numeral" sNumeral) rfl
  have F3 : FnP K "is_numeral" sNumeral (He.ga K "is_numeral") d3 := f3
  obtain ⟨d4, f4⟩ := c.d.def_ 4 (d := dD "_need_cubes" sNeedCubes) rfl
  have F4 : FnP K "_need_cubes" sNeedCubes (He.ga K "_need_cubes") d4 := f4
  obtain ⟨d5, f5⟩ := c.d.def_ 5 (d := dD "_is_line" sIsLine) rfl
  have F5 : FnP K "_is_line" sIsLine (He.ga K "_is_line") d5 := f5
  obtain ⟨d6, f6⟩ := c.d.def_ 6 (d := dD "read_day" sReadDay) rfl
  have F6 : FnP K "read_day" sReadDay (He.ga K "read_day") d6 := f6
  obtain ⟨d7, f7⟩ := c.d.def_ 7 (d := dD "write_day" sWriteDay) rfl
  have F7 : FnP K "write_day" sWriteDay (He.ga K "write_day") d7 := f7
  obtain ⟨d8, f8⟩ := c.d.def_ 8 (d := dD "need_weir" sNeed) rfl
  have F8 : FnP K "need_weir" sNeed (He.ga K "need_weir") d8 := f8
  obtain ⟨d9, f9⟩ := c.d.def_ 9 (d := dD "is_name" sIsName) rfl
  have F9 : FnP K "is_name" sIsName (He.ga K "is_name") d9 := f9
  obtain ⟨d10, f10⟩ := c.d.def_ 10 (d := dD "_course" sCourse) rfl
  have F10 : FnP K "_course" sCourse (He.ga K "_course") d10 := f10
  obtain ⟨d11, f11⟩ := c.d.def_ 11 (d := dD "_find_courses" sFind) rfl
  have F11 : FnP K "_find_courses" sFind (He.ga K "_find_courses") d11 := f11
  obtain ⟨d12, f12⟩ := c.d.def_ 12 (d := dD "_directly_above" sAbove) rfl
  have F12 : FnP K "_directly_above" sAbove (He.ga K "_directly_above") d12 := f12
  obtain ⟨d13, f13⟩ := c.d.def_ 13 (d := dD "_find_upstream" sUp) rfl
  have F13 : FnP K "_find_upstream" sUp (He.ga K "_find_upstream") d13 := f13
  obtain ⟨d14, f14⟩ := c.d.def_ 14 (d := dD "_order_by_depth" sOrder) rfl
  have F14 : FnP K "_order_by_depth" sOrder (He.ga K "_order_by_depth") d14 := f14
  obtain ⟨d15, f15⟩ := c.d.def_ 15 (d := dA "is_row_rivers" "_is_row" sIsRow) rfl
  have F15 : FnP K "_is_row" sIsRow (He.ga K "is_row_rivers") d15 := f15
  obtain ⟨d16, f16⟩ := c.d.def_ 16 (d := dA "need_rows_rivers" "_need_rows" sNeedRows) rfl
  have F16 : FnP K "_need_rows" sNeedRows (He.ga K "need_rows_rivers") d16 := f16
  obtain ⟨d17, f17⟩ := c.d.def_ 17 (d := dA "is_row_rights" "_is_row" sIsRowR) rfl
  have F17 : FnP K "_is_row" sIsRowR (He.ga K "is_row_rights") d17 := f17
  obtain ⟨d18, f18⟩ := c.d.def_ 18 (d := dA "need_rows_rights" "_need_rows" sNeedRowsR) rfl
  have F18 : FnP K "_need_rows" sNeedRowsR (He.ga K "need_rows_rights") d18 := f18
  obtain ⟨d19, f19⟩ := c.d.def_ 19 (d := dM "River" "__init__" "River.__init__" sInit) rfl
  have F19 : FnM K "__init__" "River.__init__" sInit (He.ma K (He.ga K "River") "__init__") d19 := f19
  obtain ⟨d20, f20⟩ := c.d.def_ 20 (d := dM "River" "__contains__" "River.__contains__" sContains) rfl
  have F20 : FnM K "__contains__" "River.__contains__" sContains (He.ma K (He.ga K "River") "__contains__") d20 := f20
  obtain ⟨d21, f21⟩ := c.d.def_ 21 (d := dM "River" "__eq__" "River.__eq__" sEq) rfl
  have F21 : FnM K "__eq__" "River.__eq__" sEq (He.ma K (He.ga K "River") "__eq__") d21 := f21
  obtain ⟨d22, f22⟩ := c.d.def_ 22 (d := dM "River" "is_down" "River.is_down" sIsDown) rfl
  have F22 : FnM K "is_down" "River.is_down" sIsDown (He.ma K (He.ga K "River") "is_down") d22 := f22
  obtain ⟨d23, f23⟩ := c.d.def_ 23 (d := dM "River" "way" "River.way" sWay) rfl
  have F23 : FnM K "way" "River.way" sWay (He.ma K (He.ga K "River") "way") d23 := f23
  obtain ⟨d24, f24⟩ := c.d.def_ 24 (d := dM "Rights" "__init__" "Rights.__init__" sGInit) rfl
  have F24 : FnM K "__init__" "Rights.__init__" sGInit (He.ma K (He.ga K "Rights") "__init__") d24 := f24
  obtain ⟨d25, f25⟩ := c.d.def_ 25 (d := dM "Rights" "__contains__" "Rights.__contains__" sGContains) rfl
  have F25 : FnM K "__contains__" "Rights.__contains__" sGContains (He.ma K (He.ga K "Rights") "__contains__") d25 := f25
  obtain ⟨d26, f26⟩ := c.d.def_ 26 (d := dM "Rights" "__eq__" "Rights.__eq__" sGEq) rfl
  have F26 : FnM K "__eq__" "Rights.__eq__" sGEq (He.ma K (He.ga K "Rights") "__eq__") d26 := f26
  obtain ⟨d27, f27⟩ := c.d.def_ 27 (d := dM "Rights" "_those_over" "Rights._those_over" sThose) rfl
  have F27 : FnM K "_those_over" "Rights._those_over" sThose (He.ma K (He.ga K "Rights") "_those_over") d27 := f27
  obtain ⟨d28, f28⟩ := c.d.def_ 28 (d := dMK "Day" "__init__" "Day.__init__" sDInit [("call", .int 0), ("water", .int 0)]) rfl
  have F28 : FnDI K (He.ma K (He.ga K "Day") "__init__") d28 := f28
  obtain ⟨d29, f29⟩ := c.d.def_ 29 (d := dM "Day" "__eq__" "Day.__eq__" sDEq) rfl
  have F29 : FnM K "__eq__" "Day.__eq__" sDEq (He.ma K (He.ga K "Day") "__eq__") d29 := f29
  obtain ⟨d30, f30⟩ := c.d.def_ 30 (d := dM "Day" "calls" "Day.calls" sDCalls) rfl
  have F30 : FnM K "calls" "Day.calls" sDCalls (He.ma K (He.ga K "Day") "calls") d30 := f30
  obtain ⟨d31, f31⟩ := c.d.def_ 31 (d := dM "Day" "waters" "Day.waters" sDWaters) rfl
  have F31 : FnM K "waters" "Day.waters" sDWaters (He.ma K (He.ga K "Day") "waters") d31 := f31
  obtain ⟨d32, f32⟩ := c.d.def_ 32 (d := dD "_law_bag" sBag) rfl
  have F32 : FnP K "_law_bag" sBag (He.ga K "_law_bag") d32 := f32
  obtain ⟨d33, f33⟩ := c.d.def_ 33 (d := dD "_law_take" sTake) rfl
  have F33 : FnP K "_law_take" sTake (He.ga K "_law_take") d33 := f33
  obtain ⟨d34, f34⟩ := c.d.def_ 34 (d := dD "_law_of" sOf) rfl
  have F34 : FnP K "_law_of" sOf (He.ga K "_law_of") d34 := f34
  obtain ⟨d35, f35⟩ := c.d.def_ 35 (d := dD "_law_mixed" sMixed) rfl
  have F35 : FnP K "_law_mixed" sMixed (He.ga K "_law_mixed") d35 := f35
  obtain ⟨d36, f36⟩ := c.d.def_ 36 (d := dD "_law_names" sNames) rfl
  have F36 : FnP K "_law_names" sNames (He.ga K "_law_names") d36 := f36
  obtain ⟨d37, f37⟩ := c.d.def_ 37 (d := dD "_law_river" sLRiver) rfl
  have F37 : FnP K "_law_river" sLRiver (He.ga K "_law_river") d37 := f37
  obtain ⟨d38, f38⟩ := c.d.def_ 38 (d := dD "_law_course" sLCourse) rfl
  have F38 : FnP K "_law_course" sLCourse (He.ga K "_law_course") d38 := f38
  obtain ⟨d39, f39⟩ := c.d.def_ 39 (d := dD "_law_rights" sLRights) rfl
  have F39 : FnP K "_law_rights" sLRights (He.ga K "_law_rights") d39 := f39
  obtain ⟨d40, f40⟩ := c.d.def_ 40 (d := dD "_law_cubes" sLCubes) rfl
  have F40 : FnP K "_law_cubes" sLCubes (He.ga K "_law_cubes") d40 := f40
  obtain ⟨d41, f41⟩ := c.d.def_ 41 (d := dD "_law_amounts" sLAmounts) rfl
  have F41 : FnP K "_law_amounts" sLAmounts (He.ga K "_law_amounts") d41 := f41
  obtain ⟨d42, f42⟩ := c.d.def_ 42 (d := dD "_law_size" sLSize) rfl
  have F42 : FnP K "_law_size" sLSize (He.ga K "_law_size") d42 := f42
  obtain ⟨d43, f43⟩ := c.d.def_ 43 (d := dD "_law_lines" sLLines) rfl
  have F43 : FnP K "_law_lines" sLLines (He.ga K "_law_lines") d43 := f43
  obtain ⟨d44, f44⟩ := c.d.def_ 44 (d := dD "_law_read" sLRead) rfl
  have F44 : FnP K "_law_read" sLRead (He.ga K "_law_read") d44 := f44
  obtain ⟨d45, f45⟩ := c.d.def_ 45 (d := dD "_law_number" sLNumber) rfl
  have F45 : FnP K "_law_number" sLNumber (He.ga K "_law_number") d45 := f45
  obtain ⟨d46, f46⟩ := c.d.def_ 46 (d := dD "_law_wrong" sLWrong) rfl
  have F46 : FnP K "_law_wrong" sLWrong (He.ga K "_law_wrong") d46 := f46
  obtain ⟨d47, f47⟩ := c.d.def_ 47 (d := dD "law" sLaw) rfl
  have F47 : FnP K "law" sLaw (He.ga K "law") d47 := f47
  have hx := c.more
  obtain ⟨sp_has_r, hx⟩ := He.ba hx
  obtain ⟨sp_eq_r, hx⟩ := He.ba hx
  obtain ⟨sp_has_g, hx⟩ := He.ba hx
  obtain ⟨sp_eq_g, hx⟩ := He.ba hx
  obtain ⟨sp_eq_d, hx⟩ := He.ba hx
  obtain ⟨ri_r, hx⟩ := He.ba hx
  obtain ⟨ri_g, hx⟩ := He.ba hx
  obtain ⟨ri_d, hx⟩ := He.ba hx
  obtain ⟨ty_r, hx⟩ := He.ba hx
  obtain ⟨ty_g, hx⟩ := He.ba hx
  obtain ⟨nf_r, hx⟩ := He.ba hx
  obtain ⟨nf_g, hx⟩ := He.ba hx
  obtain ⟨nf_d, hx⟩ := He.ba hx
  obtain ⟨k_t, hx⟩ := He.ba hx
  obtain ⟨ri_t, hx⟩ := He.ba hx
  obtain ⟨cl_t, hx⟩ := He.ba hx
  obtain ⟨er_t, hx⟩ := He.ba hx
  obtain ⟨in_t, hx⟩ := He.ba hx
  obtain ⟨xf_t, hx⟩ := He.ba hx
  have y_t := y_at c 0 (q := ("NotText", "NotText.__init__", sNTx)) rfl
  obtain ⟨e1t, hx0⟩ := He.ba er_t
  obtain ⟨e2t, hx0⟩ := He.ba hx0
  obtain ⟨e3t, hx0⟩ := He.ba hx0
  obtain ⟨e4t, hx0⟩ := He.ba hx0
  obtain ⟨e5t, hx0⟩ := He.ba hx0
  obtain ⟨e6t, hx0⟩ := He.ba hx0
  obtain ⟨e7t, hx0⟩ := He.ba hx0
  obtain ⟨e8t, hx0⟩ := He.ba hx0
  obtain ⟨e9t, e10t⟩ := He.ba hx0
  obtain ⟨n1t, n'⟩ := He.ba xf_t
  obtain ⟨n2t, n3t⟩ := He.ba n'
  obtain ⟨fdnt, oct, odt, doct, pmt, cdat, ctt, cct, oslt, ent, lknt, cdnt, flt, clt⟩ := sup_ok (c := "NotText") (qual := "NotText.__init__") (st := sNTx) y_t in_t
  obtain ⟨s_has_r, t_has_r⟩ := spB_ok sp_has_r
  obtain ⟨s_eq_r, t_eq_r⟩ := spB_ok sp_eq_r
  obtain ⟨s_has_g, t_has_g⟩ := spB_ok sp_has_g
  obtain ⟨s_eq_g, t_eq_g⟩ := spB_ok sp_eq_g
  obtain ⟨s_eq_d, t_eq_d⟩ := spB_ok sp_eq_d
  obtain ⟨r1r, hx0⟩ := He.ba ri_r
  obtain ⟨r2r, hx0⟩ := He.ba hx0
  obtain ⟨r3r, r4r⟩ := He.ba hx0
  obtain ⟨r1g, hx0⟩ := He.ba ri_g
  obtain ⟨r2g, hx0⟩ := He.ba hx0
  obtain ⟨r3g, r4g⟩ := He.ba hx0
  obtain ⟨r1d, hx0⟩ := He.ba ri_d
  obtain ⟨r2d, hx0⟩ := He.ba hx0
  obtain ⟨r3d, r4d⟩ := He.ba hx0
  obtain ⟨r1t, hx0⟩ := He.ba ri_t
  obtain ⟨r2t, hx0⟩ := He.ba hx0
  obtain ⟨r3t, r4t⟩ := He.ba hx0
  have B : Bl mg := ⟨(He.free_ok X G (c.d.fact 39 (f := .free "len") rfl)), (He.free_ok X G (c.d.fact 40 (f := .free "enumerate") rfl)), (He.free_ok X G (c.d.fact 41 (f := .free "int") rfl)), (He.free_ok X G (c.d.fact 42 (f := .free "abs") rfl)), (He.free_ok X G (c.d.fact 43 (f := .free "list") rfl)), (He.free_ok X G (c.d.fact 44 (f := .free "range") rfl)), (He.free_ok X G (c.d.fact 45 (f := .free "dict") rfl)), (He.free_ok X G (c.d.fact 46 (f := .free "tuple") rfl)), (He.free_ok X G (c.d.fact 47 (f := .free "isinstance") rfl)), (He.free_ok X G (c.d.fact 48 (f := .free "str") rfl)), (He.free_ok X G (c.d.fact 49 (f := .free "all") rfl)), (He.free_ok X G (c.d.fact 50 (f := .free "any") rfl)), (He.free_ok X G (c.d.fact 51 (f := .free "bool") rfl)), (He.free_ok X G (c.d.fact 52 (f := .free "sorted") rfl)), (He.free_ok X G (c.d.fact 53 (f := .free "max") rfl)), (He.free_ok X G (c.d.fact 54 (f := .free "min") rfl)), (He.free_ok X G (c.d.fact 55 (f := .free "iter") rfl)), (He.free_ok X G (c.d.fact 56 (f := .free "super") rfl)), (He.free_ok X G (c.d.fact 57 (f := .free "ValueError") rfl)), (He.free_ok X G (c.d.fact 58 (f := .free "sum") rfl))⟩
  have hnot := (He.noat_ok (c.d.fact 71 (f := .noat "NotText" "line") rfl))
  have Ot : OexC K (He.ga K "NotText") := ⟨cls_ok2 cl_t, He.eqO_ok e1t, of_decide_eq_true e2t, of_decide_eq_true e3t, e4t⟩
  have SFt : SupF PP K mg (He.ga K "NotText") "__init__" "NotText.__init__" (defArgs sNTx) (defBody sNTx) (defScope sNTx) (He.ma K (He.ga K "NotText") "__init__") fdnt := ⟨⟨oct, odt, doct, pmt, cdat, ctt, cct, oslt, ent, lknt, cdnt, flt, clt⟩, by decide +kernel, Ot, of_decide_eq_true e5t, of_decide_eq_true e6t, He.eqO_ok e7t, He.eqO_ok e8t, B.super⟩
  obtain ⟨tS, eS⟩ := He.str_ok X G (c.d.fact 59 (f := .str "SEA" "sea") rfl)
  obtain ⟨tM, eM⟩ := He.int_ok X G (c.d.fact 60 (f := .int "MOST_ROWS" 40) rfl)
  obtain ⟨tL, eL⟩ := He.int_ok X G (c.d.fact 61 (f := .int "LONGEST_NAME" 8) rfl)
  obtain ⟨tN, eN⟩ := He.int_ok X G (c.d.fact 62 (f := .int "LONGEST_NUMERAL" 31) rfl)
  obtain ⟨tC, eC⟩ := He.int_ok X G (c.d.fact 63 (f := .int "MOST_CUBES" 1000000000000000000000000000000) rfl)
  have C : Gc mg tS tM tL := ⟨eS, eM, eL⟩
  have T : Rv K mg (He.ga K "River") := ⟨He.cls_ok (c.d.fact 64 (f := .cls "River") rfl), (He.noat_ok (c.d.fact 72 (f := .noat "River" "weirs") rfl)), (He.noat_ok (c.d.fact 73 (f := .noat "River" "_rows") rfl)), (He.noat_ok (c.d.fact 74 (f := .noat "River" "_below") rfl)), (He.noat_ok (c.d.fact 75 (f := .noat "River" "_courses") rfl)), (He.noat_ok (c.d.fact 76 (f := .noat "River" "_above") rfl)), (He.noat_ok (c.d.fact 77 (f := .noat "River" "_upstream") rfl)), (He.noat_ok (c.d.fact 78 (f := .noat "River" "_deepest_first") rfl)), (He.glo_ok X G (c.d.fact 17 (f := .glo "River") rfl))⟩
  have TG : Rg K mg (He.ga K "Rights") := ⟨He.cls_ok (c.d.fact 66 (f := .cls "Rights") rfl), (He.noat_ok (c.d.fact 79 (f := .noat "Rights" "river") rfl)), (He.noat_ok (c.d.fact 80 (f := .noat "Rights" "names") rfl)), (He.noat_ok (c.d.fact 81 (f := .noat "Rights" "_rows") rfl)), (He.noat_ok (c.d.fact 82 (f := .noat "Rights" "_ways") rfl)), (He.noat_ok (c.d.fact 83 (f := .noat "Rights" "_lasts") rfl)), (He.noat_ok (c.d.fact 84 (f := .noat "Rights" "_passing") rfl)), (He.glo_ok X G (c.d.fact 20 (f := .glo "Rights") rfl))⟩
  have TD : Dv1 K mg (He.ga K "Day") := ⟨He.cls_ok (c.d.fact 68 (f := .cls "Day") rfl), (He.noat_ok (c.d.fact 85 (f := .noat "Day" "rights") rfl)), (He.noat_ok (c.d.fact 86 (f := .noat "Day" "_calls") rfl)), (He.noat_ok (c.d.fact 87 (f := .noat "Day" "_waters") rfl)), (He.glo_ok X G (c.d.fact 5 (f := .glo "Day") rfl))⟩
  have S : Sc K (He.ga K "River") := ⟨⟨_, _, F20, s_has_r, t_has_r⟩⟩
  have SG : Gm K (He.ga K "Rights") := ⟨⟨_, _, F25, s_has_g, t_has_g⟩⟩
  have Ir : Ri K (He.ga K "River") := ⟨He.eqO_ok r1r, He.eqO_ok r2r, of_decide_eq_true r3r, of_decide_eq_true r4r⟩
  have Ig : Ri K (He.ga K "Rights") := ⟨He.eqO_ok r1g, He.eqO_ok r2g, of_decide_eq_true r3g, of_decide_eq_true r4g⟩
  have Id : Ri K (He.ga K "Day") := ⟨He.eqO_ok r1d, He.eqO_ok r2d, of_decide_eq_true r3d, of_decide_eq_true r4d⟩
  have JQ : Rq K (He.ga K "River") := ⟨⟨_, _, F21, s_eq_r, t_eq_r⟩, nf_r, Ir, of_decide_eq_true ty_r⟩
  have Mfr : Mf K mg := ⟨⟨_, _, F9, (He.glo_ok X G (c.d.fact 9 (f := .glo "is_name") rfl))⟩, ⟨_, _, F15, (He.glo_ok X G (c.d.fact 10 (f := .glo "is_row_rivers") rfl))⟩, ⟨_, _, F16, (He.glo_ok X G (c.d.fact 11 (f := .glo "need_rows_rivers") rfl))⟩, ⟨_, _, F10, (He.glo_ok X G (c.d.fact 12 (f := .glo "_course") rfl))⟩, ⟨_, _, F11, (He.glo_ok X G (c.d.fact 13 (f := .glo "_find_courses") rfl))⟩, ⟨_, _, F12, (He.glo_ok X G (c.d.fact 14 (f := .glo "_directly_above") rfl))⟩, ⟨_, _, F13, (He.glo_ok X G (c.d.fact 15 (f := .glo "_find_upstream") rfl))⟩, ⟨_, _, F14, (He.glo_ok X G (c.d.fact 16 (f := .glo "_order_by_depth") rfl))⟩⟩
  have HH : Hf K mg := ⟨B, ⟨_, _, F33, (He.glo_ok X G (c.d.fact 24 (f := .glo "_law_take") rfl))⟩, ⟨_, _, F34, (He.glo_ok X G (c.d.fact 25 (f := .glo "_law_of") rfl))⟩, ⟨_, _, F35, (He.glo_ok X G (c.d.fact 26 (f := .glo "_law_mixed") rfl))⟩, ⟨_, _, F36, (He.glo_ok X G (c.d.fact 27 (f := .glo "_law_names") rfl))⟩⟩
  have NT : NpT PP K mg (He.ga K "NotText") (He.ma K (He.ga K "NotText") "__init__") fdnt := ⟨SFt, hnot, He.eqO_ok e9t, of_decide_eq_true e10t, (He.glo_ok X G (c.d.fact 22 (f := .glo "NotText") rfl))⟩
  have RT : Te K mg (He.ga K "NotText") := ⟨⟨He.eqO_ok n1t, He.eqO_ok n2t, of_decide_eq_true e2t, n3t⟩, hnot, (He.glo_ok X G (c.d.fact 22 (f := .glo "NotText") rfl)), (He.exm_ok (c.d.fact 70 (f := .exm "NotText" "NotText" true) rfl))⟩
  refine ⟨tS, tM, tL, tN, tC, fun base => ?_⟩
  have DW : NdS PP w K mg base (He.ga K "River") := ⟨⟨_, _, F8, (He.glo_ok X G (c.d.fact 21 (f := .glo "need_weir") rfl)), ok_needS F8 S T B⟩⟩
  have Gg : Mg PP w K mg base (He.ga K "Rights") (He.ga K "River") := ⟨⟨_, _, F9, (He.glo_ok X G (c.d.fact 9 (f := .glo "is_name") rfl))⟩, ⟨_, _, F17, (He.glo_ok X G (c.d.fact 18 (f := .glo "is_row_rights") rfl))⟩, ⟨_, _, F18, (He.glo_ok X G (c.d.fact 19 (f := .glo "need_rows_rights") rfl))⟩, ⟨_, _, F22, He.meth_ok (c.d.fact 88 (f := .meth "River" "is_down") rfl)⟩, ⟨_, _, F23, He.meth_ok (c.d.fact 89 (f := .meth "River" "way") rfl)⟩, ⟨_, _, F27, He.meth_ok (c.d.fact 90 (f := .meth "Rights" "_those_over") rfl)⟩, DW, S⟩
  exact ⟨B, C, eN, eC, T, TG, TD, S, SG, ⟨_, _, F19, He.mkr_ok (c.d.fact 65 (f := .mkr "River") rfl)⟩, ⟨_, _, F24, He.mkr_ok (c.d.fact 67 (f := .mkr "Rights") rfl)⟩, ⟨_, _, F28, He.mkr_ok (c.d.fact 69 (f := .mkr "Day") rfl)⟩, ⟨_, _, F30, He.meth_ok (c.d.fact 91 (f := .meth "Day" "calls") rfl)⟩, ⟨_, _, F31, He.meth_ok (c.d.fact 92 (f := .meth "Day" "waters") rfl)⟩, Mfr, Gg, ⟨_, _, NT⟩, ⟨_, _, F26, s_eq_g, t_eq_g⟩, ⟨_, _, F29, s_eq_d, t_eq_d⟩, Ig, Id, of_decide_eq_true ty_g, nf_g, nf_d, of_decide_eq_true k_t, JQ, RT, HH, ⟨_, _, F0, (He.glo_ok X G (c.d.fact 0 (f := .glo "is_natural") rfl))⟩, ⟨_, _, F1, (He.glo_ok X G (c.d.fact 1 (f := .glo "is_whole") rfl))⟩, ⟨_, _, F2, (He.glo_ok X G (c.d.fact 2 (f := .glo "is_cubes") rfl))⟩, ⟨_, _, F3, (He.glo_ok X G (c.d.fact 3 (f := .glo "is_numeral") rfl))⟩, ⟨_, _, F4, (He.glo_ok X G (c.d.fact 4 (f := .glo "_need_cubes") rfl))⟩, ⟨_, _, F5, (He.glo_ok X G (c.d.fact 6 (f := .glo "_is_line") rfl))⟩, ⟨_, _, F6, (He.glo_ok X G (c.d.fact 7 (f := .glo "read_day") rfl))⟩, ⟨_, _, F7, (He.glo_ok X G (c.d.fact 8 (f := .glo "write_day") rfl))⟩, ⟨_, _, F32, (He.glo_ok X G (c.d.fact 23 (f := .glo "_law_bag") rfl))⟩, ⟨_, _, F37, (He.glo_ok X G (c.d.fact 28 (f := .glo "_law_river") rfl))⟩, ⟨_, _, F38, (He.glo_ok X G (c.d.fact 29 (f := .glo "_law_course") rfl))⟩, ⟨_, _, F39, (He.glo_ok X G (c.d.fact 30 (f := .glo "_law_rights") rfl))⟩, ⟨_, _, F40, (He.glo_ok X G (c.d.fact 31 (f := .glo "_law_cubes") rfl))⟩, ⟨_, _, F41, (He.glo_ok X G (c.d.fact 32 (f := .glo "_law_amounts") rfl))⟩, ⟨_, _, F42, (He.glo_ok X G (c.d.fact 33 (f := .glo "_law_size") rfl))⟩, ⟨_, _, F43, (He.glo_ok X G (c.d.fact 34 (f := .glo "_law_lines") rfl))⟩, ⟨_, _, F44, (He.glo_ok X G (c.d.fact 35 (f := .glo "_law_read") rfl))⟩, ⟨_, _, F45, (He.glo_ok X G (c.d.fact 36 (f := .glo "_law_number") rfl))⟩, ⟨_, _, F46, (He.glo_ok X G (c.d.fact 37 (f := .glo "_law_wrong") rfl))⟩⟩
theorem facts {w : World} {K : Frag} {h : Heap} {mg : Str → Option Value} {f : Addr} (X : K.In h) (G : h.Ns mainGlobals mg) (hfa : mg ("law" : Str) = some (.ref f)) (c : SaysY w h K) : LawAtS PySem.Challenge.rw_weirkeepers_k43_days_as_texts w K CX0 9 63 "_law_script" mg f h := by
  obtain ⟨fd, fL⟩ := c.d.def_ 47 (d := dD "law" sLaw) rfl
  have e := hfa.symm.trans (He.glo_ok X G (c.d.fact 38 (f := .glo "law") rfl))
  cases e
  have F : FnP K "law" sLaw (He.ga K "law") fd := fL
  have b := FunD.bindsA (ps := ["_law_script"]) F fun _ _ _ _ _ _ us hl => match us, hl with | [_], _ => rfl
  refine ⟨fd, [], spLaw K, fun p hp => absurd hp List.not_mem_nil, fun p hp => absurd hp List.not_mem_nil, fun p hp => absurd hp List.not_mem_nil, fun s u => b s [u] rfl, fun H a ns hl _ hT hS => ⟨a, ns, rfl, hS, hl, fun _ => rfl⟩, fun base KX _ TB => ?_⟩
  obtain ⟨tS, tM, tL, tN, tC, hA⟩ := all_ok (w := w) X G c
  exact ok_lawA F (hA base)
end K0H
open PySem PySem.W PySem.Calls PyProof.Rows
theorem PySem.Challenge.cw_weirkeepers_k43_days_as_texts_holds : PySem.Challenge.rw_weirkeepers_k43_days_as_texts.Holds := by
  w_on; o_law
  refine HandSHeadRun.head_any (r := OpenLaw.row PySem.Challenge.rw_weirkeepers_k43_days_as_texts) (q := view (OpenLaw.row PySem.Challenge.rw_weirkeepers_k43_days_as_texts).prog [63]) (H := K0H.hk 4) (ob := K0H.ob) (M := 6000) (loose := K0H.loose) (d := HandSHeadRun.topDef (OpenLaw.row PySem.Challenge.rw_weirkeepers_k43_days_as_texts).prog 63) (kwd := []) K0H.ob_eq
    (by kernel_rfl) (fun s => by kernel_rfl) K0H.run (by kernel_rfl) (by kernel_rfl) (by kernel_rfl) (by rfl) (by first | assumption | decide +kernel) (by decide +kernel) ⟨rfl, rfl, rfl, rfl, rfl, by decide +kernel⟩ ?hw ?hc
  case hw => w_witness2
  case hc =>
    refine LamX.walk_ofTsE (l := PySem.Challenge.rw_weirkeepers_k43_days_as_texts) (n := 63) (k := 9) (x := "_law_script") (CX := fun _ => L2.CX0) rfl (by decide) (by kernel_rfl) ⟨rfl, by decide, by decide⟩ ?F (fun _ _ _ _ _ z => z)
    intro w mg fa h Y G hmg0
    obtain ⟨K, KX, c⟩ := Y
    have hmg : mg ("law" : PySem.Str) = some (.ref fa) := by
      have e : (HandSHeadRun.topDef (OpenLaw.row PySem.Challenge.rw_weirkeepers_k43_days_as_texts).prog 63).name = ("law" : PySem.Str) := by kernel_rfl
      rw [← e]
      exact hmg0
    exact ⟨K, KX, K0H.facts KX G hmg c⟩
end
