import PyProof.Rows.All
import Wide.All
import OpenK.AllK
import Wide.FinOn
import HandS.ForMost
import HandS.Defaults
import HandS.Walk
import PySem.Challenge.RW_weirkeepers_k02_ways_and_junctions
import PySem.Str
import HandS.DictComp
import HandS.IsInst
import HandS.Flow
import KE.GoesEnum
import HandS.TupSets
import HandS.IterVal
import HandS.OwnEq
import KE.KOwnIter
import PyProof.FString
import PyProof.FString4
import HandS.FStr
import HandS.FStrTup
import PyProof.ReprHeadsEmpty
import PyProof.ReprLen
import HandS.ExcInit
import HandS.Nested
import KE.KSuper
import KE.KExcSuper
import HandS.Strs
import HandS.TupAny
import HandS.ExcIs
import HandS.ExcField
import HandS.TryOnly
import HandS.Lambda
import KE.KExcIs
import HandS.TryMany
import HandS.GenList
import KE.KStateDown
import Lean
import HandS.Ends
import HandS.More
import HandS.Words
import HandS.WordsExc
import HandS.Head0
import HandS.Head1
import HandS.Head2
import HandS.HeadEnd
import HandS.HeadHook1
import HandS.HeadHook2
import HandS.HeadHook3
import HandS.HeadHook4
import HandS.HeadWalk

/-! ## K0T -/
section
set_option Elab.async false
set_option linter.all false
set_option maxRecDepth 100000
namespace K0
open PySem PySem.Spec PyProof.Rows L2
/-! ### the text by places -/
def top (i : Nat) : Stmt := PySem.Challenge.pw_weirkeepers_k02_ways_and_junctions.main.body.getD i (.Pass ⟨0, 0, 0, 0⟩)
abbrev sNeed : Stmt := top 7
abbrev sIsName : Stmt := top 12
abbrev sIsRow : Stmt := top 13
abbrev sNeedRows : Stmt := top 14
abbrev sCourse : Stmt := top 15
abbrev sFind : Stmt := top 16
abbrev sAbove : Stmt := top 17
abbrev sUp : Stmt := top 18
abbrev sOrder : Stmt := top 19
abbrev sRiver : Stmt := top 20
abbrev sBag : Stmt := top 22
abbrev sTake : Stmt := top 23
abbrev sOf : Stmt := top 24
abbrev sMixed : Stmt := top 25
abbrev sNames : Stmt := top 26
abbrev sLRiver : Stmt := top 27
abbrev sLCourse : Stmt := top 28
abbrev sRefusal : Stmt := top 29
abbrev sPairs : Stmt := top 30
abbrev sPair : Stmt := top 31
abbrev sOrderR : Stmt := top 32
abbrev sRefuses : Stmt := top 33
abbrev sLaw : Stmt := top 34
abbrev FnP (K : PySem.W.Frag) (x : Str) (st : Stmt) (f : Addr) (fd : FuncData) : Prop := FunD K x x (defArgs st) (defBody st) (defScope st) [] [] f fd
abbrev FnM (K : PySem.W.Frag) (x q : Str) (st : Stmt) (f : Addr) (fd : FuncData) : Prop := FunD K x q (defArgs st) (defBody st) (defScope st) [] [] f fd
/-! ### heaps -/
/-- all that was tracked is as it was, but what stands at p -/
def Upto (p : Addr) (H H' : Hp) : Prop := ∀ b o, H b = some o → b ≠ p → H' b = some o
theorem Upto.refl {p : Addr} {H : Hp} : Upto p H H := fun _ _ h _ => h
theorem Upto.trans {p : Addr} {H H1 H2 : Hp} (a : Upto p H H1) (b : Upto p H1 H2) : Upto p H H2 := fun c o h n => b c o (a c o h n) n
theorem Upto.of {p : Addr} {H H' : Hp} (s : Same H H') : Upto p H H' := fun b o h _ => s b o h
theorem Upto.at_ {p : Addr} {H : Hp} {o : HO} : Upto p H (upd H p o) := fun b u h n => by rw [upd_ne n]; exact h
theorem same_upd {H : Hp} {p : Addr} {o : HO} (h : H p = none) : Same H (upd H p o) := fun b x e => by
  rw [upd_ne (ne_of_none e h)]
  exact e
theorem Upto.seq {K : PySem.W.Frag} {p : Addr} {H H' : Hp} {a : Addr} {xs : List V} (e : Upto p H H') (n : a ≠ p) (h : SqL K H a xs) : SqL K H' a xs := by
  rcases h with (h | ⟨o, h⟩) | h
  · exact .inl (.inl (e _ _ h n))
  · exact .inl (.inr ⟨o, e _ _ h n⟩)
  · exact .inr h
/-- the bag: two whole numbers from 0 on -/
def BagV (xs : List V) : Prop := ∃ x y : Int, xs = [.int x, .int y] ∧ 0 ≤ x ∧ 0 ≤ y ∧ y < 2147483648
def BagAt (H : Hp) (p : Addr) : Prop := ∃ xs, H p = some (.lst xs) ∧ BagV xs
/-! ### promises of the law's own helpers -/
def spBag (K : PySem.W.Frag) : Sp := fun vs H Q _ => ∃ (a : Addr) (ns : List Int) (i z : Int), vs = [.ref a, .int i, .int z] ∧ SqL K H a (ns.map V.int) ∧ ns.length ≤ 63 ∧ 0 ≤ i ∧ i ≤ 100 ∧ 0 ≤ z ∧ z ≤ 100000000 ∧
  ∀ H' p, Same H H' → H p = none → BagAt H' p → Q (.ref p) H'
def spTake : Sp := fun vs H Q _ => ∃ (p : Addr) (m : Int), vs = [.ref p, .int m] ∧ BagAt H p ∧ 0 < m ∧ m < 1000000 ∧
  ∀ (r : Int) (xs : List V), 0 ≤ r → r < m → BagV xs → Q (.int r) (upd H p (.lst xs))
def spOf (K : PySem.W.Frag) : Sp := fun vs H Q _ => ∃ (p a : Addr) (ys : List V), vs = [.ref p, .ref a] ∧ BagAt H p ∧ a ≠ p ∧ SqL K H a ys ∧ 0 < ys.length ∧ ys.length ≤ 1000 ∧
  ∀ (i : Nat) (v : V) (xs : List V), ys[i]? = some v → BagV xs → Q v (upd H p (.lst xs))
def spMixed (K : PySem.W.Frag) : Sp := fun vs H Q _ => ∃ (p a : Addr) (ys : List V), vs = [.ref p, .ref a] ∧ BagAt H p ∧ a ≠ p ∧ SqL K H a ys ∧ ys.length ≤ 1000 ∧
  ∀ (H' : Hp) (l : Addr) (zs : List V), Upto p H H' → BagAt H' p → H l = none → l ≠ p → H' l = some (.lst zs) → zs.Perm ys → Q (.ref l) H'
section
variable {P : Program} {w : World} {K : PySem.W.Frag} {mg : Str → Option Value} {base : Heap}
theorem scBag : FnScope ["_law_script", "_law_at", "_law_salt", "_law_cell", "_law_blend", "_law_k", "_law_each"] ["_law_script", "_law_at", "_law_salt"] (defScope sBag) := ⟨rfl, rfl, rfl, by decide +kernel, rfl, by decide +kernel, by decide +kernel⟩
theorem scTake : FnScope ["_law_bag_here", "_law_many", "_law_digit"] ["_law_bag_here", "_law_many"] (defScope sTake) := ⟨rfl, rfl, rfl, by decide +kernel, rfl, by decide +kernel, by decide +kernel⟩
theorem scOf : FnScope ["_law_bag_here", "_law_some"] ["_law_bag_here", "_law_some"] (defScope sOf) := ⟨rfl, rfl, rfl, by decide +kernel, rfl, by decide +kernel, by decide +kernel⟩
theorem scMixed : FnScope ["_law_bag_here", "_law_some", "_law_rest", "_law_found", "_law_k"] ["_law_bag_here", "_law_some"] (defScope sMixed) := ⟨rfl, rfl, rfl, by decide +kernel, rfl, by decide +kernel, by decide +kernel⟩
/-- built-in names that the module leaves alone -/
structure Bl (mg : Str → Option Value) : Prop where
  len : mg "len" = none
  enumerate : mg "enumerate" = none
  int : mg "int" = none
  abs : mg "abs" = none
  list : mg "list" = none
  range : mg "range" = none
  dict : mg "dict" = none
  tuple : mg "tuple" = none
  isinstance : mg "isinstance" = none
  str : mg "str" = none
  all : mg "all" = none
  any : mg "any" = none
  bool : mg "bool" = none
  sorted : mg "sorted" = none
  max : mg "max" = none
  min : mg "min" = none
  iter : mg "iter" = none
  super : mg "super" = none
  valueError : mg "ValueError" = none
end
end K0
end

/-! ## K0A -/
section
set_option Elab.async false
set_option linter.all false
set_option maxRecDepth 100000
namespace K0
open PySem PySem.Spec PyProof.Rows L2
section
variable {P : Program} {w : World} {K : PySem.W.Frag} {mg : Str → Option Value} {base : Heap}
theorem mod_ok (x : Int) {m : Int} (h : 0 < m) : 0 ≤ x % m ∧ x % m < m := ⟨Int.emod_nonneg _ (by omega), Int.emod_lt_of_pos _ h⟩
theorem perm_move {α : Type} {rs fs : List α} {j : Nat} (hj : j < rs.length) : (rs.eraseIdx j ++ (fs ++ [rs[j]])).Perm (rs ++ fs) := by
  have h1 : (rs[j] :: rs.eraseIdx j).Perm rs := by
    have e : rs = rs.take j ++ rs[j] :: rs.drop (j + 1) := by
      rw [List.getElem_cons_drop, List.take_append_drop]
    rw [List.eraseIdx_eq_take_drop_succ]
    refine List.Perm.trans List.perm_middle.symm ?_
    rw [← e]
  have h2 : (rs.eraseIdx j ++ (fs ++ [rs[j]])).Perm ([rs[j]] ++ (rs.eraseIdx j ++ fs)) := by
    rw [← List.append_assoc]
    exact List.perm_append_comm
  exact h2.trans ((h1.append_right fs))
theorem ok_take {f : Addr} {fd : FuncData} (F : FnP K "_law_take" sTake f fd) (B : Bl mg) : FnOk P w K mg base CX0 1 f fd ["_law_bag_here", "_law_many"] spTake := by
  refine F.ok scTake (fun vs H Q E h => ?_) (fun cdv A outer s H vs Q E hr h => ?_)
  · obtain ⟨p, m, rfl, _⟩ := h
    rfl
  · obtain ⟨p, m, rfl, ⟨xs, hp, x, y, rfl, hx, hy, hy2⟩, hm, hm2, k⟩ := h
    refine ⟨_, PSs.nox (pss_cons (ps_if (pt_cmpR op_gt (pe_ix ix_list (pv 0) pe_int (fun _ _ => rfl)) pe_int (nomark _))
        (pss_cons (ps_set (i := 2) scTake.nd rfl (Or.inl rfl) (pe_op op_mod (pe_callTy call_int1 (by rfl) B.int (by decide +kernel) (pa_cons (pe_ix ix_list (pv 0) pe_int (fun _ _ => rfl)) pa_nil)) (pv 1)))
        (pss_cons (ps_asg (pe_op op_fdiv (pe_ix ix_list (pv 0) pe_int (fun _ _ => rfl)) (pv 1)) (pg_sub (pv 0) pe_int set_list))
        (pss_one (ps_ret (pv 2))))) pss_nil)
      (pss_cons (ps_asg (pe_op op_mod (pe_callTy call_int1 (by rfl) B.int (by decide +kernel) (pa_cons (pe_op op_add (pe_op op_mul (pe_ix ix_list (pv 0) pe_int (fun _ _ => rfl)) pe_int) pe_int) pa_nil)) pe_int) (pg_sub (pv 0) pe_int set_list))
      (pss_one (ps_ret (pe_op op_mod (pe_op op_fdiv (pe_op op_mod (pe_callTy call_int1 (by rfl) B.int (by decide +kernel) (pa_cons (pe_op op_mul (pe_op op_fdiv (pe_ix ix_list (pv 0) pe_int (fun _ _ => rfl)) pe_int) pe_int) pa_nil)) pe_int) pe_int) (pv 1)))))), ?_⟩
    have g0 : SqL K H p [.int x, .int y] := .inl (.inl hp)
    refine ⟨_, rfl, p, _, _, _, rfl, rfl, g0, atI_nat (j := 0) rfl, x, 0, rfl, rfl, _, rfl, ?_⟩
    refine ite2 (fun hx0 => ?_) (fun hx0 => ?_)
    · have r1 := mod_ok x hm
      refine ⟨_, rfl, p, _, _, _, rfl, rfl, g0, atI_nat (j := 0) rfl, .inl ⟨x, rfl, _, rfl, x, m, rfl, rfl, hm, ?_⟩⟩
      refine ⟨_, rfl, p, _, _, _, rfl, rfl, g0, atI_nat (j := 0) rfl, _, rfl, x, m, rfl, rfl, ⟨hm, by omega⟩, _, rfl, p, _, 0, 0, rfl, rfl, hp, rfl, ?_⟩
      refine ⟨_, rfl, ?_⟩
      exact k (x % m) [.int (x / m), .int y] r1.1 r1.2 ⟨x / m, y, rfl, Int.ediv_nonneg hx (by omega), hy, hy2⟩
    · have r1 := mod_ok (y * 38177 + 4001) (m := 2147483587) (by decide)
      refine ⟨_, rfl, p, _, _, _, rfl, rfl, g0, atI_nat (j := 1) rfl, y, 38177, rfl, rfl, .inl ⟨by omega, by omega⟩, _, _, rfl, rfl, .inl ⟨_, rfl, _, _, rfl, rfl, (by show (0 : Int) < 2147483587; decide), _, rfl, p, _, 1, 1, rfl, rfl, hp, rfl, ?_⟩⟩
      have gz : (upd H p (.lst (([V.int x, .int y] : List V).set 1 (.int ((y * 38177 + 4001) % 2147483587))))) p = some (.lst [.int x, .int ((y * 38177 + 4001) % 2147483587)]) := upd_same
      refine ⟨_, rfl, p, _, _, _, rfl, rfl, .inl (.inl gz), atI_nat (j := 1) rfl, _, 11, rfl, rfl, ⟨by decide, by decide⟩, _, 52817, rfl, rfl, .inl ⟨by omega, by omega⟩, .inl ⟨_, rfl, _, _, rfl, rfl, (by show (0 : Int) < 2147483629; decide), _, _, rfl, rfl, ⟨by decide, by decide⟩, _, rfl, _, m, rfl, rfl, hm, ?_⟩⟩
      have r2 := mod_ok ((y * 38177 + 4001) % 2147483587 / 11 * 52817 % 2147483629 / 32) hm
      exact k _ _ r2.1 r2.2 ⟨x, _, rfl, hx, r1.1, by omega⟩
theorem ok_of {f fT : Addr} {fd fdT : FuncData} (F : FnP K "_law_of" sOf f fd) (FT : FnP K "_law_take" sTake fT fdT) (B : Bl mg) (gT : mg "_law_take" = some (.ref fT)) : FnOk P w K mg base CX0 2 f fd ["_law_bag_here", "_law_some"] (spOf K) := by
  have GT : FnOk P w K mg base CX0 1 fT fdT ["_law_bag_here", "_law_many"] spTake := ok_take FT B
  have bT : Binds K fdT ["_law_bag_here", "_law_many"] [] := FT.bindsN fun _ _ _ _ _ _ us hl => match us, hl with | [_, _], _ => rfl
  refine F.ok scOf (fun vs H Q E h => ?_) (fun cdv A outer s H vs Q E hr h => ?_)
  · obtain ⟨p, a, ys, rfl, _⟩ := h
    rfl
  · obtain ⟨p, a, ys, rfl, hB, hne, hS, h0, h1, k⟩ := h
    refine ⟨_, PSs.nox (pss_one (ps_ret (pe_ix ix_list (pv 1) (pe_call GT hr (by rfl) gT FT.kp bT .nil pass0 (pa_cons (pv 0) (pa_cons (pe_callB call_len_seq (by rfl) B.len PySem.boot_len (pa_cons (pv 1) pa_nil)) pa_nil))) (fun _ _ => rfl)))), ?_⟩
    refine ⟨_, rfl, _, rfl, _, rfl, a, ys, rfl, .inl hS, p, (ys.length : Int), rfl, hB, by omega, by omega, fun r xs hr0 hr1 hx => ?_⟩
    obtain ⟨j, rfl⟩ : ∃ j : Nat, r = (j : Int) := ⟨r.toNat, by omega⟩
    have hj : j < ys.length := by omega
    refine ⟨a, ys, _, ys[j], rfl, rfl, ?_, atI_nat (j := j) (List.getElem?_eq_getElem hj), k j _ xs (List.getElem?_eq_getElem hj) hx⟩
    exact (Upto.at_ (p := p)).seq hne hS
theorem ok_mixed {f fT : Addr} {fd fdT : FuncData} (F : FnP K "_law_mixed" sMixed f fd) (FT : FnP K "_law_take" sTake fT fdT) (B : Bl mg) (gT : mg "_law_take" = some (.ref fT)) : FnOk P w K mg base CX0 2 f fd ["_law_bag_here", "_law_some"] (spMixed K) := by
  have GT : FnOk P w K mg base CX0 1 fT fdT ["_law_bag_here", "_law_many"] spTake := ok_take FT B
  have bT : Binds K fdT ["_law_bag_here", "_law_many"] [] := FT.bindsN fun _ _ _ _ _ _ us hl => match us, hl with | [_, _], _ => rfl
  refine F.ok scMixed (fun vs H Q E h => ?_) (fun cdv A outer s H vs Q E hr h => ?_)
  · obtain ⟨p, a, ys, rfl, _⟩ := h
    rfl
  · obtain ⟨p, a, ys, rfl, hB, hne, hS, h1, k⟩ := h
    refine ⟨_, PSs.nox (pss_cons (ps_par (i := 2) (j := 3) (by rfl) scMixed.nd rfl rfl (by decide) rfl rfl (pa_cons (pe_callTy call_list_of (by rfl) B.list (by decide +kernel) (pa_cons (pv 1) pa_nil)) (pa_cons (pe_lst pa_nil) pa_nil)) (by rfl))
      (pss_cons (ps_for PassesOwn.never rfl (pi_range1 (by rfl) B.range (pa_cons (pe_callB call_len_seq (by rfl) B.len PySem.boot_len (pa_cons (pv 1) pa_nil)) pa_nil)) (pg_name (i := 4) scMixed.nd rfl (Or.inl rfl))
        (pss_one (ps_expr (pe_bm PySem.F.plainAttrs_list PySem.F.slot_list_append PySem.F.type_list_append mt_append (pv 3)
          (pa_cons (pe_bm PySem.F.plainAttrs_list PySem.F.slot_list_pop PySem.F.type_list_pop mt_popAt (pv 2)
            (pa_cons (pe_call GT hr (by rfl) gT FT.kp bT .nil pass0 (pa_cons (pv 0) (pa_cons (pe_callB call_len_seq (by rfl) B.len PySem.boot_len (pa_cons (pv 2) pa_nil)) pa_nil))) pa_nil)) pa_nil)))))
      (pss_one (ps_ret (pv 3))))), ?_⟩
    refine ⟨_, rfl, a, ys, rfl, .inl hS, fun r nr => ⟨Nat.zero_le _, fun l nl => ?_⟩⟩
    have nrl : r ≠ l := ne_of_none upd_same nl
    have nl0 : H l = none := by
      rw [upd_ne nrl.symm] at nl
      exact nl
    obtain ⟨b0, hb0, hv0⟩ := id hB
    have npr : p ≠ r := ne_of_none hb0 nr
    have npl : p ≠ l := ne_of_none hb0 nl0
    have s1 : Same H (upd (upd H r (.lst ys)) l (.lst [])) := (same_upd nr).trans (same_upd nl)
    refine ⟨_, _, rfl, ?_⟩
    refine ⟨_, rfl, a, ys, rfl, .inl (s1.seq hS), (ys.length : Int), rfl, by omega, by omega, ?_⟩
    refine for_range (n := ys.length) (lo := 0) (fun i σ H2 => ∃ (v : Option V) (rs fs : List V), σ = [some (.ref p), some (.ref a), some (.ref r), some (.ref l), v] ∧ Upto p H H2 ∧ BagAt H2 p ∧ H2 r = some (.lst rs) ∧ H2 l = some (.lst fs) ∧ fs.length = i ∧ (rs ++ fs).Perm ys)
      ⟨none, ys, [], rfl, .of s1, ⟨b0, by rw [upd_ne npl, upd_ne npr]; exact hb0, hv0⟩, by rw [upd_ne nrl, upd_same], upd_same, rfl, by rw [List.append_nil]⟩ ?_ ?_
    · rintro i σ H2 hi ⟨v, rs, fs, rfl, u2, B2, hr2, hl2, hlen, hp⟩
      have hlr : rs.length + fs.length = ys.length := by
        have := hp.length_eq
        rw [List.length_append] at this
        exact this
      refine ⟨_, rfl, .inl ⟨rfl, _, .inl (.inl hl2)⟩, _, rfl, .inl ⟨rfl, _, .inl (.inl hr2)⟩, _, rfl, _, rfl, r, rs, rfl, .inl (.inl (.inl hr2)), p, (rs.length : Int), rfl, B2, by omega, by omega, fun d xs hd0 hd1 hx => ?_⟩
      obtain ⟨j, rfl⟩ : ∃ j : Nat, d = (j : Int) := ⟨d.toNat, by omega⟩
      have hj : j < rs.length := by omega
      refine ⟨r, rs, j, j, rs[j], rfl, rfl, by rw [upd_ne npr.symm]; exact hr2, by omega, by omega, ?_, List.getElem?_eq_getElem hj, ?_⟩
      · rw [seqIndex_of (by omega) (by omega)]
        rfl
      · refine ⟨l, fs, rs[j], rfl, rfl, by rw [upd_ne nrl.symm, upd_ne npl.symm]; exact hl2, small1000 (by omega), ?_⟩
        refine ⟨_, rs.eraseIdx j, fs ++ [rs[j]], rfl, ?_, ⟨xs, by rw [upd_ne npl, upd_ne npr, upd_same], hx⟩, by rw [upd_ne nrl, upd_same], upd_same, by simp [hlen], ?_⟩
        · intro b o hb hn
          rw [upd_ne (ne_of_none hb nl0), upd_ne (ne_of_none hb nr), upd_ne hn]
          exact u2 b o hb hn
        · refine List.Perm.trans ?_ hp
          exact perm_move hj
    · rintro σ H2 ⟨v, rs, fs, rfl, u2, B2, hr2, hl2, hlen, hp⟩
      have hlr : rs.length + fs.length = ys.length := by
        have := hp.length_eq
        rw [List.length_append] at this
        exact this
      have e : rs = [] := List.eq_nil_of_length_eq_zero (by omega)
      subst e
      exact ⟨_, rfl, k H2 l fs u2 B2 nl0 npl.symm hl2 hp⟩
end
end K0
end

/-! ## K0B -/
section
set_option Elab.async false
set_option linter.all false
set_option maxRecDepth 100000
namespace K0
open PySem PySem.Spec PyProof.Rows L2
theorem split_if {α : Type} {C : α → Prop} {G : Prop} (use : (∀ c, C c) → G) (key : ∀ c, C c) : G := use key
section
variable {P : Program} {w : World} {K : PySem.W.Frag} {mg : Str → Option Value} {base : Heap}
theorem cutV_sub {xs : List V} {a b : Option Int} {v : V} (h : v ∈ cutV xs a b) : v ∈ xs := by
  unfold cutV at h
  exact List.mem_of_mem_drop (List.mem_of_mem_take h)
theorem cutV_len {xs : List V} {a b : Option Int} : (cutV xs a b).length ≤ xs.length := by
  unfold cutV
  rw [List.length_take, List.length_drop]
  omega
theorem ok_bag {f : Addr} {fd : FuncData} (F : FnP K "_law_bag" sBag f fd) (B : Bl mg) : FnOk P w K mg base CX0 1 f fd ["_law_script", "_law_at", "_law_salt"] (spBag K) := by
  refine F.ok scBag (fun vs H Q E h => ?_) (fun cdv A outer s H vs Q E hr h => ?_)
  · obtain ⟨a, ns, i, z, rfl, _⟩ := h
    rfl
  · obtain ⟨a, ns, i, z, rfl, hS, hl, hi, hi2, hz, hz2, k⟩ := h
    refine ⟨_, PSs.nox (pss_cons
      (ps_set (i := 3) scBag.nd rfl (Or.inl rfl) (pe_ifExp (pt_cmpR op_lt (pv 1) (pe_callB call_len_seq (by rfl) B.len PySem.boot_len (pa_cons (pv 0) pa_nil)) (nomark _)) (pe_ix ix_list (pv 0) (pv 1) (fun _ _ => rfl)) pe_int))
      (pss_cons
      (ps_set (i := 4) scBag.nd rfl (Or.inl rfl) (pe_op op_add (pv 2) (pe_op op_mul pe_int (pv 1))))
      (pss_cons
      (ps_for PassesOwn.never rfl (pi_enum (by rfl) B.enumerate (pa_cons (pe_slice sl_list (pv 0) po_none (po_some pe_int)) pa_nil)) (pg_tup (by rfl) (pgs_cons (pg_name (i := 5) scBag.nd rfl (Or.inl rfl)) (pgs_cons (pg_name (i := 6) scBag.nd rfl (Or.inl rfl)) pgs_nil))) (pss_one
      (ps_set (i := 4) scBag.nd rfl (Or.inl rfl) (pe_op op_mod (pe_callTy call_int1 (by rfl) B.int (by decide +kernel) (pa_cons (pe_op op_add (pe_op op_add (pe_op op_add (pe_op op_mul (pv 4) pe_int) (pe_op op_mod (pe_callTy call_int1 (by rfl) B.int (by decide +kernel) (pa_cons (pv 6) pa_nil)) pe_int)) (pe_op op_mul pe_int (pv 5))) pe_int) pa_nil)) pe_int))))
      (pss_one
      (ps_ret (pe_lst (pa_cons (pe_ifExp (pt_cmpR op_ge (pe_callB call_abs (by rfl) B.abs (by decide +kernel) (pa_cons (pv 3) pa_nil)) (pe_op op_pow pe_int pe_int) (nomark _)) (pe_callB call_abs (by rfl) B.abs (by decide +kernel) (pa_cons (pv 3) pa_nil)) pe_int) (pa_cons (pv 4) pa_nil)))))))), ?_⟩
    refine ⟨_, rfl, _, rfl, a, _, rfl, .inl hS, i, (((ns.map V.int).length : Nat) : Int), rfl, rfl, _, rfl, ?_⟩
    refine split_if (α := Int) (C := ?C) ?use ?key
    case use =>
      intro key
      refine ite2 (fun hc => ?_) (fun hc => ?_)
      · have hc := of_decide_eq_true hc
        obtain ⟨j, ej⟩ : ∃ j : Nat, i = (j : Int) := ⟨i.toNat, by omega⟩
        rw [List.length_map] at hc
        have hj : j < ns.length := by omega
        obtain ⟨c, hcv⟩ : ∃ c : Int, (ns.map V.int)[j]? = some (.int c) := ⟨ns[j], by rw [List.getElem?_map, List.getElem?_eq_getElem hj]; rfl⟩
        refine ⟨_, rfl, _, rfl, a, _, _, _, rfl, rfl, hS, at_of ej hcv, ?_⟩
        exact key c
      · exact key 0
    case key =>
      intro c
      refine ⟨_, rfl, _, rfl, 1009, i, rfl, rfl, .inl ⟨by decide, by decide⟩, z, _, rfl, rfl, ?_⟩
      refine ⟨_, rfl, 63, rfl, a, _, rfl, hS, fun q nq => ⟨q, _, rfl, .inl (.inl upd_same), ?_⟩⟩
      refine for_it (walk_enum (xs := cutV (ns.map V.int) none (some 63))) (fun t σ H2 => ∃ (b : Int) (v1 v2 : Option V), σ = [some (.ref a), some (.int i), some (.int z), some (.int c), some (.int b), v1, v2] ∧ 0 ≤ b ∧ b < 2147483648 ∧ Same H H2 ∧ H2 q = some (.lst (cutV (ns.map V.int) none (some 63))))
        ⟨_, none, none, rfl, by omega, by omega, same_upd nq, upd_same⟩ (fun _ _ _ _ h => by obtain ⟨_, _, _, _, _, _, _, e⟩ := h; exact .inl (.inl e)) ?_ ?_
      · rintro t x σ H2 H3 ht ⟨b, v1, v2, rfl, hb0, hb1, sm, hq⟩ ⟨T, x1, x2, rfl, hT, rfl, e1, e2⟩
        have nq2 : q ≠ T := ne_of_none hq hT
        have ex1 : x1 = .int (t : Int) := (Option.some.inj e1).symm
        have hx2 : ∃ y : Int, x2 = .int y := by
          obtain ⟨y, _, ey⟩ := List.mem_map.mp (cutV_sub (List.mem_of_getElem? e2))
          exact ⟨y, ey.symm⟩
        obtain ⟨y, rfl⟩ := hx2
        subst ex1
        have ht' : t < 63 := by
          have h1 := cutV_len (xs := ns.map V.int) (a := none) (b := some 63)
          rw [List.length_map] at h1
          omega
        have r1 := mod_ok y (m := 2147483549) (by decide)
        have r2 := mod_ok (b * 44497 + y % 2147483549 + 71 * (t : Int) + 9) (m := 2147483549) (by decide)
        refine ⟨T, _, rfl, .inl (.inl upd_same), rfl, _, _, rfl, _, _, rfl, rfl, ?_⟩
        refine ⟨_, rfl, b, 44497, rfl, rfl, .inl ⟨by omega, by omega⟩, _, rfl, .inl ⟨y, rfl, _, _, rfl, rfl, (by show (0 : Int) < 2147483549; decide), _, _, rfl, rfl, ?_⟩⟩
        refine ⟨_, rfl, 71, (t : Int), rfl, rfl, .inl ⟨by decide, by decide⟩, _, _, rfl, rfl, _, _, rfl, rfl, .inl ⟨_, rfl, _, _, rfl, rfl, (by show (0 : Int) < 2147483549; decide), ?_⟩⟩
        refine ⟨_, _, _, rfl, r2.1, by omega, sm.trans (same_upd hT), ?_⟩
        rw [upd_ne nq2]
        exact hq
      · rintro σ H2 ⟨b, v1, v2, rfl, hb0, hb1, sm, hq⟩
        refine ⟨_, rfl, c, rfl, 10, 18, rfl, rfl, ⟨by decide, by decide, by decide⟩, _, _, rfl, rfl, _, rfl, ?_⟩
        have fin : ∀ (g : Int) (p : Addr), 0 ≤ g → H2 p = none → Q (.ref p) (upd H2 p (.lst [.int g, .int b])) := fun g p hg np =>
          k _ p (sm.trans (same_upd np)) (sm.free np) ⟨_, upd_same, g, b, rfl, hg, hb0, hb1⟩
        refine ite2 (fun _ => ?_) (fun _ => ?_)
        · refine ⟨_, rfl, c, rfl, _, rfl, by show 2 ≤ sizeLine; decide, fun p np => ?_⟩
          exact fin _ p (by split <;> omega) np
        · refine ⟨_, rfl, by show 2 ≤ sizeLine; decide, fun p np => ?_⟩
          exact fin 0 p (by omega) np
end
end K0
end

/-! ## K0M -/
section
set_option linter.all false
namespace K0
open PySem
/-! ### names -/
def Low (c : Nat) : Prop := 97 ≤ c ∧ c ≤ 122
structure NameOk (x : Str) : Prop where
  one : 1 ≤ x.cps.toList.length
  most : x.cps.toList.length ≤ 8
  low : ∀ c ∈ x.cps.toList, Low c
theorem str_ext {x y : Str} (h : x.cps.toList = y.cps.toList) : x = y := by
  cases x with | mk a => cases y with | mk b =>
  have e : a = b := Array.ext' h
  rw [e]
theorem app_list (x y : Str) : (x ++ y).cps.toList = x.cps.toList ++ y.cps.toList := Array.toList_append
/-- the k-th mark, many names being asked for -/
def markL (many start k : Nat) : List Nat := [97 + (start + 5 * k) % 26] ++ (if 26 < many then [97 + k / 26] else [])
def shapeL (base mark : List Nat) (k : Nat) : Nat → List Nat
  | 0 => base ++ mark
  | 1 => mark ++ base
  | 2 => mark ++ base.take (k % (base.length + 1))
  | _ => base.take 1 ++ mark ++ base.drop 1
def seaL : List Nat := [115, 101, 97]
def seasL : List Nat := [115, 101, 97, 115]
def fixL (l : List Nat) : List Nat := if l = seaL then seasL else l
theorem markL_len (many start k : Nat) : (markL many start k).length = if 26 < many then 2 else 1 := by
  unfold markL
  split <;> rfl
theorem markL_inj {many start k j : Nat} (hm : many ≤ 52) (hk : k < many) (hj : j < many) (h : markL many start k = markL many start j) : k = j := by
  unfold markL at h
  have h1 := (List.cons_eq_cons.mp h).1
  by_cases c : 26 < many
  · have h2 := (List.cons_eq_cons.mp h).2
    rw [if_pos c, if_pos c] at h2
    have h3 := (List.cons_eq_cons.mp h2).1
    omega
  · omega
theorem markL_low {many start k : Nat} (hm : many ≤ 52) (hk : k < many) : ∀ c ∈ markL many start k, Low c := by
  intro c hc
  unfold markL at hc
  rcases List.mem_append.mp hc with h | h
  · rw [List.mem_singleton.mp h]
    constructor <;> omega
  · split at h
    · rw [List.mem_singleton.mp h]
      constructor <;> omega
    · cases h
theorem shape_mark {base m1 m2 : List Nat} {k j : Nat} {s : Nat} (hl : m1.length = m2.length) (h : shapeL base m1 k s = shapeL base m2 j s) : m1 = m2 := by
  match s, h with
  | 0, h => exact List.append_cancel_left h
  | 1, h => exact List.append_cancel_right h
  | 2, h => exact List.append_inj_left h hl
  | s + 3, h =>
    have h : base.take 1 ++ m1 ++ base.drop 1 = base.take 1 ++ m2 ++ base.drop 1 := h
    exact List.append_cancel_left (List.append_cancel_right h)
theorem shape_len {base m1 m2 : List Nat} {k j : Nat} {s : Nat} (hl : m1.length = m2.length) (hs : s ≠ 2) : (shapeL base m1 k s).length = (shapeL base m2 j s).length := by
  match s, hs with
  | 0, _ => simp [shapeL, hl]
  | 1, _ => simp [shapeL, hl]
  | s + 3, _ => simp [shapeL, hl]
theorem fix_mark {base : List Nat} {many start k j s : Nat} (h : fixL (shapeL base (markL many start k) k s) = fixL (shapeL base (markL many start j) j s)) : markL many start k = markL many start j := by
  have hl : (markL many start k).length = (markL many start j).length := by rw [markL_len, markL_len]
  have mixed : ∀ {k j : Nat}, shapeL base (markL many start k) k s = seaL → shapeL base (markL many start j) j s = seasL → markL many start k = markL many start j := by
    intro k j e1 e2
    have hl : (markL many start k).length = (markL many start j).length := by rw [markL_len, markL_len]
    by_cases hs : s = 2
    · subst hs
      have e1 : markL many start k ++ base.take (k % (base.length + 1)) = seaL := e1
      have e2 : markL many start j ++ base.take (j % (base.length + 1)) = seasL := e2
      have t1 : markL many start k = seaL.take (markL many start k).length := by rw [← e1, List.take_left']; rfl
      have t2 : markL many start j = seasL.take (markL many start j).length := by rw [← e2, List.take_left']; rfl
      rw [t1, t2, ← hl, markL_len]
      split <;> rfl
    · have q := shape_len (base := base) (k := k) (j := j) hl hs
      rw [e1, e2] at q
      exact absurd q (by decide)
  unfold fixL at h
  by_cases c1 : shapeL base (markL many start k) k s = seaL
  · rw [if_pos c1] at h
    by_cases c2 : shapeL base (markL many start j) j s = seaL
    · exact shape_mark hl (c1.trans c2.symm)
    · rw [if_neg c2] at h
      exact mixed c1 h.symm
  · rw [if_neg c1] at h
    by_cases c2 : shapeL base (markL many start j) j s = seaL
    · rw [if_pos c2] at h
      exact (mixed c2 h).symm
    · rw [if_neg c2] at h
      exact shape_mark hl h
theorem fix_inj {base : List Nat} {many start k j s : Nat} (hm : many ≤ 52) (hk : k < many) (hj : j < many) (h : fixL (shapeL base (markL many start k) k s) = fixL (shapeL base (markL many start j) j s)) : k = j :=
  markL_inj hm hk hj (fix_mark h)
theorem fix_ne (l : List Nat) : fixL l ≠ seaL := by
  unfold fixL
  split
  · decide
  · assumption
theorem shape_low {base mark : List Nat} {k s : Nat} (hb : ∀ c ∈ base, Low c) (hm : ∀ c ∈ mark, Low c) : ∀ c ∈ shapeL base mark k s, Low c := by
  have app : ∀ {a b : List Nat}, (∀ c ∈ a, Low c) → (∀ c ∈ b, Low c) → ∀ c ∈ a ++ b, Low c := fun h1 h2 c hc => (List.mem_append.mp hc).elim (h1 c) (h2 c)
  match s with
  | 0 => exact app hb hm
  | 1 => exact app hm hb
  | 2 => exact app hm fun c hc => hb c (List.mem_of_mem_take hc)
  | s + 3 => exact app (app (fun c hc => hb c (List.mem_of_mem_take hc)) hm) fun c hc => hb c (List.mem_of_mem_drop hc)
theorem shape_size {base mark : List Nat} {k s : Nat} (hb : base.length ≤ 6) (hm : 1 ≤ mark.length ∧ mark.length ≤ 2) : 1 ≤ (shapeL base mark k s).length ∧ (shapeL base mark k s).length ≤ 8 := by
  match s with
  | 0 => simp only [shapeL, List.length_append]; omega
  | 1 => simp only [shapeL, List.length_append]; omega
  | 2 => simp only [shapeL, List.length_append, List.length_take]; omega
  | s + 3 => simp only [shapeL, List.length_append, List.length_take, List.length_drop]; omega
theorem fix_low {l : List Nat} (h : ∀ c ∈ l, Low c) : ∀ c ∈ fixL l, Low c := by
  unfold fixL
  split
  · intro c hc
    have : c = 115 ∨ c = 101 ∨ c = 97 ∨ c = 115 := by simpa [seasL] using hc
    constructor <;> omega
  · exact h
theorem fix_size {l : List Nat} (h : 1 ≤ l.length ∧ l.length ≤ 8) : 1 ≤ (fixL l).length ∧ (fixL l).length ≤ 8 := by
  unfold fixL
  split
  · decide
  · exact h
/-! ### no name goes on from another one -/
theorem fix_take {l : List Nat} {n : Nat} (h : n ≤ 2) : (fixL l).take n = l.take n := by
  unfold fixL
  split
  · rename_i e
    subst e
    match n, h with
    | 0, _ => rfl
    | 1, _ => rfl
    | 2, _ => rfl
  · rfl
theorem fix_len (l : List Nat) : l.length ≤ (fixL l).length := by
  unfold fixL
  split
  · rename_i e
    subst e
    decide
  · exact Nat.le_refl _
theorem fix_on {base t : List Nat} {many start i j s : Nat} (hm : many ≤ 52) (hi : i < many) (hj : j < many) (ht : t ≠ []) (h1 : ∀ l, seasL = l ++ t → l.length = 3 → False)
    (h : fixL (shapeL base (markL many start j) j s) = fixL (shapeL base (markL many start i) i s) ++ t) : False := by
  have hl : (markL many start i).length = (markL many start j).length := by rw [markL_len, markL_len]
  have hmu : 1 ≤ (markL many start i).length ∧ (markL many start i).length ≤ 2 := by
    rw [markL_len]
    split <;> omega
  by_cases hs : s = 2
  · subst hs
    have e1 : (fixL (shapeL base (markL many start j) j 2)).take (markL many start j).length = markL many start j := by
      rw [fix_take (by omega)]
      exact List.take_left
    have e2 : (fixL (shapeL base (markL many start i) i 2)).take (markL many start i).length = markL many start i := by
      rw [fix_take (by omega)]
      exact List.take_left
    have hz : (markL many start i).length ≤ (fixL (shapeL base (markL many start i) i 2)).length := by
      refine Nat.le_trans ?_ (fix_len _)
      show _ ≤ (markL many start i ++ base.take (i % (base.length + 1))).length
      rw [List.length_append]
      omega
    have e3 : markL many start j = markL many start i := by
      rw [← e1, h, ← hl, List.take_append_of_le_length hz, e2]
    have e4 := markL_inj hm hj hi e3
    subst e4
    have := congrArg List.length h
    rw [List.length_append] at this
    exact ht (List.eq_nil_of_length_eq_zero (by omega))
  · have q := shape_len (base := base) (k := i) (j := j) hl hs
    have ht1 : 1 ≤ t.length := by
      cases t with
      | nil => exact absurd rfl ht
      | cons _ _ => rw [List.length_cons]; omega
    have hL := congrArg List.length h
    rw [List.length_append] at hL
    have hi2 := fix_len (shapeL base (markL many start i) i s)
    by_cases c : shapeL base (markL many start j) j s = seaL
    · have e1 : fixL (shapeL base (markL many start j) j s) = seasL := by unfold fixL; rw [if_pos c]
      rw [c] at q
      rw [e1] at hL h
      have q3 : seaL.length = 3 := rfl
      have q4 : seasL.length = 4 := rfl
      exact h1 _ h (by omega)
    · have e1 : fixL (shapeL base (markL many start j) j s) = shapeL base (markL many start j) j s := by unfold fixL; rw [if_neg c]
      rw [e1] at hL
      omega
theorem fix_gen {base t : List Nat} {many start i j s : Nat} (hm : many ≤ 52) (hi : i < many) (hj : j < many) (ht : t ≠ []) (hl : t.getLast? ≠ some 115) : fixL (shapeL base (markL many start j) j s) ≠ fixL (shapeL base (markL many start i) i s) ++ t := fun h =>
  fix_on hm hi hj ht (fun l e _ => by
    have := congrArg List.getLast? e
    rw [List.getLast?_append] at this
    cases q : t.getLast? with
    | none => exact ht (List.getLast?_eq_none_iff.mp q)
    | some c =>
      rw [q] at this
      have h2 : seasL.getLast? = some c := this
      have h3 : seasL.getLast? = some 115 := rfl
      rw [h3] at h2
      exact hl (by rw [q, ← h2])) h
theorem fix_q {base : List Nat} {many start i j s : Nat} (hm : many ≤ 52) (hi : i < many) (hj : j < many) : fixL (shapeL base (markL many start j) j s) ≠ fixL (shapeL base (markL many start i) i s) ++ [113] := fun h =>
  fix_on hm hi hj (by decide) (fun l e _ => by
    have := congrArg List.getLast? e
    rw [List.getLast?_append] at this
    have h2 : seasL.getLast? = some 113 := by rw [this]; rfl
    exact absurd h2 (by decide)) h
theorem fix_dd {base : List Nat} {many start i j s : Nat} (hm : many ≤ 52) (hi : i < many) (hj : j < many) : fixL (shapeL base (markL many start j) j s) ≠ fixL (shapeL base (markL many start i) i s) ++ fixL (shapeL base (markL many start i) i s) := fun h => by
  have hmu : 1 ≤ (markL many start i).length := by
    rw [markL_len]
    split <;> omega
  have hge : ∀ k, 1 ≤ (markL many start k).length → 1 ≤ (shapeL base (markL many start k) k s).length := fun k hk => by
    match s with
    | 0 => simp only [shapeL, List.length_append]; omega
    | 1 => simp only [shapeL, List.length_append]; omega
    | 2 => simp only [shapeL, List.length_append, List.length_take]; omega
    | s + 3 => simp only [shapeL, List.length_append, List.length_take, List.length_drop]; omega
  have h1 := Nat.le_trans (hge i hmu) (fix_len _)
  refine fix_on hm hi hj (fun z => by rw [z] at h1; exact absurd h1 (by decide)) (fun l e hl => ?_) h
  have e1 := congrArg List.length e
  rw [List.length_append, hl] at e1
  have q4 : seasL.length = 4 := rfl
  rw [q4] at e1
  have e2 := congrArg List.length h
  rw [List.length_append] at e2
  have e3 : (fixL (shapeL base (markL many start i) i s)).length = 1 := by omega
  have e4 : (fixL (shapeL base (markL many start j) j s)).length = 2 := by omega
  have hl2 : (markL many start i).length = (markL many start j).length := by rw [markL_len, markL_len]
  by_cases hs : s = 2
  · subst hs
    have f1 : (fixL (shapeL base (markL many start j) j 2)).take (markL many start j).length = markL many start j := by
      rw [fix_take (by rw [markL_len]; split <;> omega)]
      exact List.take_left
    have f2 : (fixL (shapeL base (markL many start i) i 2)).take (markL many start i).length = markL many start i := by
      rw [fix_take (by rw [markL_len]; split <;> omega)]
      exact List.take_left
    have hz : (markL many start i).length ≤ (fixL (shapeL base (markL many start i) i 2)).length := by
      refine Nat.le_trans ?_ (fix_len _)
      show _ ≤ (markL many start i ++ base.take (i % (base.length + 1))).length
      rw [List.length_append]
      omega
    have f3 : markL many start j = markL many start i := by
      rw [← f1, h, ← hl2, List.take_append_of_le_length hz, f2]
    have f4 := markL_inj hm hj hi f3
    subst f4
    omega
  · have q := shape_len (base := base) (k := i) (j := j) hl2 hs
    have g1 := fix_len (shapeL base (markL many start i) i s)
    unfold fixL at e4
    split at e4
    · revert e4
      decide
    · omega
end K0
end

/-! ## K0N -/
section
set_option Elab.async false
set_option linter.all false
set_option maxRecDepth 100000
namespace K0
open PySem PySem.Spec PyProof.Rows L2
abbrev scNames_N : List Str := ["_law_bag_here", "_law_many", "_law_letters", "_law_base", "_law_start", "_law_shape", "_law_found", "_law_k", "_law_mark", "_law_some"]
abbrev scNames_S : Stmt := sNames
theorem scNames : FnScope scNames_N ["_law_bag_here", "_law_many"] (defScope sNames) := ⟨rfl, rfl, rfl, by decide +kernel, rfl, by decide +kernel, by decide +kernel⟩
/-- a list of unlike good names -/
structure NamesOk (ns : List Str) : Prop where
  ok : ∀ x ∈ ns, NameOk x
  sea : ∀ x ∈ ns, x ≠ "sea"
  nd : ns.Nodup
  qq : ∀ x ∈ ns, (x ++ ("q" : Str)) ∉ ns
  dd : ∀ x ∈ ns, (x ++ x) ∉ ns
  on : ∀ x ∈ ns, ∀ t : Str, t.cps.toList ≠ [] → t.cps.toList.getLast? ≠ some 115 → (x ++ t) ∉ ns
def spNames : Sp := fun vs H Q _ => ∃ (p : Addr) (m : Nat), vs = [.ref p, .int (m : Int)] ∧ BagAt H p ∧ 1 ≤ m ∧ m ≤ 52 ∧
  ∀ (H' : Hp) (l : Addr) (ns : List Str), Upto p H H' → BagAt H' p → H l = none → l ≠ p → H' l = some (.lst (ns.map V.str)) → ns.length = m → NamesOk ns → Q (.ref l) H'
theorem split_if' {α : Type} {R C : α → Prop} {G : Prop} (use : (∀ c, R c → C c) → G) (key : ∀ c, R c → C c) : G := use key
/-! ### texts -/
abbrev lettersT : Str := "abcdefghijklmnopqrstuvwxyz"
theorem letters_at : ∀ i : Nat, i < 26 → lettersT.cps[i]? = some (97 + i) := by decide +kernel
theorem letters_len : lettersT.length = 26 := by decide +kernel
theorem sea_list : ("sea" : Str).cps.toList = seaL := by decide +kernel
theorem seas_list : ("seas" : Str).cps.toList = seasL := by decide +kernel
theorem empty_list : ("" : Str).cps.toList = [] := by decide +kernel
def ofL (l : List Nat) : Str := ⟨l.toArray⟩
theorem ofL_list (l : List Nat) : (ofL l).cps.toList = l := rfl
theorem len_list (x : Str) : x.length = x.cps.toList.length := Array.length_toList.symm
theorem ofL_of (x : Str) : ofL x.cps.toList = x := str_ext rfl
theorem join_empty : ∀ cs : List Nat, (Str.join "" (cs.map fun c => ofL [c])).cps.toList = cs
  | [] => by decide +kernel
  | [c] => rfl
  | c :: d :: r => by
    have ih := join_empty (d :: r)
    show (ofL [c] ++ ("" : Str) ++ Str.join "" ((d :: r).map fun c => ofL [c])).cps.toList = c :: d :: r
    rw [app_list, app_list, empty_list, ih]
    rfl
theorem sum_ones (cs : List Nat) : ((cs.map fun c => ofL [c]).map (·.length)).sum = cs.length := by
  induction cs with
  | nil => rfl
  | cons c r ih =>
    rw [List.map_cons, List.map_cons, List.sum_cons, ih, List.length_cons]
    show 1 + r.length = r.length + 1
    omega
theorem cutS_take (z : Str) (n : Nat) : (cutS z none (some (n : Int))).cps.toList = z.cps.toList.take n := by
  unfold cutS
  rw [HT.sIx_none, HT.sIx_nat]
  show (z.cps.toList.drop 0).take (min n z.length - 0) = z.cps.toList.take n
  rw [List.drop_zero, Nat.sub_zero, len_list]
  exact (List.take_eq_take_min ..).symm
theorem cutS_drop (z : Str) (n : Nat) : (cutS z (some (n : Int)) none).cps.toList = z.cps.toList.drop n := by
  unfold cutS
  rw [HT.sIx_none, HT.sIx_nat]
  show (z.cps.toList.drop (min n z.length)).take (z.length - min n z.length) = z.cps.toList.drop n
  rw [len_list]
  by_cases h : n ≤ z.cps.toList.length
  · rw [Nat.min_eq_left h]
    exact List.take_of_length_le (by rw [List.length_drop]; omega)
  · rw [Nat.min_eq_right (by omega), Nat.sub_self, List.drop_of_length_le (Nat.le_refl _), List.drop_of_length_le (by omega)]
    rfl
theorem nodup_range {α : Type} (f : Nat → α) (m : Nat) (h : ∀ i j, i < m → j < m → f i = f j → i = j) : ((List.range m).map f).Nodup := by
  rw [List.Nodup, List.pairwise_map]
  refine List.Pairwise.imp_of_mem (fun {a b} ha hb hab e => hab (h a b (List.mem_range.mp ha) (List.mem_range.mp hb) e)) (List.nodup_range (n := m))
theorem ofL_inj {a b : List Nat} (h : ofL a = ofL b) : a = b := by
  have := congrArg (fun z : Str => z.cps.toList) h
  exact this
theorem names_ok {base : List Nat} {m st sh : Nat} (hb1 : ∀ c ∈ base, Low c) (hb2 : base.length ≤ 6) (hm2 : m ≤ 52) : NamesOk ((List.range m).map fun k => ofL (fixL (shapeL base (markL m st k) k sh))) := by
  refine ⟨?_, ?_, ?_, ?_, ?_, fun x hx t ht hl hq => ?_⟩
  rotate_left 5
  · obtain ⟨i, hi, rfl⟩ := List.mem_map.mp hx
    obtain ⟨j, hj, e⟩ := List.mem_map.mp hq
    have e2 := congrArg (fun z : Str => z.cps.toList) e
    have e3 : (ofL (fixL (shapeL base (markL m st i) i sh)) ++ t).cps.toList = fixL (shapeL base (markL m st i) i sh) ++ t.cps.toList := by
      rw [app_list]
      rfl
    exact fix_gen hm2 (List.mem_range.mp hi) (List.mem_range.mp hj) ht hl (e2.trans e3)
  · intro x hx
    obtain ⟨j, hj, rfl⟩ := List.mem_map.mp hx
    have hj := List.mem_range.mp hj
    have h1 := markL_low (start := st) hm2 hj
    have h2 : 1 ≤ (markL m st j).length ∧ (markL m st j).length ≤ 2 := by
      rw [markL_len]
      split <;> omega
    have h3 := fix_size (shape_size (k := j) (s := sh) hb2 h2)
    exact ⟨h3.1, h3.2, fix_low (shape_low hb1 h1)⟩
  · intro x hx e
    obtain ⟨j, hj, rfl⟩ := List.mem_map.mp hx
    have q : (ofL (fixL (shapeL base (markL m st j) j sh))).cps.toList = seaL := by rw [e]; exact sea_list
    exact fix_ne _ q
  · refine nodup_range _ _ fun i j hi hj e => ?_
    exact fix_inj hm2 hi hj (ofL_inj e)
  · intro x hx hq
    obtain ⟨i, hi, rfl⟩ := List.mem_map.mp hx
    obtain ⟨j, hj, e⟩ := List.mem_map.mp hq
    have e2 := congrArg (fun z : Str => z.cps.toList) e
    have e3 : (ofL (fixL (shapeL base (markL m st i) i sh)) ++ ("q" : Str)).cps.toList = fixL (shapeL base (markL m st i) i sh) ++ [113] := by
      rw [app_list]
      rfl
    exact fix_q hm2 (List.mem_range.mp hi) (List.mem_range.mp hj) (e2.trans e3)
  · intro x hx hq
    obtain ⟨i, hi, rfl⟩ := List.mem_map.mp hx
    obtain ⟨j, hj, e⟩ := List.mem_map.mp hq
    have e2 := congrArg (fun z : Str => z.cps.toList) e
    have e3 : (ofL (fixL (shapeL base (markL m st i) i sh)) ++ ofL (fixL (shapeL base (markL m st i) i sh))).cps.toList = fixL (shapeL base (markL m st i) i sh) ++ fixL (shapeL base (markL m st i) i sh) := by
      rw [app_list]
      rfl
    exact fix_dd hm2 (List.mem_range.mp hi) (List.mem_range.mp hj) (e2.trans e3)
section
variable {P : Program} {w : World} {K : PySem.W.Frag} {mg : Str → Option Value} {base : Heap}
theorem ok_names {f fT fO : Addr} {fd fdT fdO : FuncData} (F : FnP K "_law_names" sNames f fd) (F_law_take : FnP K "_law_take" sTake fT fdT) (F_law_of : FnP K "_law_of" sOf fO fdO) (B : Bl mg) (g_law_take : mg "_law_take" = some (.ref fT)) (g_law_of : mg "_law_of" = some (.ref fO)) :
    FnOk P w K mg base CX0 3 f fd ["_law_bag_here", "_law_many"] spNames := by
  have G_law_take : FnOk P w K mg base CX0 1 fT fdT ["_law_bag_here", "_law_many"] spTake := ok_take F_law_take B
  have b_law_take : Binds K fdT ["_law_bag_here", "_law_many"] [] := F_law_take.bindsN fun _ _ _ _ _ _ us hl => match us, hl with | [_, _], _ => rfl
  have G_law_of : FnOk P w K mg base CX0 2 fO fdO ["_law_bag_here", "_law_some"] (spOf K) := ok_of F_law_of F_law_take B g_law_take
  have b_law_of : Binds K fdO ["_law_bag_here", "_law_some"] [] := F_law_of.bindsN fun _ _ _ _ _ _ us hl => match us, hl with | [_, _], _ => rfl
  refine F.ok scNames (fun vs H Q E h => ?_) (fun cdv A outer s H vs Q E hr h => ?_)
  · obtain ⟨p, m, rfl, _⟩ := h
    rfl
  · obtain ⟨p, m, rfl, hB, hm1, hm2, k⟩ := h
    have hr_law_take : Room 1 _ := hr.mono (by decide)
    have hr_law_of : Room 2 _ := hr.mono (by decide)
    refine ⟨_, PSs.nox (pss_cons
      (ps_set (i := 2) scNames.nd rfl (Or.inr rfl) pe_str)
      (pss_cons
      (ps_set (i := 3) scNames.nd rfl (Or.inl rfl) (pe_join pe_str (pe_lc (own := [("_law_k", 7)]) (g := gName 7) (tt := tYes) (by rfl) scNames.nd (pi_range1 (by rfl) B.range (pa_cons (pe_call G_law_of hr_law_of (by rfl) g_law_of F_law_of.kp b_law_of .nil pass0 (pa_cons (pv 0) (pa_cons (pe_lst (pa_cons pe_int (pa_cons pe_int (pa_cons pe_int (pa_cons pe_int (pa_cons pe_int pa_nil)))))) pa_nil))) pa_nil)) (blkOk_by (own := [("_law_k", 7)]) (N := scNames_N) (sc := defScope scNames_S) (by decide +kernel)) (fun _ _ _ _ _ => (pg_name (i := 7) scNames.nd rfl (Or.inl rfl))) (fun _ _ _ _ _ => pts_nil) (fun _ _ _ _ _ => (pe_item_str (pv 2) (pe_call G_law_take hr_law_take (by rfl) g_law_take F_law_take.kp b_law_take .nil pass0 (pa_cons (pv 0) (pa_cons pe_int pa_nil))) (fun _ _ => rfl))))))
      (pss_cons
      (ps_par (i := 4) (j := 5) (by rfl) scNames.nd rfl rfl (by decide) rfl rfl (pa_cons (pe_call G_law_take hr_law_take (by rfl) g_law_take F_law_take.kp b_law_take .nil pass0 (pa_cons (pv 0) (pa_cons pe_int pa_nil))) (pa_cons (pe_call G_law_take hr_law_take (by rfl) g_law_take F_law_take.kp b_law_take .nil pass0 (pa_cons (pv 0) (pa_cons pe_int pa_nil))) pa_nil)) (by rfl))
      (pss_cons
      (ps_set (i := 6) scNames.nd rfl (Or.inl rfl) (pe_lst pa_nil))
      (pss_cons
      (ps_for PassesOwn.never rfl (pi_range1 (by rfl) B.range (pa_cons (pv 1) pa_nil)) (pg_name (i := 7) scNames.nd rfl (Or.inl rfl)) (pss_cons
      (ps_set (i := 8) scNames.nd rfl (Or.inl rfl) (pe_op op_add_str (pe_item_str (pv 2) (pe_op op_mod (pe_op op_add (pv 4) (pe_op op_mul pe_int (pv 7))) pe_int) (fun _ _ => rfl)) (pe_ifExp (pt_cmpR op_gt (pv 1) pe_int (nomark _)) (pe_item_str (pv 2) (pe_op op_fdiv (pv 7) pe_int) (fun _ _ => rfl)) pe_str)))
      (pss_cons
      (ps_set (i := 9) scNames.nd rfl (Or.inl rfl) (pe_lst (pa_cons (pe_op op_add_str (pv 3) (pv 8)) (pa_cons (pe_op op_add_str (pv 8) (pv 3)) (pa_cons (pe_op op_add_str (pv 8) (pe_slice sl_str (pv 3) po_none (po_some (pe_op op_mod (pv 7) (pe_op op_add (pe_callB call_len_str (by rfl) B.len PySem.boot_len (pa_cons (pv 3) pa_nil)) pe_int))))) (pa_cons (pe_op op_add_str (pe_op op_add_str (pe_slice sl_str (pv 3) po_none (po_some pe_int)) (pv 8)) (pe_slice sl_str (pv 3) (po_some pe_int) po_none)) pa_nil))))))
      (pss_one
      (ps_expr (pe_bm PySem.F.plainAttrs_list PySem.F.slot_list_append PySem.F.type_list_append mt_append (pv 6) (pa_cons (pe_ifExp (pt_cmpR op_eq (pe_ix ix_list (pv 9) (pv 5) (fun _ _ => rfl)) pe_str (nomark _)) pe_str (pe_ix ix_list (pv 9) (pv 5) (fun _ _ => rfl))) pa_nil)))))))
      (pss_one
      (ps_ret (pv 6)))))))), ?_⟩
    obtain ⟨b0, hb0, hv0⟩ := id hB
    refine ⟨⟨_, rfl⟩, _, rfl, by show 5 ≤ sizeLine; decide, fun q nq => ?_⟩
    have npq : p ≠ q := ne_of_none hb0 nq
    refine ⟨p, q, [.int 0, .int 0, .int 1, .int 2, .int 6], rfl, ⟨b0, by rw [upd_ne npq]; exact hb0, hv0⟩, npq.symm, .inl (.inl upd_same), by decide, by decide, fun i0 v b1 hv hx1 => ?_⟩
    obtain ⟨n, hn6, rfl⟩ : ∃ n : Nat, n ≤ 6 ∧ v = V.int (n : Int) := by
      have hm : v ∈ ([.int 0, .int 0, .int 1, .int 2, .int 6] : List V) := List.mem_of_getElem? hv
      simp only [List.mem_cons, List.not_mem_nil, or_false] at hm
      rcases hm with rfl | rfl | rfl | rfl | rfl
      · exact ⟨0, by omega, rfl⟩
      · exact ⟨0, by omega, rfl⟩
      · exact ⟨1, by omega, rfl⟩
      · exact ⟨2, by omega, rfl⟩
      · exact ⟨6, by omega, rfl⟩
    refine ⟨(n : Int), rfl, by omega, by omega, fun D hD => ?_⟩
    have u1 : Upto p H (upd (upd H q (.lst [.int 0, .int 0, .int 1, .int 2, .int 6])) p (.lst b1)) := (Upto.of (same_upd nq)).trans Upto.at_
    have npD : p ≠ D := fun e => by
      rw [← e, upd_same] at hD
      cases hD
    refine lc_range (lo := 0) (n := ((n : Int) - 0).toNat) (fun i H2 => Upto p H H2 ∧ BagAt H2 p ∧ ∃ cs : List Nat, cs.length = i ∧ (∀ c ∈ cs, Low c) ∧ H2 D = some (.lst (cs.map fun c => V.str (ofL [c])))) ?_ ?_ ?_
    · exact ⟨u1.trans (Upto.of (same_upd hD)), ⟨b1, by rw [upd_ne npD, upd_same], hx1⟩, [], rfl, (fun c hc => nomatch hc), upd_same⟩
    · rintro i H2 hi ⟨u2, B2, cs, hl, hlow, hD2⟩
      have nlp : p ≠ D := npD
      refine ⟨rfl, ?_⟩
      unfold tYes
      refine iteT ?_
      refine ⟨_, rfl, _, rfl, p, 26, rfl, B2, by decide, by decide, fun r xs hr0 hr1 hx => ?_⟩
      have hrn : r.toNat < 26 := by omega
      refine ⟨lettersT, r, 97 + r.toNat, rfl, rfl, hr0, by omega, by rw [letters_len]; omega, letters_at _ hrn, ?_⟩
      refine ⟨cs.map fun c => V.str (ofL [c]), by rw [upd_ne npD.symm]; exact hD2, ?_, ?_, ?_, cs ++ [97 + r.toNat], ?_, ?_, ?_⟩
      · rw [List.length_map]
        exact small1000 (by omega)
      · intro b o hb hn
        have hbD : b ≠ D := by
          intro e
          have hh : (upd (upd H q (.lst [.int 0, .int 0, .int 1, .int 2, .int 6])) p (.lst b1)) b = some o := u1 b o hb hn
          rw [e, hD] at hh
          cases hh
        rw [upd_ne hbD, upd_ne hn]
        exact u2 b o hb hn
      · exact ⟨xs, by rw [upd_ne npD, upd_same], hx⟩
      · rw [List.length_append, hl]
        rfl
      · intro c hc
        rcases List.mem_append.mp hc with h | h
        · exact hlow c h
        · rw [List.mem_singleton.mp h]
          constructor <;> omega
      · rw [upd_same, List.map_append]
        rfl
    · rintro H2 ⟨u2, B2, cs, hl, hlow, hD2⟩
      have hl6 : cs.length ≤ 6 := by omega
      have hmap : (cs.map fun c => V.str (ofL [c])) = (cs.map fun c => ofL [c]).map V.str := by
        rw [List.map_map]
        rfl
      refine ⟨"", D, cs.map fun c => ofL [c], rfl, rfl, .inl (.inl (.inl (by rw [← hmap]; exact hD2))), ?_, ?_⟩
      · rw [sum_ones, List.length_map, show ("" : Str).length = 0 from rfl]
        omega
      · rw [TL.join_eq]
        generalize hbase : Str.join "" (cs.map fun c => ofL [c]) = base
        have hbl : base.cps.toList = cs := by rw [← hbase]; exact join_empty cs
        have hb1 : ∀ c ∈ base.cps.toList, Low c := by rw [hbl]; exact hlow
        have hb2 : base.cps.toList.length ≤ 6 := by rw [hbl]; exact hl6
        have hbz : base.length ≤ 6 := by rw [len_list]; exact hb2
        clear hbase hmap hbl hl6 hlow hl hD2 cs
        -- start, shape
        refine ⟨_, rfl, p, 26, rfl, B2, by decide, by decide, fun r1 xs1 hr10 hr11 hx1 => ?_⟩
        refine ⟨_, rfl, p, 4, rfl, ⟨xs1, upd_same, hx1⟩, by decide, by decide, fun r2 xs2 hr20 hr21 hx2 => ?_⟩
        obtain ⟨st, rfl⟩ : ∃ st : Nat, r1 = (st : Int) := ⟨r1.toNat, by omega⟩
        obtain ⟨sh, rfl⟩ : ∃ sh : Nat, r2 = (sh : Int) := ⟨r2.toNat, by omega⟩
        have hsh : sh < 4 := by omega
        refine ⟨_, _, rfl, Nat.zero_le _, fun l nl => ?_⟩
        have npl : p ≠ l := fun e => by
          rw [← e, upd_same] at nl
          cases nl
        have u3 : Upto p H (upd (upd H2 p (.lst xs1)) p (.lst xs2)) := (u2.trans Upto.at_).trans Upto.at_
        have nlH : H l = none := by
          cases e : H l with
          | none => rfl
          | some o =>
            rw [u3 l o e npl.symm] at nl
            cases nl
        refine ⟨_, rfl, (m : Int), rfl, by omega, by omega, ?_⟩
        refine for_range (lo := 0) (n := ((m : Int) - 0).toNat) (fun i σ H3 => ∃ (v7 v8 v9 : Option V), σ = [some (.ref p), some (.int (m : Int)), some (.str lettersT), some (.str base), some (.int (st : Int)), some (.int (sh : Int)), some (.ref l), v7, v8, v9] ∧
            Upto p H H3 ∧ BagAt H3 p ∧ H3 l = some (.lst (((List.range i).map fun k => ofL (fixL (shapeL base.cps.toList (markL m st k) k sh))).map V.str))) ?_ ?_ ?_
        · refine ⟨_, _, _, rfl, u3.trans (Upto.of (same_upd nl)), ⟨xs2, by rw [upd_ne npl, upd_same], hx2⟩, upd_same⟩
        · rintro i σ H3 hi ⟨v7, v8, v9, rfl, u4, B4, hl4⟩
          have him : i < m := by omega
          have hmod : (st + 5 * i) % 26 < 26 := Nat.mod_lt _ (by decide)
          refine ⟨_, rfl, _, rfl, _, rfl, 5, _, rfl, rfl, .inl ⟨by decide, by decide⟩, _, _, rfl, rfl, _, _, rfl, rfl, (by show (0 : Int) < 26; decide), ?_⟩
          refine ⟨lettersT, _, 97 + (st + 5 * i) % 26, rfl, rfl, by omega, by omega, by rw [letters_len]; omega, ?_, ?_⟩
          · rw [show (((st : Int) + 5 * (0 + (i : Int))) % 26).toNat = (st + 5 * i) % 26 by omega]
            exact letters_at _ hmod
          refine ⟨_, rfl, (m : Int), 26, rfl, rfl, _, rfl, ?_⟩
          refine split_if' (α := Str) (R := fun t => t.cps.toList = if 26 < m then [97 + i / 26] else []) (C := ?C) ?use ?key
          case use =>
            intro key
            refine ite2 (fun hc => ?_) (fun hc => ?_)
            · have hc := of_decide_eq_true hc
              have hc' : 26 < m := by omega
              refine ⟨_, rfl, _, rfl, _, 26, rfl, rfl, ⟨by decide, by decide⟩, ?_⟩
              refine ⟨lettersT, _, 97 + i / 26, rfl, rfl, by omega, by omega, by rw [letters_len]; omega, ?_, ?_⟩
              · rw [show ((0 + (i : Int)) / 26).toNat = i / 26 by omega]
                exact letters_at _ (by omega)
              · have hh : (⟨#[97 + i / 26]⟩ : Str).cps.toList = if 26 < m then [97 + i / 26] else [] := by rw [if_pos hc']
                generalize (⟨#[97 + i / 26]⟩ : Str) = t at hh
                exact key t hh
            · have hc' : ¬ 26 < m := fun z => hc (decide_eq_true (by omega))
              exact key "" (by rw [if_neg hc', empty_list])
          case key =>
            intro t ht
            have hml : ((⟨#[97 + (st + 5 * i) % 26]⟩ : Str) ++ t).cps.toList = markL m st i := by
              rw [app_list, ht]
              rfl
            have htl : t.length ≤ 1 := by
              rw [len_list, ht]
              split <;> simp
            refine ⟨_, _, rfl, rfl, ?_, ?_⟩
            · show 1 + t.length ≤ sizeLine
              exact Nat.le_of_lt (small1000 (by omega))
            generalize (⟨#[97 + (st + 5 * i) % 26]⟩ : Str) ++ t = mark at hml
            have hmz : mark.length ≤ 2 := by
              rw [len_list, hml, markL_len]
              split <;> omega
            -- the four texts
            have z1 : base.length + mark.length ≤ sizeLine := Nat.le_of_lt (small1000 (by omega))
            have z2 : mark.length + base.length ≤ sizeLine := Nat.le_of_lt (small1000 (by omega))
            have ek : (0 + (i : Int)) % ((base.length : Int) + 1) = ((i % (base.length + 1) : Nat) : Int) := by
              rw [Int.zero_add]
              exact (Int.natCast_emod i (base.length + 1)).symm
            have zc : ∀ a b : Option Int, (cutS base a b).length ≤ 6 := fun a b => Nat.le_trans (cutS_length base a b) hbz
            refine ⟨_, rfl, _, rfl, _, _, rfl, rfl, z1, _, rfl, _, rfl, _, _, rfl, rfl, z2, ?_⟩
            refine ⟨_, rfl, _, rfl, _, rfl, _, rfl, _, rfl, Nat.le_of_lt (small1000 (by omega)), _, _, rfl, rfl, _, _, rfl, rfl, (by show (0 : Int) < (base.length : Int) + 1; omega), _, rfl, base, rfl, Nat.le_of_lt (small1000 (by omega)), _, _, rfl, rfl, ?_, ?_⟩
            · have := zc none (some ((0 + (i : Int)) % ((base.length : Int) + 1)))
              exact Nat.le_of_lt (small1000 (by omega))
            have c1 := zc none (some 1)
            have c2 := zc (some 1) none
            have c3 : (cutS base none (some 1) ++ mark).length ≤ 8 := by
              rw [strLen_append]
              omega
            refine ⟨_, rfl, 1, rfl, base, rfl, Nat.le_of_lt (small1000 (by omega)), _, rfl, _, _, rfl, rfl, Nat.le_of_lt (small1000 (by omega)), _, rfl, 1, rfl, base, rfl, Nat.le_of_lt (small1000 (by omega)), _, _, rfl, rfl, Nat.le_of_lt (small1000 (by omega)), by show 4 ≤ sizeLine; decide, fun q2 nq2 => ?_⟩
            have e0 : base ++ mark = ofL (shapeL base.cps.toList mark.cps.toList i 0) := str_ext (by rw [app_list, ofL_list]; rfl)
            have e1 : mark ++ base = ofL (shapeL base.cps.toList mark.cps.toList i 1) := str_ext (by rw [app_list, ofL_list]; rfl)
            have e2 : mark ++ cutS base none (some ((0 + (i : Int)) % ((base.length : Int) + 1))) = ofL (shapeL base.cps.toList mark.cps.toList i 2) := str_ext (by
              rw [app_list, ofL_list, ek, cutS_take, len_list]
              rfl)
            have e3 : cutS base none (some 1) ++ mark ++ cutS base (some 1) none = ofL (shapeL base.cps.toList mark.cps.toList i 3) := str_ext (by
              rw [app_list, app_list, ofL_list, show (1 : Int) = ((1 : Nat) : Int) from rfl, cutS_take, cutS_drop]
              rfl)
            have hat : ([V.str (base ++ mark), V.str (mark ++ base), V.str (mark ++ cutS base none (some ((0 + (i : Int)) % ((base.length : Int) + 1)))), V.str (cutS base none (some 1) ++ mark ++ cutS base (some 1) none)] : List V)[sh]? = some (V.str (ofL (shapeL base.cps.toList mark.cps.toList i sh))) := by
              rw [e0, e1, e2, e3]
              match sh, hsh with
              | 0, _ => rfl
              | 1, _ => rfl
              | 2, _ => rfl
              | 3, _ => rfl
            have nlq : l ≠ q2 := ne_of_none hl4 nq2
            generalize ([V.str (base ++ mark), V.str (mark ++ base), V.str (mark ++ cutS base none (some ((0 + (i : Int)) % ((base.length : Int) + 1)))), V.str (cutS base none (some 1) ++ mark ++ cutS base (some 1) none)] : List V) = four at hat
            rw [hml] at hat
            have hl5 : (upd H3 q2 (.lst four)) l = some (.lst (((List.range i).map fun k => ofL (fixL (shapeL base.cps.toList (markL m st k) k sh))).map V.str)) := by
              rw [upd_ne nlq]
              exact hl4
            have u5 : Upto p H (upd H3 q2 (.lst four)) := u4.trans (Upto.of (same_upd nq2))
            have B5 : BagAt (upd H3 q2 (.lst four)) p := by
              obtain ⟨b, hb, hv⟩ := B4
              exact ⟨b, by rw [upd_ne (ne_of_none hb nq2)]; exact hb, hv⟩
            refine ⟨_, rfl, .inl ⟨rfl, _, .inl (.inl hl5)⟩, ?_⟩
            refine ⟨_, rfl, _, rfl, q2, _, _, _, rfl, rfl, .inl (.inl upd_same), atI_nat hat, rfl, _, rfl, ?_⟩
            have more : (((List.range i).map fun k => ofL (fixL (shapeL base.cps.toList (markL m st k) k sh))).map V.str) ++ [V.str (ofL (fixL (shapeL base.cps.toList (markL m st i) i sh)))] = ((List.range (i + 1)).map fun k => ofL (fixL (shapeL base.cps.toList (markL m st k) k sh))).map V.str := by
              rw [List.range_succ, List.map_append, List.map_append]
              rfl
            have fin : ∀ y : Str, y = ofL (fixL (shapeL base.cps.toList (markL m st i) i sh)) → Upto p H (upd (upd H3 q2 (.lst four)) l (.lst ((((List.range i).map fun k => ofL (fixL (shapeL base.cps.toList (markL m st k) k sh))).map V.str) ++ [V.str y]))) ∧
                BagAt (upd (upd H3 q2 (.lst four)) l (.lst ((((List.range i).map fun k => ofL (fixL (shapeL base.cps.toList (markL m st k) k sh))).map V.str) ++ [V.str y]))) p ∧
                (upd (upd H3 q2 (.lst four)) l (.lst ((((List.range i).map fun k => ofL (fixL (shapeL base.cps.toList (markL m st k) k sh))).map V.str) ++ [V.str y]))) l = some (.lst (((List.range (i + 1)).map fun k => ofL (fixL (shapeL base.cps.toList (markL m st k) k sh))).map V.str)) := by
              rintro y rfl
              refine ⟨?_, ?_, ?_⟩
              · intro b o hb hn
                rw [upd_ne (ne_of_none hb nlH)]
                exact u5 b o hb hn
              · obtain ⟨b, hb, hv⟩ := B5
                exact ⟨b, by rw [upd_ne npl]; exact hb, hv⟩
              · rw [upd_same, more]
            have sz : (((List.range i).map fun k => ofL (fixL (shapeL base.cps.toList (markL m st k) k sh))).map V.str).length < sizeLine := by
              rw [List.length_map, List.length_map, List.length_range]
              exact small1000 (by omega)
            refine ite2 (fun hc => ?_) (fun hc => ?_)
            · have hc := of_decide_eq_true hc
              have hc : ofL (shapeL base.cps.toList (markL m st i) i sh) = "sea" := V.str.inj hc
              have hL : shapeL base.cps.toList (markL m st i) i sh = seaL := by
                rw [← sea_list, ← hc, ofL_list]
              have ey : ("seas" : Str) = ofL (fixL (shapeL base.cps.toList (markL m st i) i sh)) := str_ext (by
                rw [seas_list, ofL_list, fixL, if_pos hL])
              obtain ⟨f1, f2, f3⟩ := fin _ ey
              exact ⟨l, _, _, rfl, rfl, hl5, sz, _, _, _, rfl, f1, f2, f3⟩
            · have hL : ¬ shapeL base.cps.toList (markL m st i) i sh = seaL := fun z => hc (decide_eq_true (by rw [z]; exact congrArg V.str (str_ext (by rw [sea_list, ofL_list]))))
              have ey : ofL (shapeL base.cps.toList (markL m st i) i sh) = ofL (fixL (shapeL base.cps.toList (markL m st i) i sh)) := by
                rw [fixL, if_neg hL]
              obtain ⟨f1, f2, f3⟩ := fin _ ey
              refine ⟨_, rfl, _, rfl, q2, _, _, _, rfl, rfl, .inl (.inl upd_same), atI_nat hat, ?_⟩
              exact ⟨l, _, _, rfl, rfl, hl5, sz, _, _, _, rfl, f1, f2, f3⟩
        · rintro σ H3 ⟨v7, v8, v9, rfl, u4, B4, hl4⟩
          have em : ((m : Int) - 0).toNat = m := by omega
          rw [em] at hl4
          exact ⟨_, rfl, k H3 l _ u4 B4 nlH npl.symm hl4 (by simp) (names_ok hb1 hb2 hm2)⟩
end
end K0
end

/-! ## K0R -/
section
set_option Elab.async false
set_option linter.all false
set_option maxRecDepth 100000
namespace K0
open PySem PySem.Spec PyProof.Rows L2
abbrev Row := Str × Str
/-- rows that make a river -/
structure GoodRows (R : List Row) : Prop where
  one : 1 ≤ R.length
  most : R.length ≤ 40
  nm : NamesOk (R.map (·.1))
  rank : ∃ rk : Str → Nat, ∀ r ∈ R, r.2 = "sea" ∨ (r.2 ∈ R.map (·.1) ∧ rk r.2 < rk r.1)
theorem NamesOk.perm {a b : List Str} (p : a.Perm b) (h : NamesOk b) : NamesOk a := ⟨fun x hx => h.ok x (p.mem_iff.mp hx), fun x hx => h.sea x (p.mem_iff.mp hx), p.nodup_iff.mpr h.nd, fun x hx hq => h.qq x (p.mem_iff.mp hx) (p.mem_iff.mp hq), fun x hx hq => h.dd x (p.mem_iff.mp hx) (p.mem_iff.mp hq), fun x hx t h1 h2 hq => h.on x (p.mem_iff.mp hx) t h1 h2 (p.mem_iff.mp hq)⟩
theorem GoodRows.perm {a b : List Row} (p : a.Perm b) (h : GoodRows b) : GoodRows a := by
  obtain ⟨rk, hr⟩ := h.rank
  refine ⟨by rw [p.length_eq]; exact h.one, by rw [p.length_eq]; exact h.most, h.nm.perm (p.map _), rk, fun r hm => ?_⟩
  rcases hr r (p.mem_iff.mp hm) with e | ⟨e1, e2⟩
  · exact .inl e
  · exact .inr ⟨(p.map _).mem_iff.mpr e1, e2⟩
theorem perm_lift {α β : Type} {f : α → β} {l1 l2 : List β} (p : l1.Perm l2) : ∀ xs : List α, l2 = xs.map f → ∃ xs' : List α, l1 = xs'.map f ∧ xs'.Perm xs := by
  induction p with
  | nil => intro xs e; cases xs with
    | nil => exact ⟨[], rfl, .nil⟩
    | cons a t => cases e
  | cons x _ ih => intro xs e; cases xs with
    | nil => cases e
    | cons a t =>
      injection e with e1 e2
      obtain ⟨t', h1, h2⟩ := ih t e2
      exact ⟨a :: t', by rw [List.map_cons, ← h1, e1], h2.cons a⟩
  | swap x y l => intro xs e; match xs, e with
    | a :: b :: t, e =>
      injection e with e1 e2
      injection e2 with e2 e3
      exact ⟨b :: a :: t, by rw [List.map_cons, List.map_cons, ← e1, ← e2, ← e3], .swap a b t⟩
  | trans _ _ ih1 ih2 =>
    intro xs e
    obtain ⟨ys, h1, h2⟩ := ih2 xs e
    obtain ⟨zs, h3, h4⟩ := ih1 ys h1
    exact ⟨zs, h3, h4.trans h2⟩
/-- a list of pairs of texts, each in a tuple of its own -/
structure RowsAt (H : Hp) (l : Addr) (AR : List (Addr × Row)) : Prop where
  lst : H l = some (.lst (AR.map fun q => V.ref q.1))
  tup : ∀ q ∈ AR, H q.1 = some (.tup [.str q.2.1, .str q.2.2])
abbrev rowsOf (AR : List (Addr × Row)) : List Row := AR.map (·.2)
theorem bag_ne {H : Hp} {p : Addr} {a : Addr} {xs : List V} (B : BagAt H p) (h : H a = some (.tup xs)) : a ≠ p := by
  obtain ⟨b, hb, _⟩ := B
  exact ne_of h hb (fun z => by cases z)
theorem RowsAt.upto {H H' : Hp} {p l : Addr} {AR : List (Addr × Row)} (r : RowsAt H l AR) (B : BagAt H p) (n : l ≠ p) (u : Upto p H H') : RowsAt H' l AR :=
  ⟨u _ _ r.lst n, fun q hq => u _ _ (r.tup q hq) (bag_ne B (r.tup q hq))⟩
theorem RowsAt.same {H H' : Hp} {l : Addr} {AR : List (Addr × Row)} (r : RowsAt H l AR) (u : Same H H') : RowsAt H' l AR :=
  ⟨u _ _ r.lst, fun q hq => u _ _ (r.tup q hq)⟩
def spLRiver : Sp := fun vs H Q _ => ∃ (p : Addr) (m : Nat), vs = [.ref p, .int (m : Int)] ∧ BagAt H p ∧ 1 ≤ m ∧ m ≤ 40 ∧
  ∀ (H' : Hp) (l : Addr) (AR : List (Addr × Row)), Upto p H H' → BagAt H' p → H l = none → l ≠ p → RowsAt H' l AR → GoodRows (rowsOf AR) → (rowsOf AR).length = m → Q (.ref l) H'
/-- rows built so far -/
structure Sofar (ns : List Str) (i : Nat) (R : List Row) : Prop where
  fst : R.map (·.1) = ns.take i
  snd : ∀ r ∈ R, r.2 = "sea" ∨ (r.2 ∈ ns ∧ ns.idxOf r.2 < ns.idxOf r.1)
theorem Sofar.good {ns : List Str} {R : List Row} (h : Sofar ns ns.length R) (hn : NamesOk ns) (h1 : 1 ≤ ns.length) (h2 : ns.length ≤ 40) : GoodRows R := by
  have e := h.fst
  rw [List.take_length] at e
  have el : R.length = ns.length := by rw [← e, List.length_map]
  refine ⟨by omega, by omega, by rw [e]; exact hn, fun x => ns.idxOf x, fun r hr => ?_⟩
  rw [e]
  exact h.snd r hr
theorem idx_at {ns : List Str} (hd : ns.Nodup) {i : Nat} {x : Str} (h : ns[i]? = some x) : ns.idxOf x = i := by
  obtain ⟨h1, h2⟩ := List.getElem?_eq_some_iff.mp h
  have h3 : ns.idxOf x < ns.length := List.idxOf_lt_length_iff.mpr (List.mem_of_getElem? h)
  have h4 : ns[ns.idxOf x]? = some x := by
    rw [List.getElem?_eq_getElem h3, List.getElem_idxOf h3]
  exact nd_ix hd h4 h
theorem Sofar.more {ns : List Str} {i : Nat} {R : List Row} (hd : ns.Nodup) (h : Sofar ns i R) {x y : Str} (hx : ns[i]? = some x) (hy : y = "sea" ∨ ∃ j, j < i ∧ ns[j]? = some y) : Sofar ns (i + 1) (R ++ [(x, y)]) := by
  refine ⟨?_, fun r hr => ?_⟩
  · rw [List.map_append, h.fst, List.take_add_one, hx]
    rfl
  · rcases List.mem_append.mp hr with hr | hr
    · exact h.snd r hr
    · rw [List.mem_singleton.mp hr]
      rcases hy with e | ⟨j, hj, e⟩
      · exact .inl e
      · refine .inr ⟨List.mem_of_getElem? e, ?_⟩
        show ns.idxOf y < ns.idxOf x
        rw [idx_at hd hx, idx_at hd e]
        exact hj
abbrev scLRiver_N : List Str := ["_law_bag_here", "_law_many", "_law_names_here", "_law_rows", "_law_k", "_law_way"]
theorem scLRiver : FnScope scLRiver_N ["_law_bag_here", "_law_many"] (defScope sLRiver) := ⟨rfl, rfl, rfl, by decide +kernel, rfl, by decide +kernel, by decide +kernel⟩
section
variable {P : Program} {w : World} {K : PySem.W.Frag} {mg : Str → Option Value} {base : Heap}
/-- the functions of the law's helpers, by their addresses -/
structure Hf (K : PySem.W.Frag) (mg : Str → Option Value) : Prop where
  B : Bl mg
  take : ∃ f fd, FnP K "_law_take" sTake f fd ∧ mg "_law_take" = some (.ref f)
  of : ∃ f fd, FnP K "_law_of" sOf f fd ∧ mg "_law_of" = some (.ref f)
  mixed : ∃ f fd, FnP K "_law_mixed" sMixed f fd ∧ mg "_law_mixed" = some (.ref f)
  names : ∃ f fd, FnP K "_law_names" sNames f fd ∧ mg "_law_names" = some (.ref f)
theorem ok_lriver {f : Addr} {fd : FuncData} (F : FnP K "_law_river" sLRiver f fd) (T : Hf K mg) : FnOk P w K mg base CX0 4 f fd ["_law_bag_here", "_law_many"] spLRiver := by
  obtain ⟨fT, fdT, F_law_take, g_law_take⟩ := T.take
  obtain ⟨fO, fdO, F_law_of, g_law_of⟩ := T.of
  obtain ⟨fM, fdM, F_law_mixed, g_law_mixed⟩ := T.mixed
  obtain ⟨fN, fdN, F_law_names, g_law_names⟩ := T.names
  have B := T.B
  have G_law_take : FnOk P w K mg base CX0 1 fT fdT ["_law_bag_here", "_law_many"] spTake := ok_take F_law_take B
  have b_law_take : Binds K fdT ["_law_bag_here", "_law_many"] [] := F_law_take.bindsN fun _ _ _ _ _ _ us hl => match us, hl with | [_, _], _ => rfl
  have G_law_mixed : FnOk P w K mg base CX0 2 fM fdM ["_law_bag_here", "_law_some"] (spMixed K) := ok_mixed F_law_mixed F_law_take B g_law_take
  have b_law_mixed : Binds K fdM ["_law_bag_here", "_law_some"] [] := F_law_mixed.bindsN fun _ _ _ _ _ _ us hl => match us, hl with | [_, _], _ => rfl
  have G_law_names : FnOk P w K mg base CX0 3 fN fdN ["_law_bag_here", "_law_many"] spNames := ok_names F_law_names F_law_take F_law_of B g_law_take g_law_of
  have b_law_names : Binds K fdN ["_law_bag_here", "_law_many"] [] := F_law_names.bindsN fun _ _ _ _ _ _ us hl => match us, hl with | [_, _], _ => rfl
  refine F.ok scLRiver (fun vs H Q E h => ?_) (fun cdv A outer s H vs Q E hr h => ?_)
  · obtain ⟨p, m, rfl, _⟩ := h
    rfl
  · obtain ⟨p, m, rfl, hB, hm1, hm2, k⟩ := h
    have hr_law_take : Room 1 _ := hr.mono (by decide)
    have hr_law_mixed : Room 2 _ := hr.mono (by decide)
    have hr_law_names : Room 3 _ := hr.mono (by decide)
    refine ⟨_, PSs.nox (pss_cons
      (ps_par (i := 2) (j := 3) (by rfl) scLRiver.nd rfl rfl (by decide) rfl rfl (pa_cons (pe_call G_law_names hr_law_names (by rfl) g_law_names F_law_names.kp b_law_names .nil pass0 (pa_cons (pv 0) (pa_cons (pv 1) pa_nil))) (pa_cons (pe_lst pa_nil) pa_nil)) (by rfl))
      (pss_cons
      (ps_for PassesOwn.never rfl (pi_range1 (by rfl) B.range (pa_cons (pv 1) pa_nil)) (pg_name (i := 4) scLRiver.nd rfl (Or.inl rfl)) (pss_cons
      (ps_set (i := 5) scLRiver.nd rfl (Or.inl rfl) (pe_call G_law_take hr_law_take (by rfl) g_law_take F_law_take.kp b_law_take .nil pass0 (pa_cons (pv 0) (pa_cons pe_int pa_nil))))
      (pss_one
      (ps_if (PW.pt (pw_or (pt_cmpR op_eq (pv 4) pe_int (nomark _)) (pw_or1 (pt_cmpR op_eq (pv 5) pe_int (nomark _))))) (pss_one
      (ps_expr (pe_bm PySem.F.plainAttrs_list PySem.F.slot_list_append PySem.F.type_list_append mt_append (pv 3) (pa_cons (pe_tup (pa_cons (pe_ix ix_list (pv 2) (pv 4) (fun _ _ => rfl)) (pa_cons pe_str pa_nil))) pa_nil)))) (pss_one
      (ps_expr (pe_bm PySem.F.plainAttrs_list PySem.F.slot_list_append PySem.F.type_list_append mt_append (pv 3) (pa_cons (pe_tup (pa_cons (pe_ix ix_list (pv 2) (pv 4) (fun _ _ => rfl)) (pa_cons (pe_ifExp (pt_cmpR op_lt (pv 5) pe_int (nomark _)) (pe_ix ix_list (pv 2) (pe_op op_sub (pv 4) pe_int) (fun _ _ => rfl)) (pe_ix ix_list (pv 2) (pe_call G_law_take hr_law_take (by rfl) g_law_take F_law_take.kp b_law_take .nil pass0 (pa_cons (pv 0) (pa_cons (pv 4) pa_nil))) (fun _ _ => rfl))) pa_nil))) pa_nil))))))))
      (pss_one
      (ps_ret (pe_call G_law_mixed hr_law_mixed (by rfl) g_law_mixed F_law_mixed.kp b_law_mixed .nil pass0 (pa_cons (pv 0) (pa_cons (pv 3) pa_nil))))))), ?_⟩
    refine ⟨_, rfl, _, rfl, p, m, rfl, hB, hm1, by omega, fun H1 n ns u1 B1 nn nnp hn hlen hok => ?_⟩
    refine ⟨Nat.zero_le _, fun l nl => ⟨_, _, rfl, ?_⟩⟩
    have nln : n ≠ l := ne_of_none hn nl
    obtain ⟨b1, hb1, hv1⟩ := id B1
    have npl : p ≠ l := ne_of_none hb1 nl
    have nlH : H l = none := by
      cases e : H l with
      | none => rfl
      | some o =>
        rw [u1 l o e npl.symm] at nl
        cases nl
    refine ⟨_, rfl, (m : Int), rfl, by omega, by omega, ?_⟩
    refine for_range (lo := 0) (n := ((m : Int) - 0).toNat) (fun i σ H3 => ∃ (v4 v5 : Option V) (AR : List (Addr × Row)), σ = [some (.ref p), some (.int (m : Int)), some (.ref n), some (.ref l), v4, v5] ∧ Upto p H H3 ∧ BagAt H3 p ∧ H3 n = some (.lst (ns.map V.str)) ∧ RowsAt H3 l AR ∧ Sofar ns i (rowsOf AR))
      ⟨none, none, [], rfl, u1.trans (Upto.of (same_upd nl)), ⟨b1, by rw [upd_ne npl]; exact hb1, hv1⟩, by rw [upd_ne nln]; exact hn, ⟨upd_same, fun q hq => nomatch hq⟩, ⟨by rw [List.take_zero]; rfl, fun r hr => nomatch hr⟩⟩ ?_ ?_
    · rintro i σ H3 hi ⟨v4, v5, AR, rfl, u3, B3, hn3, hR, hS⟩
      have him : i < ns.length := by omega
      have hnx : ns[i]? = some ns[i] := List.getElem?_eq_getElem him
      have hat : (ns.map V.str)[i]? = some (.str ns[i]) := by
        rw [List.getElem?_map, hnx]
        rfl
      have hARl : AR.length = i := by
        have := congrArg List.length hS.fst
        rw [List.length_map, List.length_map, List.length_take] at this
        omega
      have fin : ∀ (H4 : Hp) (t : Addr) (y : Str), Upto p H H4 → BagAt H4 p → H4 n = some (.lst (ns.map V.str)) → RowsAt H4 l AR → H4 t = none → (y = "sea" ∨ ∃ j, j < i ∧ ns[j]? = some y) →
          (upd H4 t (.tup [.str ns[i], .str y])) l = some (.lst (AR.map fun q => V.ref q.1)) ∧ (AR.map fun q => V.ref q.1).length < sizeLine ∧ ∃ AR' : List (Addr × Row),
          Upto p H (upd (upd H4 t (.tup [.str ns[i], .str y])) l (.lst ((AR.map fun q => V.ref q.1) ++ [.ref t]))) ∧ BagAt (upd (upd H4 t (.tup [.str ns[i], .str y])) l (.lst ((AR.map fun q => V.ref q.1) ++ [.ref t]))) p ∧
          (upd (upd H4 t (.tup [.str ns[i], .str y])) l (.lst ((AR.map fun q => V.ref q.1) ++ [.ref t]))) n = some (.lst (ns.map V.str)) ∧ RowsAt (upd (upd H4 t (.tup [.str ns[i], .str y])) l (.lst ((AR.map fun q => V.ref q.1) ++ [.ref t]))) l AR' ∧ Sofar ns (i + 1) (rowsOf AR') := by
        intro H4 t y u4 B4 hn4 hR4 ht hy
        have nlt : l ≠ t := ne_of_none hR4.lst ht
        have nnt : n ≠ t := ne_of_none hn4 ht
        obtain ⟨b4, hb4, hv4⟩ := B4
        have npt : p ≠ t := ne_of_none hb4 ht
        refine ⟨by rw [upd_ne nlt]; exact hR4.lst, by rw [List.length_map]; exact small1000 (by omega), AR ++ [(t, (ns[i], y))], ?_, ⟨b4, by rw [upd_ne npl, upd_ne npt]; exact hb4, hv4⟩, by rw [upd_ne nln, upd_ne nnt]; exact hn4, ⟨?_, ?_⟩, ?_⟩
        · intro b o hb hne
          have h4 := u4 b o hb hne
          rw [upd_ne (ne_of_none hb nlH), upd_ne (ne_of_none h4 ht)]
          exact h4
        · rw [upd_same, List.map_append]
          rfl
        · intro q hq
          rcases List.mem_append.mp hq with hq | hq
          · have h4 := hR4.tup q hq
            rw [upd_ne (ne_of h4 hR4.lst (fun z => by cases z)), upd_ne (ne_of_none h4 ht)]
            exact h4
          · rw [List.mem_singleton.mp hq, upd_ne nlt.symm, upd_same]
        · show Sofar ns (i + 1) ((AR ++ [(t, (ns[i], y))]).map (·.2))
          rw [List.map_append]
          exact hS.more hok.nd hnx hy
      have nlp : l ≠ p := npl.symm
      have nnp : n ≠ p := nnp
      have step : ∀ xs, BagV xs → Upto p H (upd H3 p (.lst xs)) ∧ BagAt (upd H3 p (.lst xs)) p ∧ (upd H3 p (.lst xs)) n = some (.lst (ns.map V.str)) ∧ RowsAt (upd H3 p (.lst xs)) l AR := fun xs hx =>
        ⟨u3.trans Upto.at_, ⟨xs, upd_same, hx⟩, by rw [upd_ne nnp]; exact hn3, hR.upto B3 nlp Upto.at_⟩
      refine ⟨_, rfl, p, 6, rfl, B3, by decide, by decide, fun r xs hr0 hr1 hx => ?_⟩
      obtain ⟨u4, B4, hn4, hR4⟩ := step xs hx
      refine ⟨_, rfl, rfl, _, rfl, ?_⟩
      refine split_if' (α := Unit) (R := fun _ => True) (C := fun _ => ?C) ?use ?key
      case use =>
        intro key
        refine ite2 (fun hc => ?_) (fun hc => ?_)
        · exact key () trivial
        · refine ⟨_, rfl, rfl, _, rfl, ?_⟩
          refine ite2 (fun hd => ?_) (fun hd => ?_)
          · exact key () trivial
          · have hi0 : 0 < i := by
              rcases Nat.eq_zero_or_pos i with e | e
              · subst e
                exact absurd (decide_eq_true rfl) hc
              · exact e
            refine ⟨_, rfl, .inl ⟨rfl, _, .inl (.inl hR4.lst)⟩, _, rfl, _, rfl, n, _, _, _, rfl, rfl, .inl (.inl hn4), at_of (by omega) hat, ?_⟩
            refine ⟨_, rfl, r, 4, rfl, rfl, _, rfl, ?_⟩
            refine ite2 (fun he => ?_) (fun he => ?_)
            · have hat2 : (ns.map V.str)[i - 1]? = some (.str ns[i - 1]) := by
                rw [List.getElem?_map, List.getElem?_eq_getElem (by omega)]
                rfl
              refine ⟨_, rfl, _, rfl, _, _, rfl, rfl, n, _, _, _, rfl, rfl, .inl (.inl hn4), at_of (j := i - 1) (by omega) hat2, ?_⟩
              refine ⟨by show 2 ≤ sizeLine; decide, fun t nt => ?_⟩
              obtain ⟨f1, f2, AR', f3, f4, f5, f6, f7⟩ := fin _ t ns[i - 1] u4 B4 hn4 hR4 nt (.inr ⟨i - 1, by omega, List.getElem?_eq_getElem (by omega)⟩)
              exact ⟨l, _, _, rfl, rfl, f1, f2, _, _, AR', rfl, f3, f4, f5, f6, f7⟩
            · refine ⟨_, rfl, _, rfl, _, rfl, p, _, rfl, B4, by omega, by omega, fun r2 xs2 hr20 hr21 hx2 => ?_⟩
              have hj : r2.toNat < i := by omega
              have hat2 : (ns.map V.str)[r2.toNat]? = some (.str ns[r2.toNat]) := by
                rw [List.getElem?_map, List.getElem?_eq_getElem (by omega)]
                rfl
              have u5 : Upto p H (upd (upd H3 p (.lst xs)) p (.lst xs2)) := u4.trans Upto.at_
              have hn5 : (upd (upd H3 p (.lst xs)) p (.lst xs2)) n = some (.lst (ns.map V.str)) := by
                rw [upd_ne nnp]
                exact hn4
              refine ⟨n, _, _, _, rfl, rfl, .inl (.inl hn5), at_of (j := r2.toNat) (by omega) hat2, ?_⟩
              refine ⟨by show 2 ≤ sizeLine; decide, fun t nt => ?_⟩
              obtain ⟨f1, f2, AR', f3, f4, f5, f6, f7⟩ := fin _ t ns[r2.toNat] u5 ⟨xs2, upd_same, hx2⟩ hn5 (hR4.upto B4 nlp Upto.at_) nt (.inr ⟨r2.toNat, hj, List.getElem?_eq_getElem (by omega)⟩)
              exact ⟨l, _, _, rfl, rfl, f1, f2, _, _, AR', rfl, f3, f4, f5, f6, f7⟩
      case key =>
        intro _ _
        refine ⟨_, rfl, .inl ⟨rfl, _, .inl (.inl hR4.lst)⟩, _, rfl, _, rfl, n, _, _, _, rfl, rfl, .inl (.inl hn4), at_of (by omega) hat, ?_⟩
        refine ⟨by show 2 ≤ sizeLine; decide, fun t nt => ?_⟩
        obtain ⟨f1, f2, AR', f3, f4, f5, f6, f7⟩ := fin _ t "sea" u4 B4 hn4 hR4 nt (.inl rfl)
        exact ⟨l, _, _, rfl, rfl, f1, f2, _, _, AR', rfl, f3, f4, f5, f6, f7⟩
    · rintro σ H3 ⟨v4, v5, AR, rfl, u3, B3, hn3, hR, hS⟩
      have em : ((m : Int) - 0).toNat = ns.length := by omega
      rw [em] at hS
      have hG : GoodRows (rowsOf AR) := hS.good hok (by omega) (by omega)
      have hlA : (rowsOf AR).length = AR.length := List.length_map _
      have hG1 := hG.most
      refine ⟨_, rfl, _, rfl, p, l, _, rfl, B3, npl.symm, .inl (.inl hR.lst), by rw [List.length_map]; omega, fun H5 l5 zs u5 B5 nl5 nl5p hl5 hp => ?_⟩
      obtain ⟨AR', e1, hp'⟩ := perm_lift hp AR rfl
      subst e1
      have nl5H : H l5 = none := by
        cases e : H l5 with
        | none => rfl
        | some o =>
          rw [u3 l5 o e nl5p] at nl5
          cases nl5
      refine k H5 l5 AR' (u3.trans u5) B5 nl5H nl5p ⟨hl5, fun q hq => ?_⟩ (hG.perm (hp'.map _)) ?_
      · have h3 := hR.tup q (hp'.mem_iff.mp hq)
        exact u5 _ _ h3 (bag_ne B3 h3)
      · rw [(hp'.map (·.2)).length_eq]
        have := congrArg List.length hS.fst
        rw [List.length_map, List.take_length] at this
        show (rowsOf AR).length = m
        omega
end
end K0
end

/-! ## K0P -/
section
set_option Elab.async false
set_option linter.all false
set_option maxRecDepth 100000
namespace L2
open PySem PySem.Spec PyProof.Rows
section
variable {X : Cx}
/-- name = {..} on one line, the name a local -/
theorem k0_setDc {i : Nat} {y : Str} {py : Pos} {kx vx tg iter : Expr} {ifs : List Expr} {scope : Scope} {own : List (Str × Nat)} {pos spos : Pos} {wi : TI} {g : TG} {tt : TT} {tk tv : TE} (hc : X.calm = true) (hN : X.N.Nodup) (hy : X.N[i]? = some y) (hyl : X.env.scope.names.lookup y = some .local)
    (hsw : swapsWith (.DictComp kx vx [⟨tg, iter, ifs, 0⟩] scope pos) (some (.Name y py)) spos.line X.env = pure true) (hi : PI X tg iter wi) (ok : BlkOk X.N X.env.scope scope own)
    (hg : ∀ (s : Shared) (H : Hp) (C : Addr) (cl : List (Str × Addr)) (fp : List Addr), PG (X.blk s H scope (compEnvC scope cl C X.env) fp) tg g) (ht : ∀ (s : Shared) (H : Hp) (C : Addr) (cl : List (Str × Addr)) (fp : List Addr), PTs (X.blk s H scope (compEnvC scope cl C X.env) fp) ifs tt)
    (hk : ∀ (s : Shared) (H : Hp) (C : Addr) (cl : List (Str × Addr)) (fp : List Addr), PE (X.blk s H scope (compEnvC scope cl C X.env) fp) kx tk)
    (he : ∀ (s : Shared) (H : Hp) (C : Addr) (cl : List (Str × Addr)) (fp : List Addr), PE (X.blk s H scope (compEnvC scope cl C X.env) fp) vx tv) (hs : ∀ x, foldedSetIterable iter X.env x = pure x := by intro _; rfl) :
    PS X (.Assign [.Name y py] (.DictComp kx vx [⟨tg, iter, ifs, 0⟩] scope pos) spos) (tAsg (tDc wi g tt tk tv (own.map (·.2))) (gName i)) := by
  refine ⟨fun pins s σ H D I h => ?_⟩
  rw [exec_Assign_Name_used _ _ _ _ hsw]
  refine wpAny_bind (wpAny_standAt (wpAny_bind ?_))
  show wpAny _ X.A (do let _ ← comprehension (.DictComp kx vx [⟨tg, iter, ifs, 0⟩] scope pos) scope X.env (firstIterPos [⟨tg, iter, ifs, 0⟩] pos) newDict false (eval iter X.env) (some (assign (.Name y py) X.env))) _ _ s
  have h : tDc wi g tt tk tv (own.map (·.2)) σ H (fun x H1 => gName i x σ H1 D.nx) := h
  refine wpAny_bind (thn (dc_core (Qf := fun _ s' => SP X pins D .next s') hc hN I hi ok hg ht hk he hs h fun L C s' m H' I' q hn f => ?_) fun _ s' hq => wpAny_pure (wpAny_pure hq))
  show wpAny _ _ (assign (.Name y py) X.env (.ref L)) _ _ _
  refine wpAny_assign_Name (store_ok2 (v := V.ref L) I' hN hy (.inl hyl) rfl (fun s2 I2 ⟨a, sb, ha⟩ => ?_) (.inr hyl))
  obtain ⟨f0, f1, f2, f3, f4, f5⟩ := f
  have haC : C ≠ a := by
    rcases ha with z | z
    · rw [z]; exact f1
    · exact fun e => f4 y a z e.symm
  refine ⟨m, hn.sameBut sb haC, fun h3 sb3 => ?_⟩
  exact ⟨_, H', I2.turned (t' := s2.toks) (fun b o hb e => (sb3.2 b hb).trans e) f0 f1 f3 f4 f5, q⟩
theorem k0_sw {kx vx : Expr} {gs : List Comprehension} {scope : Scope} {pos py : Pos} {y : Str} {l : Nat} {env : Env} (hk : env.scope.kind = .function) (hy : env.scope.names.lookup y = some .local) (hl : (py.line == pos.line) = true)
    (ha : (scope.names.any fun (n, k) => n == y && (k == .local || k == .cell)) = false) : swapsWith (.DictComp kx vx gs scope pos) (some (.Name y py)) l env = pure true := by
  have ky : env.kindOf y = some .local := hy
  have hb : env.blockKind = .function := by unfold Env.blockKind; rw [hk]; rfl
  unfold swapsWith
  simp only [hb, ky, ha, Expr.pos, hl]
  rfl
/-- len of a dict, locked or not -/
theorem k0_lenD : CallR X (.builtin "len") (fun xs H Q => ∃ a kvs, xs = [V.ref a] ∧ Rd H a (.dK kvs) ∧ Q (.int kvs.length) H) := by
  intro pins s σ H xs us Q I r h
  obtain ⟨a, kvs, rfl, ha, q⟩ := h
  obtain ⟨u, rfl, ru⟩ := vals1 r
  cases ru
  exact d_len I ha fun t s' I' => ⟨.int kvs.length, H, I', ⟨t, rfl⟩, q⟩
end
end L2
namespace K0
open PySem PySem.Spec PyProof.Rows L2
theorem iteD {c A B : Prop} [Decidable c] (hc : c) (h : A) : if decide c = true then A else B := by
  rw [decide_eq_true hc]
  exact iteT h
theorem iteDn {c A B : Prop} [Decidable c] (hc : ¬ c) (h : B) : if decide c = true then A else B := by
  rw [decide_eq_false hc]
  exact iteF h
/-- the module's constants -/
structure Gc (mg : Str → Option Value) (tS tM tL : Tok) : Prop where
  SEA : mg "SEA" = some (.str "sea" tS)
  MOST_ROWS : mg "MOST_ROWS" = some (.int 40 tM)
  LONGEST_NAME : mg "LONGEST_NAME" = some (.int 8 tL)
abbrev scIsName_N : List Str := ["value", "letter"]
abbrev scIsName_S : Stmt := sIsName
theorem scIsName : FnScope scIsName_N ["value"] (defScope sIsName) := ⟨rfl, rfl, rfl, by decide +kernel, rfl, by decide +kernel, by decide +kernel⟩
theorem scIsRow : FnScope ["entry"] ["entry"] (defScope sIsRow) := ⟨rfl, rfl, rfl, by decide +kernel, rfl, by decide +kernel, by decide +kernel⟩
def spIsName : Sp := fun vs H Q _ => ∃ x : Str, vs = [.str x] ∧ NameOk x ∧ ∀ H', Same H H' → Q (.bl true) H'
/-- a row: a name that is not the sea's, and a name -/
structure RowOk (r : Row) : Prop where
  a : NameOk r.1
  b : NameOk r.2
  s : r.1 ≠ "sea"
def spIsRow (K : PySem.W.Frag) : Sp := fun vs H Q _ => ∃ (t : Addr) (r : Row), vs = [.ref t] ∧ H t = some (.tup [.str r.1, .str r.2]) ∧ RowOk r ∧ ∀ H', Same H H' → Q (.bl true) H'
theorem le_low1 {c : Nat} (h : Low c) : (!decide (([c] : List Nat) < [97])) = true := by
  have : ¬ ([c] : List Nat) < [97] := by
    intro z
    rw [List.cons_lt_cons_iff] at z
    rcases z with z | ⟨_, z⟩
    · have := h.1; omega
    · exact absurd z (List.not_lt_nil _)
  rw [decide_eq_false this]
  rfl
theorem le_low2 {c : Nat} (h : Low c) : (!decide (([122] : List Nat) < [c])) = true := by
  have : ¬ ([122] : List Nat) < [c] := by
    intro z
    rw [List.cons_lt_cons_iff] at z
    rcases z with z | ⟨_, z⟩
    · have := h.2; omega
    · exact absurd z (List.not_lt_nil _)
  rw [decide_eq_false this]
  rfl
theorem sea_ok : NameOk "sea" := ⟨by rw [sea_list]; decide, by rw [sea_list]; decide, by
  rw [sea_list]
  intro c hc
  have : c = 115 ∨ c = 101 ∨ c = 97 := by simpa [seaL] using hc
  constructor <;> omega⟩
section
variable {P : Program} {w : World} {K : PySem.W.Frag} {mg : Str → Option Value} {base : Heap} {tS tM tL : Tok}
theorem ok_isname {f : Addr} {fd : FuncData} (F : FnP K "is_name" sIsName f fd) (B : Bl mg) (C : Gc mg tS tM tL) : FnOk P w K mg base CX0 1 f fd ["value"] spIsName := by
  refine F.ok scIsName (fun vs H Q E h => ?_) (fun cdv A outer s H vs Q E hr h => ?_)
  · obtain ⟨x, rfl, _⟩ := h
    rfl
  · obtain ⟨x, rfl, hx, k⟩ := h
    refine ⟨_, PSs.nox (pss_cons
      (ps_if (pt_not (pt_val (pe_callB call_isi (by rfl) B.isinstance (by decide +kernel) (pa_cons (pv 0) (pa_cons (pe_bltn (v := .ty "str") (by rfl) B.str (by decide +kernel) rfl) pa_nil))))) (pss_one
      (ps_ret pe_bl)) pss_nil)
      (pss_one
      (ps_ret (pe_and (pe_chain op_le op_le pe_int (pe_callB call_len_str (by rfl) B.len PySem.boot_len (pa_cons (pv 0) pa_nil)) (pe_glob (v := .int 8) (by rfl) C.LONGEST_NAME ⟨_, rfl⟩)) (pe_one (pe_callB (cr_all rfl) (by rfl) B.all (by decide +kernel) (pa_cons (pe_lc (own := [("letter", 1)]) (g := gName 1) (tt := tYes) (by rfl) scIsName.nd (pi_str (pv 0)) (blkOk_by (own := [("letter", 1)]) (N := scIsName_N) (sc := defScope scIsName_S) (by decide +kernel)) (fun _ _ _ _ _ => (pg_name (i := 1) scIsName.nd rfl (Or.inl rfl))) (fun _ _ _ _ _ => pts_nil) (fun _ _ _ _ _ => (pe_chain op_le_str op_le_str pe_str (pv 1) pe_str))) pa_nil))))))), ?_⟩
    refine ⟨_, rfl, .str x, .ty "str", _, _, true, rfl, .ty "str", .base (.str x), kit_ty (by decide +kernel), _, rfl, ?_⟩
    refine iteF ?_
    have hz : x.length ≤ sizeLine := Nat.le_of_lt (small1000 (by have := hx.most; rw [len_list]; omega))
    have hz1 : 1 ≤ x.length := by rw [len_list]; exact hx.one
    have hz2 : x.length ≤ 8 := by rw [len_list]; exact hx.most
    refine ⟨_, rfl, x, rfl, hz, 1, (x.length : Int), rfl, rfl, _, rfl, ?_⟩
    refine iteD (by omega) ?_
    refine ⟨_, _, rfl, rfl, _, rfl, ?_⟩
    refine iteD (by omega) ?_
    refine ⟨_, rfl, x, rfl, fun D hD => ?_⟩
    refine lc_it (walk_str (z := x)) (fun i H2 => Same H H2 ∧ H2 D = some (.lst ((List.replicate i true).map V.bl))) ⟨same_upd hD, upd_same⟩ (fun _ _ _ _ => trivial) ?_ ?_
    · rintro i v H2 H3 hi ⟨s2, hD2⟩ ⟨e, c, hc, ev⟩
      subst e
      subst ev
      have hlow : Low c := hx.low c (by
        rw [← Array.getElem?_toList] at hc
        exact List.mem_of_getElem? hc)
      refine ⟨rfl, ?_⟩
      unfold tYes
      refine iteT ?_
      refine ⟨_, rfl, "a", ⟨#[c]⟩, rfl, rfl, _, rfl, ?_⟩
      have q1 := le_low1 hlow
      have q2 := le_low2 hlow
      refine Eq.mpr (if_pos q1) ?_
      refine ⟨⟨#[c]⟩, "z", rfl, rfl, _, hD2, ?_, fun b o hb => ?_, ?_⟩
      · rw [List.length_map, List.length_replicate]
        have h8 := hx.most
        rw [Array.length_toList] at h8
        exact small1000 (by omega)
      · rw [upd_ne (ne_of_none hb hD)]
        exact s2 b o hb
      · rw [upd_same, List.replicate_succ', List.map_append]
        have q3 : (!decide ((("z" : Str)).cps.toList < (⟨#[c]⟩ : Str).cps.toList)) = true := q2
        rw [q3]
        rfl
    · rintro H2 ⟨s2, hD2⟩
      refine ⟨D, List.replicate x.cps.size true, rfl, .inl (.inl hD2), ?_⟩
      have e : ((List.replicate x.cps.size true).all id) = true := by
        rw [List.all_eq_true]
        intro b hb
        exact (List.mem_replicate.mp hb).2
      rw [e]
      exact k H2 s2
theorem ok_isrow {f fN : Addr} {fd fdN : FuncData} (F : FnP K "_is_row" sIsRow f fd) (F_is_name : FnP K "is_name" sIsName fN fdN) (gis_name : mg "is_name" = some (.ref fN)) (B : Bl mg) (C : Gc mg tS tM tL) : FnOk P w K mg base CX0 2 f fd ["entry"] (spIsRow K) := by
  have Gis_name : FnOk P w K mg base CX0 1 fN fdN ["value"] spIsName := ok_isname F_is_name B C
  have bis_name : Binds K fdN ["value"] [] := F_is_name.bindsN fun _ _ _ _ _ _ us hl => match us, hl with | [_], _ => rfl
  refine F.ok scIsRow (fun vs H Q E h => ?_) (fun cdv A outer s H vs Q E hr h => ?_)
  · obtain ⟨t, r, rfl, _⟩ := h
    rfl
  · obtain ⟨t, r, rfl, ht, hR, k⟩ := h
    have hris_name : Room 1 _ := hr.mono (by decide)
    have Fis_name := F_is_name
    refine ⟨_, PSs.nox (pss_cons
      (ps_if (PW.pt (pw_or (pt_not (pt_val (pe_callB call_isi (by rfl) B.isinstance (by decide +kernel) (pa_cons (pv 0) (pa_cons (pe_bltn (v := .ty "tuple") (by rfl) B.tuple (by decide +kernel) rfl) pa_nil))))) (pw_or1 (pt_cmpR op_ne (pe_callB call_len_seq (by rfl) B.len PySem.boot_len (pa_cons (pv 0) pa_nil)) pe_int (nomark _))))) (pss_one
      (ps_ret pe_bl)) pss_nil)
      (pss_one
      (ps_ret (pe_and (pe_call Gis_name hris_name (by rfl) gis_name Fis_name.kp bis_name .nil pass0 (pa_cons (pe_ix ix_tup (pv 0) pe_int (fun _ _ => rfl)) pa_nil)) (pe_and (pe_call Gis_name hris_name (by rfl) gis_name Fis_name.kp bis_name .nil pass0 (pa_cons (pe_ix ix_tup (pv 0) pe_int (fun _ _ => rfl)) pa_nil)) (pe_one (pe_cmpR op_ne (pe_ix ix_tup (pv 0) pe_int (fun _ _ => rfl)) (pe_glob (v := .str "sea") (by rfl) C.SEA ⟨_, rfl⟩) (nomark _)))))))), ?_⟩
    have g : ∀ H', Same H H' → SqT K H' t [.str r.1, .str r.2] := fun H' s => .inl (.inl (s _ _ ht))
    refine ⟨_, rfl, .ref t, .ty "tuple", _, _, true, rfl, .ty "tuple", .base (.tup ht), kit_ty (by decide +kernel), _, rfl, ?_⟩
    refine iteF ?_
    refine ⟨_, rfl, t, _, rfl, .inr (g _ (.refl _)), rfl, _, rfl, ?_⟩
    refine iteNS rfl ?_
    refine ⟨_, rfl, t, _, _, _, rfl, rfl, g _ (.refl _), atI_nat (j := 0) rfl, r.1, rfl, hR.a, fun H1 s1 => ⟨_, rfl, iteT ?_⟩⟩
    refine ⟨_, rfl, t, _, _, _, rfl, rfl, g _ s1, atI_nat (j := 1) rfl, r.2, rfl, hR.b, fun H2 s2 => ⟨_, rfl, iteT ?_⟩⟩
    refine ⟨_, rfl, t, _, _, _, rfl, rfl, g _ (s1.trans s2), atI_nat (j := 0) rfl, rfl, ?_⟩
    have e : (!decide (V.str r.1 = V.str "sea")) = true := by
      rw [decide_eq_false (fun z => hR.s (V.str.inj z))]
      rfl
    show Q (.bl (!decide (V.str r.1 = V.str "sea"))) H2
    rw [e]
    exact k H2 (s1.trans s2)
end
end K0
end

/-! ## K0Q -/
section
set_option Elab.async false
set_option linter.all false
set_option maxRecDepth 100000
namespace K0
open PySem PySem.Spec PyProof.Rows L2
/-! ### dicts by names -/
def kmap (f : Str → V) (ns : List Str) : List (Key × V) := ns.map fun n => ((Sum.inr n : Key), f n)
theorem kmap_len (f : Str → V) (ns : List Str) : (kmap f ns).length = ns.length := List.length_map _
theorem kmap_keys (f : Str → V) (ns : List Str) : (kmap f ns).map (·.1) = ns.map Sum.inr := by
  unfold kmap
  rw [List.map_map]
  rfl
theorem kmap_not {f : Str → V} {ns : List Str} {x : Str} (h : x ∉ ns) : valV (kmap f ns) (Sum.inr x) = none := by
  cases e : valV (kmap f ns) (Sum.inr x) with
  | none => rfl
  | some v =>
    have m := valV_in e
    rw [kmap_keys] at m
    obtain ⟨y, hy, ey⟩ := List.mem_map.mp m
    rw [Sum.inr.inj ey] at hy
    exact absurd hy h
theorem kmap_at {f : Str → V} : ∀ {ns : List Str} {x : Str}, x ∈ ns → valV (kmap f ns) (Sum.inr x) = some (f x)
  | n :: r, x, h => by
    by_cases e : n = x
    · subst e
      unfold kmap valV
      rw [List.map_cons, List.find?_cons_of_pos (by simp)]
      rfl
    · have h' : x ∈ r := (List.mem_cons.mp h).resolve_left fun z => e z.symm
      have ih := kmap_at (f := f) h'
      unfold kmap valV at ih ⊢
      rw [List.map_cons, List.find?_cons_of_neg (by simp [e])]
      exact ih
theorem kmap_put {f : Str → V} {ns : List Str} {x : Str} (h : x ∉ ns) : putK (kmap f ns) (Sum.inr x) (f x) = kmap f (ns ++ [x]) := by
  rw [putK_new _ (kmap_not h)]
  unfold kmap
  rw [List.map_append]
  rfl
theorem GoodRows.row {R : List Row} (g : GoodRows R) {r : Row} (h : r ∈ R) : RowOk r := by
  have h1 : r.1 ∈ R.map (·.1) := List.mem_map.mpr ⟨r, h, rfl⟩
  obtain ⟨rk, hr⟩ := g.rank
  refine ⟨g.nm.ok _ h1, ?_, g.nm.sea _ h1⟩
  rcases hr r h with e | ⟨e, _⟩
  · rw [e]
    exact sea_ok
  · exact g.nm.ok _ e
theorem row_at {AR : List (Addr × Row)} {i : Nat} {x : V} (e : (AR.map fun q => V.ref q.1)[i]? = some x) (hi : i < AR.length) : x = .ref AR[i].1 := by
  rw [List.getElem?_map, List.getElem?_eq_getElem hi] at e
  exact (Option.some.inj e).symm
theorem nmlen (AR : List (Addr × Row)) : ((rowsOf AR).map (·.1)).length = AR.length := by rw [List.length_map, List.length_map]
abbrev scNeedRows_N : List Str := ["rows", "weirs", "place", "entry", "_", "low"]
theorem scNeedRows : FnScope scNeedRows_N ["rows"] (defScope sNeedRows) := ⟨rfl, rfl, rfl, by decide +kernel, rfl, by decide +kernel, by decide +kernel⟩
def spNeedRows (K : PySem.W.Frag) : Sp := fun vs H Q _ => ∃ (l : Addr) (AR : List (Addr × Row)), vs = [.ref l] ∧ RowsAt H l AR ∧ GoodRows (rowsOf AR) ∧ ∀ H', Same H H' → Q .non H'
section
variable {P : Program} {w : World} {K : PySem.W.Frag} {mg : Str → Option Value} {base : Heap} {tS tM tL : Tok}
theorem ok_needrows {f fN fR : Addr} {fd fdN fdR : FuncData} (F : FnP K "_need_rows" sNeedRows f fd) (F_is_name : FnP K "is_name" sIsName fN fdN) (gis_name : mg "is_name" = some (.ref fN))
    (F_is_row : FnP K "_is_row" sIsRow fR fdR) (g_is_row : mg "_is_row" = some (.ref fR)) (B : Bl mg) (C : Gc mg tS tM tL) : FnOk P w K mg base CX0 3 f fd ["rows"] (spNeedRows K) := by
  have G_is_row : FnOk P w K mg base CX0 2 fR fdR ["entry"] (spIsRow K) := ok_isrow F_is_row F_is_name gis_name B C
  have b_is_row : Binds K fdR ["entry"] [] := F_is_row.bindsN fun _ _ _ _ _ _ us hl => match us, hl with | [_], _ => rfl
  refine F.ok scNeedRows (fun vs H Q E h => ?_) (fun cdv A outer s H vs Q E hr h => ?_)
  · obtain ⟨l, AR, rfl, _⟩ := h
    rfl
  · obtain ⟨l, AR, rfl, hR, hG, k⟩ := h
    have hu := hu_of hr
    have hr_is_row : Room 2 _ := hr.mono (by decide)
    refine ⟨_, PSs.nox (pss_cons
      (ps_if (PW.pt (pw_or (pt_not (pt_val (pe_callB call_isi (by rfl) B.isinstance (by decide +kernel) (pa_cons (pv 0) (pa_cons (pe_bltn (v := .ty "list") (by rfl) B.list (by decide +kernel) rfl) pa_nil))))) (pw_or1 (pt_not (pt_chain op_le op_le pe_int (pe_callB call_len_seq (by rfl) B.len PySem.boot_len (pa_cons (pv 0) pa_nil)) (pe_glob (v := .int 40) (by rfl) C.MOST_ROWS ⟨_, rfl⟩)))))) (pss_one
      ps_never) pss_nil)
      (pss_cons
      (ps_set (i := 1) scNeedRows.nd rfl (Or.inl rfl) pe_dnewK)
      (pss_cons
      (ps_for PassesOwn.never rfl (pi_enum (by rfl) B.enumerate (pa_cons (pv 0) pa_nil)) (pg_tup (by rfl) (pgs_cons (pg_name (i := 2) scNeedRows.nd rfl (Or.inl rfl)) (pgs_cons (pg_name (i := 3) scNeedRows.nd rfl (Or.inl rfl)) pgs_nil))) (pss_cons
      (ps_if (PW.pt (pw_or (pt_not (pt_val (pe_call G_is_row hr_is_row (by rfl) g_is_row F_is_row.kp b_is_row .nil pass0 (pa_cons (pv 3) pa_nil)))) (pw_or1 (pt_cmp (pc_din hu (pe_ix ix_tup (pv 3) pe_int (fun _ _ => rfl)) (pv 1)))))) (pss_one
      ps_never) pss_nil)
      (pss_one
      (ps_dput hu (pv 1) (pe_ix ix_tup (pv 3) pe_int (fun _ _ => rfl)) pe_bl rfl))))
      (pss_one
      (ps_for PassesOwn.never rfl (pi_enum (by rfl) B.enumerate (pa_cons (pv 0) pa_nil)) (pg_tup (by rfl) (pgs_cons (pg_name (i := 2) scNeedRows.nd rfl (Or.inl rfl)) (pgs_cons (pg_tup (by rfl) (pgs_cons (pg_name (i := 4) scNeedRows.nd rfl (Or.inl rfl)) (pgs_cons (pg_name (i := 5) scNeedRows.nd rfl (Or.inl rfl)) pgs_nil))) pgs_nil))) (pss_one
      (ps_if (PW.pt (pw_and (pt_cmpR op_ne (pv 5) (pe_glob (v := .str "sea") (by rfl) C.SEA ⟨_, rfl⟩) (nomark _)) (pw_and1 (pt_cmp (pc_dnotin hu (pv 5) (pv 1)))))) (pss_one
      ps_never) pss_nil))))))), ?_⟩
    refine ⟨_, rfl, .ref l, .ty "list", _, _, true, rfl, .ty "list", .base (.lst hR.lst), kit_ty (by decide +kernel), _, rfl, ?_⟩
    refine iteF ?_
    have hlen : (AR.map fun q => V.ref q.1).length = (rowsOf AR).length := by rw [List.length_map, List.length_map]
    have ho := hG.one
    have hm := hG.most
    refine ⟨_, rfl, l, _, rfl, .inl (.inl (.inl hR.lst)), 1, _, rfl, rfl, _, rfl, ?_⟩
    refine iteD (by omega) ?_
    refine ⟨_, _, rfl, rfl, _, rfl, ?_⟩
    refine iteNS (by omega) ?_
    intro D hD
    have s0 : Same H (upd H D (.dK [])) := same_upd hD
    have hnd := hG.nm.nd
    -- the first loop
    refine ⟨_, rfl, l, _, rfl, s0.seq (.inl (.inl hR.lst)), ?_⟩
    refine for_it (walk_enum (xs := AR.map fun q => V.ref q.1)) (fun i σ H2 => ∃ (v2 v3 v4 v5 : Option V), σ = [some (.ref l), some (.ref D), v2, v3, v4, v5] ∧ Same H H2 ∧ H2 D = some (.dK (kmap (fun _ => .bl true) (((rowsOf AR).map (·.1)).take i))))
      ⟨_, _, _, _, rfl, s0, by rw [upd_same, List.take_zero]; rfl⟩ (fun _ _ _ _ h => by obtain ⟨_, _, _, _, _, s, _⟩ := h; exact s.seq (.inl (.inl hR.lst))) ?_ ?_
    · rintro i x σ H2 H3 hi ⟨v2, v3, v4, v5, rfl, s2, hD2⟩ ⟨T, x1, x2, rfl, hT, rfl, e1, e2⟩
      rw [List.length_map] at hi
      have hx1 : x1 = .int (i : Int) := (Option.some.inj e1).symm
      subst hx1
      have hx2 : x2 = .ref AR[i].1 := row_at e2 hi
      subst hx2
      have hmem : AR[i] ∈ AR := List.getElem_mem hi
      have hrow : AR[i].2 ∈ rowsOf AR := List.mem_map.mpr ⟨_, hmem, rfl⟩
      have hok := hG.row hrow
      have s3 : Same H (upd H2 T (.tup [.int (i : Int), .ref AR[i].1])) := s2.trans (same_upd hT)
      have hD3 : (upd H2 T (.tup [.int (i : Int), .ref AR[i].1])) D = some (.dK (kmap (fun _ => .bl true) (((rowsOf AR).map (·.1)).take i))) := by
        rw [upd_ne (ne_of_none hD2 hT)]
        exact hD2
      have hni : ((rowsOf AR).map (·.1))[i]? = some AR[i].2.1 := by
        rw [List.getElem?_map, List.getElem?_map, List.getElem?_eq_getElem hi]
        rfl
      have hnot : AR[i].2.1 ∉ ((rowsOf AR).map (·.1)).take i := by
        intro hm2
        obtain ⟨j, hj⟩ := List.getElem?_of_mem hm2
        have hji : j < i := by
          have := (List.getElem?_eq_some_iff.mp hj).1
          rw [List.length_take] at this
          omega
        rw [List.getElem?_take_of_lt hji] at hj
        have := nd_ix hnd hj hni
        omega
      refine ⟨T, _, rfl, .inl (.inl upd_same), rfl, _, _, rfl, _, _, rfl, rfl, ?_⟩
      refine ⟨_, rfl, AR[i].1, AR[i].2, rfl, s3 _ _ (hR.tup _ hmem), hok, fun H4 s4 => ⟨_, rfl, ?_⟩⟩
      refine iteF ?_
      have s5 : Same H H4 := s3.trans s4
      have hD4 := s4 _ _ hD3
      have ht4 : SqT K H4 AR[i].1 [.str AR[i].2.1, .str AR[i].2.2] := .inl (.inl (s5 _ _ (hR.tup _ hmem)))
      refine ⟨_, rfl, AR[i].1, _, _, _, rfl, rfl, ht4, atI_nat (j := 0) rfl, _, rfl, D, _, rfl, DGet.k (k := Sum.inr AR[i].2.1) hD4, _, rfl, ?_⟩
      rw [kmap_not hnot]
      refine iteF ?_
      refine ⟨_, rfl, _, rfl, AR[i].1, _, _, _, rfl, rfl, ht4, atI_nat (j := 0) rfl, D, _, rfl, DPut.k (k := Sum.inr AR[i].2.1) hD4 ?_, ?_⟩
      · rw [kmap_len, List.length_take, nmlen]
        rw [List.length_map] at hm
        exact small1000 (by omega)
      · refine ⟨_, _, _, _, rfl, fun b o hb => ?_, ?_⟩
        · rw [upd_ne (ne_of_none hb hD)]
          exact s5 b o hb
        · have := kmap_put (f := fun _ => .bl true) hnot
          rw [upd_same, this, List.take_add_one, hni]
          rfl
    · rintro σ H2 ⟨v2, v3, v4, v5, rfl, s2, hD2⟩
      rw [List.take_of_length_le (by rw [List.length_map, List.length_map, List.length_map]; exact Nat.le_refl _)] at hD2
      obtain ⟨rk, hrk⟩ := hG.rank
      refine ⟨_, rfl, l, _, rfl, s2.seq (.inl (.inl hR.lst)), ?_⟩
      refine for_it (walk_enum (xs := AR.map fun q => V.ref q.1)) (fun i σ H3 => ∃ (v2 v3 v4 v5 : Option V), σ = [some (.ref l), some (.ref D), v2, v3, v4, v5] ∧ Same H2 H3)
        ⟨_, _, _, _, rfl, .refl _⟩ (fun _ _ _ _ h => by obtain ⟨_, _, _, _, _, s⟩ := h; exact (s2.trans s).seq (.inl (.inl hR.lst))) ?_ ?_
      · rintro i x σ H3 H4 hi ⟨v2, v3, v4, v5, rfl, s3⟩ ⟨T, x1, x2, rfl, hT, rfl, e1, e2⟩
        rw [List.length_map] at hi
        have hx2 : x2 = .ref AR[i].1 := row_at e2 hi
        subst hx2
        have hmem : AR[i] ∈ AR := List.getElem_mem hi
        have hrow : AR[i].2 ∈ rowsOf AR := List.mem_map.mpr ⟨_, hmem, rfl⟩
        have s4 : Same H2 (upd H3 T (.tup [x1, .ref AR[i].1])) := s3.trans (same_upd hT)
        have ht4 : SqT K (upd H3 T (.tup [x1, .ref AR[i].1])) AR[i].1 [.str AR[i].2.1, .str AR[i].2.2] := .inl (.inl (s4 _ _ (s2 _ _ (hR.tup _ hmem))))
        refine ⟨T, _, rfl, .inl (.inl upd_same), rfl, _, _, rfl, _, _, rfl, _, _, rfl, ht4, rfl, _, _, rfl, _, _, rfl, rfl, rfl, ?_⟩
        have hc : AR[i].2.2 = "sea" ∨ AR[i].2.2 ∈ (rowsOf AR).map (·.1) := by
          rcases hrk _ hrow with e | ⟨e, _⟩
          · exact .inl e
          · exact .inr e
        refine ⟨_, rfl, rfl, _, rfl, ?_⟩
        refine ite2 (fun h1 => ?_) (fun h1 => ?_)
        · have hmm : AR[i].2.2 ∈ (rowsOf AR).map (·.1) := by
            rcases hc with e | e
            · rw [decide_eq_true (congrArg V.str e)] at h1
              cases h1
            · exact e
          refine ⟨_, rfl, _, rfl, D, _, rfl, DGet.k (k := Sum.inr AR[i].2.2) (s4 _ _ hD2), _, rfl, ?_⟩
          rw [kmap_at hmm]
          refine iteF ?_
          exact ⟨_, _, _, _, rfl, s4⟩
        · exact ⟨_, _, _, _, rfl, s4⟩
      · rintro σ H3 ⟨v2, v3, v4, v5, rfl, s3⟩
        exact k H3 (s2.trans s3)
end
end K0
end

/-! ## K0C -/
section
set_option Elab.async false
set_option linter.all false
set_option maxRecDepth 100000
namespace K0
open PySem PySem.Spec PyProof.Rows L2
/-! ### courses -/
def lowR (R : List Row) (x : Str) : Str := ((R.find? fun r => decide (r.1 = x)).map (·.2)).getD "sea"
def itr (low : Str → Str) : Nat → Str → Str
  | 0, x => x
  | n + 1, x => low (itr low n x)
theorem itr_shift (low : Str → Str) : ∀ (n : Nat) (x : Str), itr low (n + 1) x = itr low n (low x)
  | 0, _ => rfl
  | n + 1, x => by
    show low (itr low (n + 1) x) = low (itr low n (low x))
    rw [itr_shift low n x]
def crs (low : Str → Str) : Nat → Str → List Str
  | 0, _ => []
  | n + 1, x => if x = "sea" then [] else x :: crs low n (low x)
def course (R : List Row) (x : Str) : List Str := crs (lowR R) R.length x
theorem low_row {R : List Row} {x : Str} (h : x ∈ R.map (·.1)) : ∃ r ∈ R, r.1 = x ∧ r.2 = lowR R x := by
  unfold lowR
  cases e : R.find? (fun r => decide (r.1 = x)) with
  | none =>
    obtain ⟨r, hr, er⟩ := List.mem_map.mp h
    have := List.find?_eq_none.mp e r hr
    exact absurd (decide_eq_true er) this
  | some r =>
    have h1 := List.mem_of_find?_eq_some e
    have h2 := List.find?_some e
    exact ⟨r, h1, of_decide_eq_true h2, rfl⟩
theorem low_at {R : List Row} (hd : (R.map (·.1)).Nodup) {r : Row} (h : r ∈ R) : lowR R r.1 = r.2 := by
  obtain ⟨q, hq, e1, e2⟩ := low_row (List.mem_map.mpr ⟨r, h, rfl⟩)
  obtain ⟨i, hi⟩ := List.getElem?_of_mem h
  obtain ⟨j, hj⟩ := List.getElem?_of_mem hq
  have g1 : (R.map (·.1))[i]? = some r.1 := by rw [List.getElem?_map, hi]; rfl
  have g2 : (R.map (·.1))[j]? = some r.1 := by rw [List.getElem?_map, hj, ← e1]; rfl
  have : i = j := nd_ix hd g1 g2
  subst this
  rw [hi] at hj
  rw [← e2, Option.some.inj hj]
theorem sub_length : ∀ {c ns : List Str}, c.Nodup → (∀ x ∈ c, x ∈ ns) → c.length ≤ ns.length
  | [], _, _, _ => Nat.zero_le _
  | a :: r, ns, h, hs => by
    obtain ⟨h1, h2⟩ := List.nodup_cons.mp h
    have ha : a ∈ ns := hs a List.mem_cons_self
    have ih := sub_length (ns := ns.erase a) h2 fun x hx => (List.mem_erase_of_ne (fun e => h1 (by rw [← e]; exact hx))).mpr (hs x (List.mem_cons_of_mem _ hx))
    rw [List.length_erase_of_mem ha] at ih
    have : 0 < ns.length := List.length_pos_of_mem ha
    rw [List.length_cons]
    omega
theorem crs_full (low : Str → Str) : ∀ (m n : Nat) (x : Str), m ≤ n → (∀ i, i < m → itr low i x ≠ "sea") → itr low m x = "sea" → crs low n x = (List.range m).map fun i => itr low i x
  | 0, n, x, _, _, h => by
    have h : x = "sea" := h
    subst h
    cases n with
    | zero => rfl
    | succ n => rfl
  | m + 1, 0, _, h, _, _ => absurd h (by omega)
  | m + 1, n + 1, x, h, h1, h2 => by
    have h0 : x ≠ "sea" := h1 0 (by omega)
    have ih := crs_full low m n (low x) (by omega) (fun i hi => by rw [← itr_shift]; exact h1 (i + 1) (by omega)) (by rw [← itr_shift]; exact h2)
    show (if x = "sea" then [] else x :: crs low n (low x)) = _
    rw [if_neg h0, ih, List.range_succ_eq_map, List.map_cons, List.map_map]
    refine congrArg (x :: ·) (List.map_congr_left fun i _ => ?_)
    exact (itr_shift low i x).symm
theorem reach {R : List Row} {rk : Str → Nat} (hr : ∀ r ∈ R, r.2 = "sea" ∨ (r.2 ∈ R.map (·.1) ∧ rk r.2 < rk r.1)) : ∀ (k : Nat) (x : Str), rk x ≤ k → x ∈ R.map (·.1) →
    ∃ m, 1 ≤ m ∧ (∀ i, i < m → itr (lowR R) i x ∈ R.map (·.1)) ∧ (∀ i j, i < j → j < m → rk (itr (lowR R) j x) < rk (itr (lowR R) i x)) ∧ itr (lowR R) m x = "sea" := by
  intro k
  induction k with
  | zero =>
    intro x hk hx
    obtain ⟨r, hrm, e1, e2⟩ := low_row hx
    rcases hr r hrm with e | ⟨e, h⟩
    · refine ⟨1, Nat.le_refl _, fun i hi => ?_, fun i j hij hj => by omega, ?_⟩
      · have : i = 0 := by omega
        subst this
        exact hx
      · show lowR R x = "sea"
        rw [← e2, e]
    · rw [e1] at h
      omega
  | succ k ih =>
    intro x hk hx
    obtain ⟨r, hrm, e1, e2⟩ := low_row hx
    rcases hr r hrm with e | ⟨e, h⟩
    · refine ⟨1, Nat.le_refl _, fun i hi => ?_, fun i j hij hj => by omega, ?_⟩
      · have : i = 0 := by omega
        subst this
        exact hx
      · show lowR R x = "sea"
        rw [← e2, e]
    · rw [e1, e2] at h
      rw [e2] at e
      obtain ⟨m, h1, h2, h3, h4⟩ := ih (lowR R x) (by omega) e
      have first : ∀ j, j < m → rk (itr (lowR R) j (lowR R x)) < rk x := by
        intro j hj
        rcases Nat.eq_zero_or_pos j with z | z
        · subst z
          exact h
        · exact Nat.lt_trans (h3 0 j z hj) h
      refine ⟨m + 1, by omega, fun i hi => ?_, fun i j hij hj => ?_, by rw [itr_shift]; exact h4⟩
      · cases i with
        | zero => exact hx
        | succ i =>
          rw [itr_shift]
          exact h2 i (by omega)
      · cases j with
        | zero => omega
        | succ j =>
          rw [itr_shift]
          cases i with
          | zero => exact first j (by omega)
          | succ i =>
            rw [itr_shift]
            exact h3 i j (by omega) (by omega)
/-- the course of a weir, and how long it is -/
structure CourseIs (R : List Row) (x : Str) (m : Nat) : Prop where
  one : 1 ≤ m
  most : m ≤ R.length
  eq : course R x = (List.range m).map fun i => itr (lowR R) i x
  mem : ∀ i, i < m → itr (lowR R) i x ∈ R.map (·.1)
  sea : itr (lowR R) m x = "sea"
theorem course_is {R : List Row} (g : GoodRows R) {x : Str} (hx : x ∈ R.map (·.1)) : ∃ m, CourseIs R x m := by
  obtain ⟨rk, hr⟩ := g.rank
  obtain ⟨m, h1, h2, h3, h4⟩ := reach hr (rk x) x (Nat.le_refl _) hx
  have hm : m ≤ R.length := by
    have nd : ((List.range m).map fun i => itr (lowR R) i x).Nodup := nodup_range _ _ fun i j hi hj e => by
      rcases Nat.lt_trichotomy i j with z | z | z
      · have := h3 i j z hj
        rw [e] at this
        omega
      · exact z
      · have := h3 j i z hi
        rw [e] at this
        omega
    have := sub_length nd fun y hy => by
      obtain ⟨i, hi, e⟩ := List.mem_map.mp hy
      rw [← e]
      exact h2 i (List.mem_range.mp hi)
    rw [List.length_map, List.length_range, List.length_map] at this
    exact this
  exact ⟨m, h1, hm, crs_full _ _ _ _ hm (fun i hi => g.nm.sea _ (h2 i hi)) h4, h2, h4⟩
theorem CourseIs.len {R : List Row} {x : Str} {m : Nat} (c : CourseIs R x m) : (course R x).length = m := by
  rw [c.eq, List.length_map, List.length_range]
end K0
end

/-! ## K0U -/
section
set_option Elab.async false
set_option linter.all false
set_option maxRecDepth 100000
namespace L2
open PySem PySem.Spec PyProof.Rows
/-! ### rules with the text's part named, for the blocks of comprehensions -/
section
variable {X : Cx} {K : PySem.W.Frag}
theorem inK (e : X.K = K := by rfl) : OpR X (compareOp .In) (rIn K false) := e ▸ op_in_seq
theorem notInK (e : X.K = K := by rfl) : OpR X (compareOp .NotIn) (rIn K true) := e ▸ op_notIn_seq
theorem ixLK (e : X.K = K := by rfl) : IxR X (rIxL K) := e ▸ ix_list
theorem ixTK (e : X.K = K := by rfl) : IxR X (rIxT K) := e ▸ ix_tup
theorem lenK (e : X.K = K := by rfl) : CallR X (.builtin "len") (fun xs H Q => ∃ p ys, xs = [.ref p] ∧ (SqL K H p ys ∨ SqT K H p ys) ∧ Q (.int ys.length) H) := e ▸ call_len_seq
theorem listK (e : X.K = K := by rfl) : CallR X (.type "list") (fun xs H Q => ∃ p ys, xs = [.ref p] ∧ (SqL K H p ys ∨ SqT K H p ys) ∧ ∀ l, H l = none → Q (.ref l) (upd H l (.lst ys))) := e ▸ call_list_of
theorem tupleK (e : X.K = K := by rfl) : CallR X (.type "tuple") (fun xs H Q => ∃ p ys, xs = [.ref p] ∧ ((SqL K H p ys ∧ ∀ l, H l = none → Q (.ref l) (upd H l (.tup ys))) ∨ (SqT K H p ys ∧ Q (.ref p) H))) := e ▸ call_tuple_of
theorem fldK {o : Expr} {f : Str} {pos : Pos} {ta : TE} (he : PE X o ta) (hb : attributeBase o f X.env (eval o X.env) = eval o X.env) (e : X.K = K := by rfl) : PE X (.Attribute o f pos) (tFld K ta f) := e ▸ pe_fld he hb
theorem tgK {es : List Expr} {k : Nat} {pos : Pos} {t : TGs} {n : Nat} (hc : X.calm = true) (h : PGs X es t)
    (hn : (assignEach es X.env).length = n := by rfl) (hst : (assignEach es X.env).findIdx? (·.1) = none := by rfl) (e : X.K = K := by rfl) : PG X (.Tuple es k pos) (gTup K n t) := e ▸ pg_tup hc h hn hst
end
end L2
namespace L2
open PySem PySem.Spec PyProof.Rows
/-! ### tuples whose methods are called: the object is known to be plain -/
structure PlainT (o : Obj) : Prop where
  cls : o.cls = .type "tuple"
  dict : o.dict = none
section
variable {X : Cx} {K : PySem.W.Frag}
theorem k0_tupleF : CallR X (.type "tuple") (fun xs H Q => ∃ p ys, xs = [.ref p] ∧ SqL X.K H p ys ∧ ∀ l o, H l = none → PlainT o → Q (.ref l) (upd H l (.frz o (.tup ys)))) := by
  intro pins s σ H xs us Q I r h
  obtain ⟨p, ys, rfl, hq, q⟩ := h
  obtain ⟨u, rfl, rx⟩ := vals1 r
  cases rx
  obtain ⟨its, r', pl, hz⟩ := I.list hq
  have hlen := r'.length
  refine call_tuple_list pl.isList (fun h' kp => ?_) (by simp only [List.size_toArray] <;> omega)
  have I1 : Inv X pins σ H { s with heap := h' } := I.kept (t' := s.toks) kp
  have I2 : Inv X pins σ (upd H h'.objs.size (.frz { cls := .type "tuple", data := .seq its.toArray } (.tup ys))) { s with heap := h'.push { cls := .type "tuple", data := .seq its.toArray } } :=
    I1.laid (t' := s.toks) (fun b o e => Heap.get?_push_of_some _ e) (Nat.le_refl _) (show ObjOk X.prog X.w _ _ _ (.frz _ (.tup ys)) from ⟨Heap.get?_push_size _ rfl, hz, its, r', IsTup.new _ _⟩)
  exact ⟨.ref h'.objs.size, _, I2, rfl, q _ _ (I1.hok.fresh (Nat.le_refl _)) ⟨rfl, rfl⟩⟩
theorem tupleF (e : X.K = K := by rfl) : CallR X (.type "tuple") (fun xs H Q => ∃ p ys, xs = [.ref p] ∧ SqL K H p ys ∧ ∀ l o, H l = none → PlainT o → Q (.ref l) (upd H l (.frz o (.tup ys)))) := e ▸ k0_tupleF
/-- t.m(e, ..), t such a tuple -/
def tBMT (r : V → List V → Hp → VK → Prop) (to : TE) (t : TA) : TE := fun σ H Q => to σ H fun x H1 => (∃ p o xs, x = .ref p ∧ H1 p = some (.frz o (.tup xs)) ∧ PlainT o) ∧ t σ H1 fun xs H2 => r x xs H2 Q
variable {o e : Expr} {es : List Expr} {to : TE} {t : TA} {name : Str} {apos cpos : Pos} {id : String} {r : V → List V → Hp → VK → Prop}
theorem k0_bmT (slot : Slot "tuple" name id) (hty : typeOf (.builtin id) = pure (.type "method_descriptor")) (hm : MtR X id r) (ho : PE X o to) (ha : PA X (e :: es) t)
    (hbase : attributeBase o name X.env (eval o X.env) = eval o X.env := by rfl)
    (hfew : ((backTo cpos (starEach (e :: es) X.env)).all (fun x => !x.1) && (backToKw cpos (keywordEach [] X.env)).all (fun x => x.1.isSome)
      && decide ((e :: es).length + ([] : List Keyword).length + (if ([] : List Keyword).isEmpty then 0 else 1) < 30)) = true := by rfl)
    (hline : (apos.endLine == cpos.line) = true := by rfl) (hs : starEach (e :: es) X.env = (false, eval e X.env) :: starEach es X.env := by rfl) (hplain : (backTo cpos (starEach es X.env)).any (·.1) = false := by rfl) :
    PE X (.Call (.Attribute o name apos) (e :: es) [] cpos) (tBMT r to t) := by
  refine ⟨fun pins s σ H Q I h => ?_⟩
  refine wpAny_Call_method_late hbase hfew hline rfl (thn (ho.run pins s σ H _ I h) fun v s1 ⟨x, H1, I1, r1, ⟨p, ob, xs, ex, hp, pl⟩, q1⟩ => ?_)
  subst ex
  obtain rfl : v = Value.ref p := r1
  obtain ⟨hob, _⟩ := I1.hok p _ hp
  refine ⟨"tuple", id, PySem.F.plainAttrs_tuple, slot, hty, ⟨ob, hob, pl.cls⟩, fun a e => ?_, ?_⟩
  · cases e
    exact ⟨ob, hob, pl.dict⟩
  have hA := ha.run cpos pins s1 σ H1 _ I1 q1
  rw [hs] at hA ⊢
  refine Calls.callWith_builtin (by show (false || (backTo cpos (starEach es X.env)).any (·.1)) = false; rw [hplain] <;> rfl) (Calls.evalArgs_plain ?_)
  exact thn hA fun us s2 ⟨vs, H2, I2, r2, q2⟩ => hm pins s2 σ H2 (.ref p) vs (.ref p) us Q I2 rfl r2 q2
end
end L2
namespace K0
open PySem PySem.Spec PyProof.Rows L2
/-- such a tuple of texts -/
def FT (H : Hp) (t : Addr) (l : List Str) : Prop := ∃ o, PlainT o ∧ H t = some (.frz o (.tup (l.map V.str)))
theorem FT.rd {H : Hp} {t : Addr} {l : List Str} (h : FT H t l) : Rd H t (.tup (l.map V.str)) := by
  obtain ⟨o, _, e⟩ := h
  exact .inr ⟨o, e⟩
theorem FT.to {H H' : Hp} {t : Addr} {l : List Str} (h : FT H t l) (k : ∀ u, H t = some u → (∀ xs, u ≠ .lst xs) → (∀ xs, u ≠ .tup xs) → (∀ kvs, u ≠ .dK kvs) → (∀ a b c, u ≠ .ins a b c) → (∀ ps, u ≠ .tbl ps) → H' t = some u) : FT H' t l := by
  obtain ⟨o, p, e⟩ := h
  exact ⟨o, p, k _ e (fun _ z => by cases z) (fun _ z => by cases z) (fun _ z => by cases z) (fun _ _ _ z => by cases z) (fun _ z => by cases z)⟩
theorem FT.same {H H' : Hp} {t : Addr} {l : List Str} (h : FT H t l) (s : Same H H') : FT H' t l := h.to fun _ e _ _ _ _ _ => s _ _ e
theorem FT.upd {H : Hp} {t a : Addr} {l : List Str} {u : HO} (h : FT H t l) (n : t ≠ a) : FT (upd H a u) t l := h.to fun _ e _ _ _ _ _ => (upd_ne n).trans e
theorem FT.ne {H : Hp} {t a : Addr} {l : List Str} {u : HO} (h : FT H t l) (e : H a = some u) (n : ∀ o l, u ≠ .frz o (.tup l)) : t ≠ a := by
  obtain ⟨o, p, q⟩ := h
  intro z
  rw [z, e] at q
  exact n _ _ (Option.some.inj q)
theorem FT.new {H : Hp} {t a : Addr} {l : List Str} (h : FT H t l) (e : H a = none) : t ≠ a := by
  obtain ⟨o, p, q⟩ := h
  exact ne_of_none q e
end K0
end

/-! ## K0D -/
section
set_option Elab.async false
set_option linter.all false
set_option maxRecDepth 100000
namespace K0
open PySem PySem.Spec PyProof.Rows L2
abbrev nmsOf (R : List Row) : List Str := R.map (·.1)
abbrev belowK (R : List Row) : List (Key × V) := kmap (fun y => .str (lowR R y)) (nmsOf R)
abbrev scCourse_N : List Str := ["below", "weir", "course"]
theorem scCourse : FnScope scCourse_N ["below", "weir"] (defScope sCourse) := ⟨rfl, rfl, rfl, by decide +kernel, rfl, by decide +kernel, by decide +kernel⟩
def spCourse (K : PySem.W.Frag) : Sp := fun vs H Q _ => ∃ (d : Addr) (R : List Row) (x : Str), vs = [.ref d, .str x] ∧ Rd H d (.dK (belowK R)) ∧ GoodRows R ∧ x ∈ nmsOf R ∧
  ∀ (H' : Hp) (t : Addr), Same H H' → H t = none → FT H' t (course R x) → Q (.ref t) H'
theorem same_rd {H H' : Hp} {a : Addr} {u : HO} (s : Same H H') (r : Rd H a u) : Rd H' a u := r.elim (fun h => .inl (s _ _ h)) fun ⟨o, h⟩ => .inr ⟨o, s _ _ h⟩
theorem dget_rk {H : Hp} {a : Addr} {kvs : List (Key × V)} {k : Key} (e : Rd H a (.dK kvs)) : DGet H a (kV k) (valV kvs k) := .inl ⟨kvs, k, e, rfl, rfl⟩
theorem dget_rn {H : Hp} {a : Addr} {f : Str → V} {ns : List Str} {x : Str} (e : Rd H a (.dK (kmap f ns))) (h : x ∈ ns) : DGet H a (.str x) (some (f x)) := by
  have := dget_rk (k := Sum.inr x) e
  rw [kmap_at h] at this
  exact this
theorem last_of {m : Nat} {f : Nat → Str} (h : 1 ≤ m) : atI (((List.range m).map f).map V.str) (-1) = some (.str (f (m - 1))) := by
  unfold atI ixN
  rw [List.length_map, List.length_map, List.length_range, if_neg (by omega), if_pos (by omega)]
  show (((List.range m).map f).map V.str)[((-1 : Int) + (m : Int)).toNat]? = _
  rw [show ((-1 : Int) + (m : Int)).toNat = m - 1 by omega, List.getElem?_map, List.getElem?_map, List.getElem?_range (by omega)]
  rfl
section
variable {P : Program} {w : World} {K : PySem.W.Frag} {mg : Str → Option Value} {base : Heap} {tS tM tL : Tok}
theorem ok_course {f : Addr} {fd : FuncData} (F : FnP K "_course" sCourse f fd) (B : Bl mg) (C : Gc mg tS tM tL) : FnOk P w K mg base CX0 1 f fd ["below", "weir"] (spCourse K) := by
  refine F.ok scCourse (fun vs H Q E h => ?_) (fun cdv A outer s H vs Q E hr h => ?_)
  · obtain ⟨d, R, x, rfl, _⟩ := h
    rfl
  · obtain ⟨d, R, x, rfl, hd, hG, hx, k⟩ := h
    have hu := hu_of hr
    obtain ⟨m, hC⟩ := course_is hG hx
    refine ⟨_, PSs.nox (pss_cons
      (ps_set (i := 2) scCourse.nd rfl (Or.inl rfl) (pe_lst (pa_cons (pv 1) pa_nil)))
      (pss_cons
      (ps_while PassesOwn.never (PW.pt (pw_and (pt_cmpR op_ne (pe_dget hu (pv 0) (pe_ix (ixLK (K := K)) (pv 2) (pe_un un_neg pe_int) (fun _ _ => rfl)) (fun _ _ => rfl)) (pe_glob (v := .str "sea") (by rfl) C.SEA ⟨_, rfl⟩) (nomark _)) (pw_and1 (pt_cmpR op_le (pe_callB (lenK (K := K)) (by rfl) B.len PySem.boot_len (pa_cons (pv 2) pa_nil)) (pe_callB k0_lenD (by rfl) B.len PySem.boot_len (pa_cons (pv 0) pa_nil)) (nomark _))))) (pss_one
      (ps_expr (pe_bm PySem.F.plainAttrs_list PySem.F.slot_list_append PySem.F.type_list_append mt_append (pv 2) (pa_cons (pe_dget hu (pv 0) (pe_ix (ixLK (K := K)) (pv 2) (pe_un un_neg pe_int) (fun _ _ => rfl)) (fun _ _ => rfl)) pa_nil)))))
      (pss_one
      (ps_ret (pe_callTy (tupleF (K := K)) (by rfl) B.tuple (by decide +kernel) (pa_cons (pv 2) pa_nil)))))), ?_⟩
    refine ⟨_, rfl, by show 1 ≤ sizeLine; decide, fun c nc => ?_⟩
    have s0 : Same H (upd H c (.lst [.str x])) := same_upd nc
    refine while_by (fun σ H2 => ∃ i, 1 ≤ i ∧ i ≤ m ∧ σ = [some (.ref d), some (.str x), some (.ref c)] ∧ Same H H2 ∧ H2 c = some (.lst (((List.range i).map fun j => itr (lowR R) j x).map V.str)))
      (fun _ H2 => match H2 c with | some (.lst xs) => m - xs.length | _ => 0) ⟨1, Nat.le_refl _, hC.one, rfl, s0, upd_same⟩ ?_ ?_
    · rintro σ H2 ⟨i, h1, h2, rfl, s2, hc⟩
      have hmem : itr (lowR R) (i - 1) x ∈ nmsOf R := hC.mem _ (by omega)
      refine ⟨_, rfl, _, rfl, 1, rfl, c, _, _, _, rfl, rfl, .inl (.inl hc), last_of h1, d, _, rfl, dget_rn (same_rd s2 hd) hmem, rfl, _, rfl, ?_⟩
      have enext : lowR R (itr (lowR R) (i - 1) x) = itr (lowR R) i x := by
        have e : i = i - 1 + 1 := by omega
        exact (congrArg (fun j => itr (lowR R) j x) e).symm
      have hl0 : (((List.range i).map fun j => itr (lowR R) j x).map V.str).length = i := by
        rw [List.length_map, List.length_map, List.length_range]
      have hn0 : (belowK R).length = R.length := by
        rw [kmap_len, List.length_map]
      have hmost := hC.most
      have hRm := hG.most
      refine ite2 (fun h => ?_) (fun h => ?_)
      · have him : i < m := by
          rcases Nat.lt_or_ge i m with z | z
          · exact z
          · have e : i = m := by omega
            have e2 : V.str (lowR R (itr (lowR R) (i - 1) x)) = V.str "sea" := by rw [enext, e, hC.sea]
            rw [decide_eq_true e2] at h
            cases h
        refine ⟨_, rfl, c, _, rfl, .inl (.inl (.inl hc)), _, rfl, d, _, rfl, same_rd s2 hd, _, _, rfl, rfl, _, rfl, ?_⟩
        refine iteD (by omega) ?_
        refine ⟨_, rfl, .inl ⟨rfl, _, .inl (.inl hc)⟩, _, rfl, _, rfl, 1, rfl, c, _, _, _, rfl, rfl, .inl (.inl hc), last_of h1, d, _, rfl, dget_rn (same_rd s2 hd) hmem, ?_⟩
        refine ⟨c, _, _, rfl, rfl, hc, by rw [hl0]; exact small1000 (by omega), ?_⟩
        have ecat : (((List.range i).map fun j => itr (lowR R) j x).map V.str) ++ [V.str (lowR R (itr (lowR R) (i - 1) x))] = ((List.range (i + 1)).map fun j => itr (lowR R) j x).map V.str := by
          rw [List.range_succ, List.map_append, List.map_append, enext]
          rfl
        rw [ecat]
        refine ⟨⟨i + 1, by omega, by omega, rfl, fun b o hb => ?_, upd_same⟩, ?_⟩
        · rw [upd_ne (ne_of_none hb nc)]
          exact s2 b o hb
        · show (match upd H2 c (.lst (((List.range (i + 1)).map fun j => itr (lowR R) j x).map V.str)) c with | some (.lst xs) => m - xs.length | _ => 0) < (match H2 c with | some (.lst xs) => m - xs.length | _ => 0)
          rw [upd_same, hc]
          show m - (((List.range (i + 1)).map fun j => itr (lowR R) j x).map V.str).length < m - (((List.range i).map fun j => itr (lowR R) j x).map V.str).length
          rw [hl0, List.length_map, List.length_map, List.length_range]
          omega
      · have him : i = m := by
          rcases Nat.lt_or_ge i m with z | z
          · exfalso
            have hne := hG.nm.sea _ (hC.mem i z)
            refine h ?_
            rw [enext, decide_eq_false (fun q => hne (V.str.inj q))]
            rfl
          · omega
        subst him
        refine ⟨_, rfl, c, _, rfl, .inl (.inl hc), fun t ot nt pt => ?_⟩
        rw [← hC.eq]
        exact k _ t (s2.trans (same_upd nt)) (s2.free nt) ⟨ot, pt, upd_same⟩
    · intro σ H2 Q1 Q2 hQ h
      obtain ⟨v1, e1, v2, e2, i, e3, p, xs, j, v, e4, e5, h6, h7, a, u, e8, g, hs, b, e9, h⟩ := h
      refine ⟨v1, e1, v2, e2, i, e3, p, xs, j, v, e4, e5, h6, h7, a, u, e8, g, hs, b, e9, ?_⟩
      cases b with
      | false => exact hQ _ _ h
      | true =>
        obtain ⟨w1, f1, q, ys, f2, f3, w2, f4, q2, kv, f5, f6, n1, n2, f7, f8, b2, f9, h⟩ := h
        exact ⟨w1, f1, q, ys, f2, f3, w2, f4, q2, kv, f5, f6, n1, n2, f7, f8, b2, f9, hQ _ _ h⟩
end
end K0
end

/-! ## K0E -/
section
set_option Elab.async false
set_option linter.all false
set_option maxRecDepth 100000
namespace L2
open PySem PySem.Spec PyProof.Rows
/-! ### enumerate of a dict -/
section
variable {prog : Program} {w : World} {A : Around} {E : Value → Shared → Prop} {s : Shared}
theorem k0_key_item {it d : Addr} {i n ep : Nat} {od : Obj} {es : Array DictEntry} {en : DictEntry} {Q : Value → Shared → Prop} (hit : s.heap.IsKeyIter it d i n ep) (hod : s.heap.get? d = some od) (hdd : od.data = .dict es ep)
    (hsz : es.size = n) (hx : es[i]? = some en) (hQ : ∀ h', h'.IsKeyIter it d (i + 1) n ep → Heap.SameBut it s.heap h' → Q en.key { s with heap := h' }) : wpAny (model prog w) A (Builtin.SmallTypes.nextOf (.ref it)) Q E s := by
  obtain ⟨o, ho, hc, hd⟩ := id hit
  unfold Builtin.SmallTypes.nextOf
  refine wpAny_bind (wpAny_callSpecial?_slot (name := Str.ofString "__next__") hit.typeIs F.slot_dict_keyiterator_next
    (wpAny_call_entry F.slot_dict_keyiterator_next hit.typeIs F.entry_dict_keyiterator_next ?_ (F.args_dict_keyiterator_next_1 _)))
  refine wpAny_bind (wpAny_pure ?_)
  refine wpAny_bind ?_
  refine wpAny_bind ?_
  first | refine wpAny_bind (wpAny_typeNameOfWhole_keyiter hit.typeIs (wpAny_pure ?_)) | refine wpAny_bind (wpAny_typeNameOf_keyiter hit.typeIs (wpAny_pure ?_))
  refine wpAny_bind (wpAny_fieldsOf ho hd ?_)
  have hown : Builtin.Dict_items.ownsTuple "dict_keyiterator" = false := by decide
  simp only [hown, Bool.false_eq_true, if_false]
  show wpAny _ _ (if (Value.ref d == Value.none) = true then _ else _) _ _ s
  rw [if_neg (show ¬ ((Value.ref d == Value.none) = true) from Bool.false_ne_true)]
  refine wpAny_bind (wpAny_pure ?_)
  refine wpAny_bind (wpAny_dictEntries hod hdd ?_)
  rw [if_neg (by rw [hsz]; simp)]
  refine wpAny_bind (wpAny_pure ?_)
  refine wpAny_bind (wpAny_dictEpoch hod hdd ?_)
  rw [if_neg (by simp)]
  refine wpAny_pure ?_
  obtain ⟨hlt', hen⟩ := Array.getElem?_eq_some_iff.mp hx
  simp only [show ¬ ((i : Int) < 0) from by omega, if_false, Int.toNat_natCast, Array.getElem?_eq_getElem hlt']
  refine wpAny_bind ?_
  first | refine wpAny_bind (wpAny_typeNameOfWhole_keyiter hit.typeIs (wpAny_pure ?_)) | refine wpAny_bind (wpAny_typeNameOf_keyiter hit.typeIs (wpAny_pure ?_))
  refine wpAny_bind (wpAny_isOneOf_keyiter hit.typeIs ?_)
  show wpAny _ _ (setField (.ref it) 1 (rawInt ((i : Int) + 1)) >>= _) _ _ s
  refine wpAny_bind (wpAny_setField ho hd (by simp) ?_)
  have hit' : (s.heap.update it (Obj.mapFields (·.setIfInBounds 1 (rawInt ((i : Int) + 1))))).IsKeyIter it d (i + 1) n ep :=
    ⟨_, Heap.get?_update_self _ ho (Obj.isFreed_of_fields (Obj.data_mapFields hd _)), (Obj.cls_mapFields ..).trans hc, by rw [Obj.data_mapFields hd]; simp [rawInt]⟩
  refine wpAny_bind (wpAny_holding ?_)
  refine wpAny_bind (wpAny_isOneOf_keyiter (s := { s with heap := s.heap.update it (Obj.mapFields (·.setIfInBounds 1 (rawInt ((i : Int) + 1)))) }) hit'.typeIs ?_)
  show wpAny _ _ (pure es[i].key) _ _ _
  rw [hen]
  exact wpAny_pure (wpAny_pure ⟨_, rfl, wpAny_pure (hQ _ hit' (Heap.SameBut.update ..))⟩)
theorem k0_key_end {it d : Addr} {i n ep : Nat} {od : Obj} {es : Array DictEntry} {Q : Value → Shared → Prop} (hh : A.handled = none) (hit : s.heap.IsKeyIter it d i n ep) (hod : s.heap.get? d = some od) (hdd : od.data = .dict es ep)
    (hsz : es.size = n) (hge : n ≤ i) (hE : ∀ h' e, Heap.ExtBut it s.heap h' → (∃ o, h'.get? e = some o ∧ o.cls = .type "StopIteration") → E (.ref e) { s with heap := h' }) : wpAny (model prog w) A (Builtin.SmallTypes.nextOf (.ref it)) Q E s := by
  obtain ⟨o, ho, hc, hd⟩ := id hit
  unfold Builtin.SmallTypes.nextOf
  refine wpAny_bind (wpAny_callSpecial?_slot (name := Str.ofString "__next__") hit.typeIs F.slot_dict_keyiterator_next
    (wpAny_call_entry F.slot_dict_keyiterator_next hit.typeIs F.entry_dict_keyiterator_next ?_ (F.args_dict_keyiterator_next_1 _)))
  refine wpAny_bind (wpAny_pure ?_)
  refine wpAny_bind ?_
  refine wpAny_bind ?_
  first | refine wpAny_bind (wpAny_typeNameOfWhole_keyiter hit.typeIs (wpAny_pure ?_)) | refine wpAny_bind (wpAny_typeNameOf_keyiter hit.typeIs (wpAny_pure ?_))
  refine wpAny_bind (wpAny_fieldsOf ho hd ?_)
  have hown : Builtin.Dict_items.ownsTuple "dict_keyiterator" = false := by decide
  simp only [hown, Bool.false_eq_true, if_false]
  show wpAny _ _ (if (Value.ref d == Value.none) = true then _ else _) _ _ s
  rw [if_neg (show ¬ ((Value.ref d == Value.none) = true) from Bool.false_ne_true)]
  refine wpAny_bind (wpAny_pure ?_)
  refine wpAny_bind (wpAny_dictEntries hod hdd ?_)
  rw [if_neg (by rw [hsz]; simp)]
  refine wpAny_bind (wpAny_pure ?_)
  refine wpAny_bind (wpAny_dictEpoch hod hdd ?_)
  rw [if_neg (by simp)]
  refine wpAny_pure ?_
  have hge' : es.size ≤ i := by rw [hsz]; exact hge
  simp only [show ¬ ((i : Int) < 0) from by omega, if_false, Int.toNat_natCast, Array.getElem?_eq_none hge']
  refine wpAny_bind ?_
  first | refine wpAny_bind (wpAny_typeNameOfWhole_keyiter hit.typeIs (wpAny_pure ?_)) | refine wpAny_bind (wpAny_typeNameOf_keyiter hit.typeIs (wpAny_pure ?_))
  show wpAny _ _ (setField (.ref it) 0 .none >>= _) _ _ s
  refine wpAny_bind (wpAny_setField ho hd (by simp) ?_)
  show wpAny _ _ (newExc (.type "StopIteration") [] >>= _) _ _ _
  refine wpAny_bind ?_
  simp only [newExc, newTuple]
  refine wpAny_bind (wpAny_newObj_type ?_ (by size_fits))
  refine wpAny_bind (m := firstArgMember _ _) (wpAny_of_eq (a := Value.none) (by first | rfl | (simp only [firstArgMember]; rfl)) ?_)
  refine wpAny_newObj_type ?_ (by size_fits)
  simp only [raiseNew]
  refine wpAny_bind (wpAny_handled ?_)
  first | rw [show A.in1.handled = none from hh] | rw [hh]
  refine wpAny_bind (wpAny_pure (wpAny_throw ?_))
  exact hE _ _ (((Heap.SameBut.update ..).extBut.push _).push _) ⟨_, Heap.get?_push_size _ rfl, rfl⟩
end
theorem k0_draws {prog : Program} {w : World} {A : Around} (hh : A.handled = none) (it d : Addr) (hne : d ≠ it) (od : Obj) (es : Array DictEntry) (ep : Nat) (hdd : od.data = .dict es ep) :
    Draws prog w A it [it, d] es.size (fun i v => ∃ en, es[i]? = some en ∧ v = en.key) (fun i h => h.IsKeyIter it d i es.size ep ∧ h.get? d = some od) where
  live := fun _ _ st => let ⟨o, ho, _⟩ := st.1; ⟨o, ho⟩
  frame := fun _ _ _ st hk => ⟨st.1.at fun o e => hk it (by simp) o e, hk d (by simp) _ st.2⟩
  item := fun i s Q E hi st hQ => by
    refine k0_key_item st.1 st.2 hdd rfl (en := es[i]) (by simp [hi]) fun h' hit' hs' => ?_
    exact hQ _ h' s.toks ⟨_, by simp [hi], rfl⟩ ⟨hit', (hs'.2 d hne).trans st.2⟩ hs'
  done := fun s Q E st hE => k0_key_end hh st.1 st.2 hdd rfl (Nat.le_refl _) hE
theorem k0_begins {d : Addr} {o : Obj} {es : Array DictEntry} {ep : Nat} (hd : (d == sysModules) = false) (hc : o.ExactDict) (hdat : o.data = .dict es ep) :
    PySem.Begins (.ref d) { cls := .type "dict_keyiterator", data := .fields #[.ref d, .int 0 0, .int es.size 0, .int ep 0] } fun h => h.get? d = some o where
  iter := fun prog w A E s Q ho h => iter_keys hd ho hc hdat h
  keeps := fun h h' x hk => hk d _ x
  free := rfl
set_option maxHeartbeats 1000000 in
theorem k0_meets {v : Value} {o : Obj} {H : Heap → Prop} (B : PySem.Begins v o H) :
    Meets (Builtin.«enumerate.__new__» ⟨[.type "enumerate", v], []⟩) (fun _ R s => H s.heap ∧
      R (.ok (.ret (.ref (s.heap.push o).objs.size))) { s with heap := (s.heap.push o).push { cls := .type "enumerate", data := .fields #[.none, .bool false, .ref s.heap.objs.size, rawInt 0, .none, .none] } }) :=
  .of_wp fun prog w A R s h => by
    obtain ⟨hp, g, d, tk, os⟩ := s; obtain ⟨h1, h⟩ := h
    have hsub := sub_enumerate
    have q1 : ∀ {A' : Around} {E : Value → Shared → Prop} {Q : Value → Shared → Prop}, Q (.ref hp.objs.size) ⟨hp.push o, g, d, tk, os⟩ → wpAny (model prog w) A' (pyIter v) Q E ⟨hp, g, d, tk, os⟩ :=
      fun q => B.iter prog w _ _ ⟨hp, g, d, tk, os⟩ _ h1 q
    wp_walk using q1
    refine wpAny_stack_any fun st => wpAny_pure ?_
    split
    · rename_i c _ _ _ _ _
      cases (c == Value.type "enumerate")
      · wp_walk using q1
        exact ⟨_, rfl, h⟩
      · wp_walk using q1
        exact ⟨_, rfl, h⟩
    · wp_walk using q1
      exact ⟨_, rfl, h⟩
section
variable {prog : Program} {w : World} {A : Around} {E : Value → Shared → Prop} {s : Shared}
theorem k0_enum_call {v : Value} {o : Obj} {H : Heap → Prop} {Q : Value → Shared → Prop} (B : PySem.Begins v o H) (h1 : H s.heap)
    (h : ∀ h', IsEnum h' (s.heap.objs.size + 1) s.heap.objs.size 0 .none → h'.get? s.heap.objs.size = some o → h'.objs.size = s.heap.objs.size + 2 →
      (∀ b o, s.heap.get? b = some o → h'.get? b = some o) → Q (.ref (s.heap.objs.size + 1)) { s with heap := h' }) :
    wpAny (model prog w) A (call (.type "enumerate") [v]) Q E s := by
  refine callType_new F.called_enumerate (by decide) (F.typeCall_enumerate_1 _) (F.newCall_enumerate_1 _) (fun obj => F.args_object_init_2 obj _) F.entry_enumerate_new
    (k0_meets B) ⟨h1, ?_⟩
  have hz : (s.heap.push o).objs.size = s.heap.objs.size + 1 := Heap.size_push ..
  show _ ∧ _
  rw [hz]
  have he : IsEnum ((s.heap.push o).push { cls := .type "enumerate", data := .fields #[.none, .bool false, .ref s.heap.objs.size, rawInt 0, .none, .none] }) (s.heap.objs.size + 1) s.heap.objs.size 0 .none := by
    have := Heap.get?_push_size (s.heap.push o) (o := { cls := .type "enumerate", data := .fields #[.none, .bool false, .ref s.heap.objs.size, rawInt 0, .none, .none] }) rfl
    rw [hz] at this; exact this
  refine ⟨⟨_, he, rfl⟩, h _ he (Heap.get?_push_of_some _ (Heap.get?_push_size _ B.free)) (by rw [Heap.size_push, hz]) fun b o x => Heap.get?_push_of_some _ (Heap.get?_push_of_some _ x)⟩
end
/-- the keys of the locked dict at d, each with its number in a new pair -/
def ItEd (d : Addr) (o : Obj) (kvs : List (Key × V)) : It :=
  ⟨fun i H => H d = some (.frz o (.dK kvs)) ∧ i < kvs.length, fun i H v H' => ∃ T k u, v = .ref T ∧ H T = none ∧ H' = upd H T (.tup [.int (i : Nat), kV k]) ∧ kvs[i]? = some (k, u), fun i H => H d = some (.frz o (.dK kvs)) ∧ kvs.length ≤ i⟩
theorem turn_enumD {P : Program} {w : World} {K : PySem.W.Frag} {elts : List Expr} {kk : Nat} {tpos : Pos} {d : Addr} {o : Obj} {es : Array DictEntry} {ep : Nat} {kvs : List (Key × V)} (e it : Addr) (hod : o.data = .dict es ep) (hsz0 : es.size = kvs.length) :
    Turn P w K (.Tuple elts kk tpos) (ItEd d o kvs) [e, it] e (fun i h => (∃ old, IsEnum h e it ((i : Nat) : Int) old) ∧ h.IsKeyIter it d i es.size ep ∧ e ≠ it) where
  mem := by simp
  obj := fun i h st b hb => by
    obtain ⟨⟨old, he⟩, ⟨o', ho, hc, hd⟩, _⟩ := st
    have e' : b = e ∨ b = it := by simpa using hb
    rcases e' with z | z
    · rw [z]; exact ⟨_, he, fun v q => nomatch q⟩
    · rw [z]; exact ⟨o', ho, fun v q => by rw [hd] at q; cases q⟩
  keep := fun i h h' st k => let ⟨⟨old, he⟩, hi, hne⟩ := st; ⟨⟨old, k e (by simp) _ he⟩, hi.at fun o q => k it (by simp) o q, hne⟩
  item := by
    intro X hP hw hK hc i pins s σ H E I hf st hg
    subst hP hw hK
    obtain ⟨⟨old, he⟩, hit, hne⟩ := st
    obtain ⟨hd, hi⟩ := hg
    obtain ⟨hs, hgd, hx, es', ep', vs, hdt, hsz, kv, hm⟩ := I.frzK hd
    obtain ⟨rfl, rfl⟩ := dict_ep hod hdt
    have hel : e < s.heap.objs.size := Heap.lt_size he
    have hil : it < s.heap.objs.size := by obtain ⟨_, q, _⟩ := hit; exact Heap.lt_size q
    have hed : e ≠ d := fun z => by
      have q := he
      unfold IsEnum at q
      rw [z, hgd] at q
      rw [Option.some.inj q] at hod
      cases hod
    have hid : it ≠ d := fun z => by
      obtain ⟨o', q, _, hdd⟩ := id hit
      rw [z, hgd] at q
      rw [← Option.some.inj q, hod] at hdd
      cases hdd
    refine wpAny_pyNext_enum_itemD (k0_draws (A := X.A.in1) (show X.A.in1.handled = none from I.ok.hd hc) it d (Ne.symm hid) o es' ep' hod) he ⟨hit, hgd⟩ (by omega) hne (by simp [hne, hed]) fun x h' tk hP ho hit' hT hsz' hk => ?_
    obtain ⟨en, hen, rfl⟩ := hP
    obtain ⟨⟨k, v⟩, hkv⟩ : ∃ p, kvs[i]? = some p := ⟨kvs[i], List.getElem?_eq_getElem hi⟩
    have rk : RelV (kV k) en.key := by
      obtain ⟨u, hu, ru⟩ := kv_get kv hkv
      obtain ⟨od, es2, hod2, hcd, hdd, hkk, hp, hn⟩ := id hm
      rw [hgd] at hod2
      cases hod2
      obtain ⟨rfl, _⟩ := dict_ep hod hdd
      exact relV_key (hp.get? (by rw [Array.getElem?_toList]; exact hen) hu).1
    refine ⟨_, rfl, wpAny_letOwnedTupleGo_enum (s := { s with heap := h', toks := tk + 1 }) ho fun h'' he' sb => ?_⟩
    have hT2 : h''.get? s.heap.objs.size = some { cls := .type "tuple", data := .seq #[.int i tk, en.key] } := (sb.2 _ (Nat.ne_of_gt hel)).trans hT
    have new : ObjOk X.prog X.w (upd H s.heap.objs.size (.tup [.int (i : Nat), kV k])) h'' s.heap.objs.size (.tup [.int (i : Nat), kV k]) :=
      ⟨by show 2 ≤ sizeLine; decide, [.int i tk, en.key], .cons ⟨_, rfl⟩ (.cons rk .nil), ⟨_, hT2, rfl, _, rfl⟩⟩
    have I1 : Inv X pins σ (upd H s.heap.objs.size (.tup [.int (i : Nat), kV k])) { s with heap := h'', toks := tk + 1 } :=
      I.turnedNew (ch := [e, it]) (fun b ob hb q => (sb.2 b (fun z => hb (by simp [z]))).trans (hk b ob (fun z => hb (by simp [z])) (fun z => hb (by simp [z])) q)) hf (Nat.le_refl _) new
    refine ⟨.ref s.heap.objs.size, _, I1, rfl, ⟨_, k, v, rfl, I.hok.fresh (Nat.le_refl _), rfl, hkv⟩, ⟨⟨en.key, ?_⟩, hit'.1.at fun o q => (sb.2 it (Ne.symm hne)).trans q, hne⟩, fun b hb => ?_⟩
    · have e1 : ((i + 1 : Nat) : Int) = (i : Int) + 1 := by omega
      rw [e1]; exact he'
    · have hb' : b < s.heap.objs.size := by
        have e' : b = e ∨ b = it := by simpa using hb
        rcases e' with z | z
        · rw [z]; exact hel
        · rw [z]; exact hil
      rw [upd_ne (Nat.ne_of_lt hb')]
      exact (hf b hb).1
  done := by
    intro X hP hw hK hc i pins s σ H E I hf st hg
    subst hP hw hK
    obtain ⟨⟨old, he⟩, hit, hne⟩ := st
    obtain ⟨hd, hi⟩ := hg
    obtain ⟨hs, hgd, hx, es', ep', vs, hdt, hsz, kv, hm⟩ := I.frzK hd
    obtain ⟨rfl, rfl⟩ := dict_ep hod hdt
    obtain ⟨f0, f1, f2, f3, f4, f5⟩ := hf it (by simp)
    have hT : s.TypeIs (.ref e) "enumerate" := ⟨_, he, rfl⟩
    unfold pyNext
    refine wpAny_bind (wpAny_attempt (wpAny_callSpecial?_slot (name := Str.ofString "__next__") hT F.slot_enumerate_next
      (wpAny_call_entry F.slot_enumerate_next hT F.entry_enumerate_next ?_ (F.args_enumerate_next_1 _))))
    show wpAny _ _ (field (.ref e) 2 >>= _) _ _ _
    refine wpAny_bind (wpAny_field he rfl (x := .ref it) rfl ?_)
    refine wpAny_bind (k0_key_end (I.ok.hd hc) hit hgd hod rfl (by omega) fun h' x he' hx' => ?_)
    obtain ⟨o', ho, hc'⟩ := hx'
    refine wpAny_bind (wpAny_isInstance (T := "StopIteration") (b := true) ⟨o', ho, hc'⟩ isSubtype_stop ?_)
    exact wpAny_pure ⟨rfl, I.turned (t' := s.toks) (fun b ob hb q => he' b ob hb q) f0 f1 f3 f4 f5⟩
  self := fun A i s Q E st h => let ⟨⟨_, he⟩, _⟩ := st; wpAny_pyIter_enum he h
def iEnumD (ta : TA) : TI := fun σ H R => ta σ H fun vs H1 => ∃ d o kvs, vs = [.ref d] ∧ H1 d = some (.frz o (.dK kvs)) ∧ R (ItEd d o kvs) H1
theorem pi_enumD {X : Cx} {e : Expr} {ta : TA} {p pos tpos : Pos} {elts : List Expr} {kk : Nat} (hg : Gl X "enumerate") (hm : X.mg "enumerate" = none) (ha : PA X [e] ta) (hs : starEach [e] X.env = [(false, eval e X.env)] := by rfl) :
    PI X (.Tuple elts kk tpos) (.Call (.Name "enumerate" p) [e] [] pos) (iEnumD ta) := by
  refine ⟨fun pins s σ H R I h => ?_⟩
  refine Call_ (ld_blt I hg hm boot_enumerate (PyProof.Rows.callWith_type1 (thn (ha.run pos pins s σ H _ I h) fun us s1 ⟨vs, H1, I1, r1, q1⟩ => ?_) hs rfl))
  obtain ⟨d, o, kvs, ex, hd, q⟩ := q1
  subst ex
  cases r1 with
  | cons r rr =>
    cases rr
    cases r
    obtain ⟨hss, hgd, hx, es, ep, vs, hdt, hsz, kv, hm2⟩ := I1.frzK hd
    refine k0_enum_call (k0_begins hss hx hdt) hgd fun h' he hit hsz' hk => wpAny_pyIter_enum he ?_
    have I2 : Inv X pins σ H1 { s1 with heap := h' } := I1.kept (t' := s1.toks) hk
    refine ⟨s1.heap.objs.size + 1, [s1.heap.objs.size + 1, s1.heap.objs.size], _, _, H1, rfl, I2, turn_enumD (s1.heap.objs.size + 1) s1.heap.objs.size hdt hsz, ⟨⟨.none, he⟩, ⟨_, hit, rfl, rfl⟩, Nat.succ_ne_self _⟩, fun b hb => ?_, q⟩
    have e' : b = s1.heap.objs.size + 1 ∨ b = s1.heap.objs.size := by simpa using hb
    have hle : s1.heap.objs.size ≤ b := by
      rcases e' with z | z
      · rw [z]; exact Nat.le_add_right _ _
      · rw [z]; exact Nat.le_refl _
    exact I1.fpOk hle (I1.hok.fresh hle)
theorem walk_enumD {d : Addr} {o : Obj} {kvs : List (Key × V)} : Walk (ItEd d o kvs) kvs.length (fun H => H d = some (.frz o (.dK kvs))) (YPair (fun i => some (.int (i : Nat))) (fun i => kvs[i]?.map fun kv => kV kv.1)) := by
  refine ⟨fun _ _ hi q => ⟨q, hi⟩, fun _ q => ⟨q, Nat.le_refl _⟩, fun i H x H' _ _ y => ?_⟩
  obtain ⟨T, k, v, h2, h3, h4, h1⟩ := y
  exact ⟨T, .int (i : Nat), kV k, h2, h3, h4, rfl, by simp [h1]⟩
/-- a dict comprehension over a walk -/
theorem dc_it {J : It} {n : Nat} {G : Hp → Prop} {Y : Nat → Hp → V → Hp → Prop} (w : Walk J n G Y) {g : TG} {tt : TT} {tk tv : TE} {vs : List Nat} {σ : St} {H1 : Hp} {D : Addr} {Qd : Hp → Prop} (Pv : Nat → Hp → Prop) (h0 : Pv 0 (upd H1 D (.dK []))) (hG : ∀ i H, i ≤ n → Pv i H → G H)
    (hs : ∀ i x H H', i < n → Pv i H → Y i H x H' → g x (wipe σ vs) H' fun σ2 H2 => wipe σ2 vs = wipe σ vs ∧ tt σ2 H2 fun b H3 =>
      if b = true then tk σ2 H3 fun y H4 => tv σ2 H4 fun z H5 => ∃ kvs k, y = kV k ∧ H5 D = some (.dK kvs) ∧ kvs.length < sizeLine ∧ Pv (i + 1) (upd H5 D (.dK (putK kvs k z))) else Pv (i + 1) H3) (hd : ∀ H, Pv n H → Qd H) :
    ∃ W : Nat → Nat → Hp → Prop, (∃ m, W 0 m (upd H1 D (.dK []))) ∧ ∀ i m H, W i m H →
      (J.stop i H ∧ Qd H) ∨ (J.go i H ∧ ∃ Nx : Hp → Prop, (∀ H', Nx H' → ∃ m', m' < m ∧ W (i + 1) m' H') ∧ ∀ x H', J.yld i H x H' → g x (wipe σ vs) H' fun σ2 H2 => wipe σ2 vs = wipe σ vs ∧ tt σ2 H2 fun b H3 =>
        if b = true then tk σ2 H3 fun y H4 => tv σ2 H4 fun z H5 => ∃ kvs k, y = kV k ∧ H5 D = some (.dK kvs) ∧ kvs.length < sizeLine ∧ Nx (upd H5 D (.dK (putK kvs k z))) else Nx H3) := by
  refine ⟨fun i m H => m = n - i ∧ i ≤ n ∧ Pv i H, ⟨n, by simp, Nat.zero_le _, h0⟩, ?_⟩
  rintro i m H ⟨rfl, hi, p⟩
  have q := hG i H hi p
  by_cases hlt : i < n
  · refine .inr ⟨w.goes i H hlt q, Pv (i + 1), fun H' p' => ⟨n - (i + 1), by omega, rfl, hlt, p'⟩, fun x H' y => hs i x H H' hlt p (w.yields i H x H' hlt q y)⟩
  · have e : i = n := by omega
    subst e
    exact .inl ⟨w.stops H q, hd H p⟩
end L2
end

/-! ## K0F -/
section
set_option Elab.async false
set_option linter.all false
set_option maxRecDepth 100000
namespace K0
open PySem PySem.Spec PyProof.Rows L2
theorem same_unlock {H H' : Hp} {d : Addr} {u z : HO} (h : H d = some u) (s : Same (upd H d z) H') : Same H (upd H' d u) := fun b o hb => by
  by_cases e : b = d
  · rw [e] at hb ⊢
    rw [upd_same, ← hb, h]
  · rw [upd_ne e]
    exact s b o (by rw [upd_ne e]; exact hb)
theorem kmap_congr {f g : Str → V} : ∀ {ns : List Str}, (∀ x ∈ ns, f x = g x) → kmap f ns = kmap g ns
  | [], _ => rfl
  | n :: r, h => by
    unfold kmap
    rw [List.map_cons, List.map_cons, h n List.mem_cons_self]
    exact congrArg _ (kmap_congr fun x hx => h x (List.mem_cons_of_mem _ hx))
/-- a dict from each of these names to a tuple of its own of texts -/
structure TupsAt (H : Hp) (c : Addr) (ns : List Str) (g : Str → List Str) : Prop where
  ex : ∃ ta : Str → Addr, H c = some (.dK (kmap (fun x => .ref (ta x)) ns)) ∧ ∀ x ∈ ns, FT H (ta x) (g x)
theorem TupsAt.same {H H' : Hp} {c : Addr} {ns : List Str} {g : Str → List Str} (t : TupsAt H c ns g) (s : Same H H') : TupsAt H' c ns g := by
  obtain ⟨ta, h1, h2⟩ := t.ex
  exact ⟨ta, s _ _ h1, fun x hx => (h2 x hx).same s⟩
/-- one more -/
theorem tups_more {H : Hp} {D t : Addr} {ns : List Str} {g : Str → List Str} {x : Str} {ta : Str → Addr} (h1 : H D = some (.dK (kmap (fun y => .ref (ta y)) ns))) (h2 : ∀ y ∈ ns, FT H (ta y) (g y))
    (hx : x ∉ ns) (ht : FT H t (g x)) : TupsAt (upd H D (.dK (putK (kmap (fun y => .ref (ta y)) ns) (Sum.inr x) (.ref t)))) D (ns ++ [x]) g := by
  have htD : t ≠ D := ht.ne h1 (fun _ _ z => by cases z)
  refine ⟨fun y => if y = x then t else ta y, ?_, fun y hy => ?_⟩
  · rw [upd_same]
    have e1 : kmap (fun y => .ref (ta y)) ns = kmap (fun y => V.ref (if y = x then t else ta y)) ns := kmap_congr fun y hy => by
      rw [if_neg (fun e => hx (by rw [← e]; exact hy))]
    rw [e1]
    have := kmap_put (f := fun y => V.ref (if y = x then t else ta y)) hx
    rw [if_pos rfl] at this
    rw [this]
  · show FT (upd H D (.dK (putK (kmap (fun y => .ref (ta y)) ns) (Sum.inr x) (.ref t)))) (if y = x then t else ta y) (g y)
    rcases List.mem_append.mp hy with h | h
    · rw [if_neg (fun e => hx (by rw [← e]; exact h))]
      exact (h2 y h).upd ((h2 y h).ne h1 (fun _ _ z => by cases z))
    · rw [List.mem_singleton.mp h, if_pos rfl]
      exact ht.upd htD
theorem nodup_take {ns : List Str} (hd : ns.Nodup) {i : Nat} {x : Str} (h : ns[i]? = some x) : x ∉ ns.take i := by
  intro hm2
  obtain ⟨j, hj⟩ := List.getElem?_of_mem hm2
  have hji : j < i := by
    have := (List.getElem?_eq_some_iff.mp hj).1
    rw [List.length_take] at this
    omega
  rw [List.getElem?_take_of_lt hji] at hj
  have := nd_ix hd hj h
  omega
theorem kmap_get {f : Str → V} {ns : List Str} {i : Nat} {k : Key} {v : V} (h : (kmap f ns)[i]? = some (k, v)) : ∃ x, ns[i]? = some x ∧ k = Sum.inr x ∧ v = f x := by
  unfold kmap at h
  rw [List.getElem?_map] at h
  cases e : ns[i]? with
  | none => rw [e] at h; cases h
  | some x =>
    rw [e] at h
    injection h with h
    injection h with h1 h2
    exact ⟨x, rfl, h1.symm, h2.symm⟩
abbrev scFind_N : List Str := ["below", "weir", "courses", "place"]
abbrev scFind_S : Stmt := sFind
theorem scFind : FnScope scFind_N ["below"] (defScope sFind) := ⟨rfl, rfl, rfl, by decide +kernel, rfl, by decide +kernel, by decide +kernel⟩
def spFind (K : PySem.W.Frag) : Sp := fun vs H Q _ => ∃ (d : Addr) (R : List Row), vs = [.ref d] ∧ H d = some (.dK (belowK R)) ∧ GoodRows R ∧
  ∀ (H' : Hp) (c : Addr), Same H H' → H c = none → TupsAt H' c (nmsOf R) (course R) → Q (.ref c) H'
section
variable {P : Program} {w : World} {K : PySem.W.Frag} {mg : Str → Option Value} {base : Heap} {tS tM tL : Tok}
theorem ok_find {f fC : Addr} {fd fdC : FuncData} (F : FnP K "_find_courses" sFind f fd) (F_course : FnP K "_course" sCourse fC fdC) (g_course : mg "_course" = some (.ref fC)) (B : Bl mg) (C : Gc mg tS tM tL) : FnOk P w K mg base CX0 2 f fd ["below"] (spFind K) := by
  have G_course : FnOk P w K mg base CX0 1 fC fdC ["below", "weir"] (spCourse K) := ok_course F_course B C
  have b_course : Binds K fdC ["below", "weir"] [] := F_course.bindsN fun _ _ _ _ _ _ us hl => match us, hl with | [_, _], _ => rfl
  refine F.ok scFind (fun vs H Q E h => ?_) (fun cdv A outer s H vs Q E hr h => ?_)
  · obtain ⟨d, R, rfl, _⟩ := h
    rfl
  · obtain ⟨d, R, rfl, hd, hG, k⟩ := h
    have hu := hu_of hr
    have hr_course : Room 1 _ := hr.mono (by decide)
    refine ⟨_, PSs.nox (pss_cons
      (ps_lock (k0_setDc (i := 2) (own := [("weir", 1)]) (g := gName 1) (tt := tYes) (by rfl) scFind.nd rfl rfl (k0_sw rfl rfl rfl (by decide +kernel)) (pi_keys (pv 0)) (blkOk_by (own := [("weir", 1)]) (N := scFind_N) (sc := defScope scFind_S) (by decide +kernel)) (fun _ _ _ _ _ => (pg_name (i := 1) scFind.nd rfl (Or.inl rfl))) (fun _ _ _ _ _ => pts_nil) (fun _ _ _ _ _ => (pv 1)) (fun _ _ _ _ _ => (pe_call G_course hr_course (by rfl) g_course F_course.kp b_course .nil pass0 (pa_cons (pv 0) (pa_cons (pv 1) pa_nil))))))
      (pss_cons
      (ps_lock (ps_for PassesOwn.never rfl (pi_enumD (by rfl) B.enumerate (pa_cons (pv 2) pa_nil)) (pg_tup (by rfl) (pgs_cons (pg_name (i := 3) scFind.nd rfl (Or.inl rfl)) (pgs_cons (pg_name (i := 1) scFind.nd rfl (Or.inl rfl)) pgs_nil))) (pss_one (ps_if (pt_cmpR op_gt (pe_callB (lenK (K := K)) (by rfl) B.len PySem.boot_len (pa_cons (pe_dget hu (pv 2) (pv 1) (fun _ _ => rfl)) pa_nil)) (pe_callB k0_lenD (by rfl) B.len PySem.boot_len (pa_cons (pv 0) pa_nil)) (nomark _)) (pss_one ps_never) pss_nil))))
      (pss_one
      (ps_ret (pv 2))))), ?_⟩
    have hnd := hG.nm.nd
    have hRm := hG.most
    have hnl : (nmsOf R).length = R.length := List.length_map _
    refine ⟨d, _, hd, trivial, fun od => ?_⟩
    refine ⟨_, rfl, d, od, rfl, .inl ⟨_, upd_same, fun D hD => ?_⟩⟩
    have s0 : Same (upd H d (.frz od (.dK (belowK R)))) (upd (upd H d (.frz od (.dK (belowK R)))) D (.dK [])) := same_upd hD
    have ndD : d ≠ D := ne_of_none upd_same hD
    have hfz : ∀ H2, Same (upd H d (.frz od (.dK (belowK R)))) H2 → H2 d = some (.frz od (.dK (belowK R))) := fun H2 s => s _ _ upd_same
    refine dc_it (walk_keys (kvs := belowK R)) (fun i H2 => Same (upd H d (.frz od (.dK (belowK R)))) H2 ∧ TupsAt H2 D ((nmsOf R).take i) (course R)) ⟨s0, ⟨fun _ => 0, by rw [upd_same, List.take_zero]; rfl, fun x hx => by rw [List.take_zero] at hx; cases hx⟩⟩ (fun i H2 hi h => hfz _ h.1) ?_ ?_
    · rintro i x H2 H3 hi ⟨s2, T2⟩ ⟨e, k0, v0, hkv, ev⟩
      subst e
      subst ev
      obtain ⟨x, hx, rfl, rfl⟩ := kmap_get hkv
      have hxm : x ∈ nmsOf R := List.mem_of_getElem? hx
      refine ⟨rfl, ?_⟩
      unfold tYes
      refine iteT ?_
      refine ⟨_, rfl, _, rfl, _, rfl, d, R, x, rfl, .inr ⟨od, hfz _ s2⟩, hG, hxm, fun H4 t s4 nt ht => ?_⟩
      obtain ⟨ta, h1, h2⟩ := (T2.same s4).ex
      refine ⟨_, Sum.inr x, rfl, h1, ?_, fun b o hb => ?_, ?_⟩
      · rw [kmap_len, List.length_take]
        exact small1000 (by omega)
      · rw [upd_ne (ne_of_none hb hD)]
        exact s4 _ _ (s2 b o hb)
      · have hm := tups_more h1 h2 (nodup_take hnd hx) ht
        rw [List.take_add_one, hx]
        exact hm
    · rintro H2 ⟨s2, T2⟩
      rw [kmap_len, List.take_length] at T2
      refine ⟨hfz _ s2, ?_⟩
      have s3 : Same H (upd H2 d (.dK (belowK R))) := same_unlock hd s2
      have T3 : TupsAt (upd H2 d (.dK (belowK R))) D (nmsOf R) (course R) := by
        obtain ⟨ta, h1, h2⟩ := T2.ex
        refine ⟨ta, by rw [upd_ne ndD.symm]; exact h1, fun x hx => ?_⟩
        exact (h2 x hx).upd ((h2 x hx).ne (hfz _ s2) (fun _ _ z => by cases z))
      have hD3 : H D = none := by
        rw [upd_ne ndD.symm] at hD
        exact hD
      generalize hH3 : upd H2 d (.dK (belowK R)) = H3 at s3 T3
      obtain ⟨ta, h1, h2⟩ := T3.ex
      refine ⟨D, _, h1, trivial, fun oD => ?_⟩
      have hl1 : (upd H3 D (.frz oD (.dK (kmap (fun x => .ref (ta x)) (nmsOf R))))) D = some (.frz oD (.dK (kmap (fun x => .ref (ta x)) (nmsOf R)))) := upd_same
      refine ⟨_, rfl, D, oD, _, rfl, upd_same, ?_⟩
      refine for_it walk_enumD (fun i σ H4 => ∃ (v1 v3 : Option V), σ = [some (.ref d), v1, some (.ref D), v3] ∧ Same (upd H3 D (.frz oD (.dK (kmap (fun x => .ref (ta x)) (nmsOf R))))) H4) ⟨_, _, rfl, .refl _⟩ (fun i σ H4 hi h => by
        obtain ⟨_, _, _, s⟩ := h
        exact s _ _ hl1) ?_ ?_
      · rintro i x σ H4 H5 hi ⟨v1, v3, rfl, s4⟩ ⟨T, x1, x2, rfl, hT, rfl, e1, e2⟩
        rw [kmap_len] at hi
        obtain ⟨x, hx, rfl⟩ : ∃ x, (nmsOf R)[i]? = some x ∧ x2 = .str x := by
          refine ⟨(nmsOf R)[i], List.getElem?_eq_getElem hi, ?_⟩
          have e2 : ((kmap (fun x => V.ref (ta x)) (nmsOf R))[i]?.map fun kv => kV kv.1) = some x2 := e2
          unfold kmap at e2
          rw [List.getElem?_map, List.getElem?_eq_getElem hi] at e2
          exact (Option.some.inj e2).symm
        have hxm : x ∈ nmsOf R := List.mem_of_getElem? hx
        obtain ⟨m, hC⟩ := course_is hG hxm
        have s5 : Same (upd H3 D (.frz oD (.dK (kmap (fun x => .ref (ta x)) (nmsOf R))))) (upd H4 T (.tup [x1, .str x])) := s4.trans (same_upd hT)
        have hDr : Rd (upd H4 T (.tup [x1, .str x])) D (.dK (kmap (fun x => .ref (ta x)) (nmsOf R))) := .inr ⟨oD, s5 _ _ hl1⟩
        have hta : FT (upd H4 T (.tup [x1, .str x])) (ta x) (course R x) := ((h2 x hxm).upd ((h2 x hxm).ne h1 (fun _ _ z => by cases z))).same s5
        have hd3 : (upd H3 D (.frz oD (.dK (kmap (fun x => .ref (ta x)) (nmsOf R))))) d = some (.dK (belowK R)) := by
          rw [upd_ne ndD, ← hH3, upd_same]
        refine ⟨T, _, rfl, .inl (.inl upd_same), rfl, _, _, rfl, _, _, rfl, rfl, ?_⟩
        refine ⟨_, rfl, _, rfl, D, _, rfl, dget_rn hDr hxm, ta x, _, rfl, .inr (.inl hta.rd), _, rfl, d, _, rfl, .inl (s5 _ _ hd3), _, _, rfl, rfl, _, rfl, ?_⟩
        refine iteDn ?_ ?_
        · have h1 := hC.most
          rw [List.length_map, hC.len, kmap_len, hnl]
          omega
        · exact ⟨_, _, rfl, s5⟩
      · rintro σ H4 ⟨v1, v3, rfl, s4⟩
        refine ⟨s4 _ _ hl1, ?_⟩
        have s5 : Same H3 (upd H4 D (.dK (kmap (fun x => .ref (ta x)) (nmsOf R)))) := same_unlock h1 s4
        exact ⟨_, rfl, k _ D (s3.trans s5) hD3 (T3.same s5)⟩
end
end K0
end

/-! ## K0S -/
section
set_option Elab.async false
set_option linter.all false
set_option maxRecDepth 100000
namespace TS3
open PySem PyProof.Rows TS
/-- a tuple of two ints and a text -/
def Tri (h : Heap) (v : Value) (i j : Int) (x : Str) : Prop := ∃ a o xs n t u w, v = .ref a ∧ h.get? a = some o ∧ o.cls = .type "tuple" ∧ o.data = .seq xs n ∧ xs.toList = [.int i t, .int j u, .str x w]
theorem Tri.keeps {h h' : Heap} {v : Value} {i j : Int} {x : Str} (T : Tri h v i j x) (k : ∀ b o, h.get? b = some o → o.cls = .type "tuple" → h'.get? b = some o) : Tri h' v i j x := by
  obtain ⟨a, o, xs, n, t, u, w, e, h1, h2, h3, h4⟩ := T
  exact ⟨a, o, xs, n, t, u, w, e, k a o h1 h2, h2, h3, h4⟩
theorem Tri.uniq {h : Heap} {v : Value} {i j i' j' : Int} {x x' : Str} (T : Tri h v i j x) (T' : Tri h v i' j' x') : i = i' ∧ j = j' ∧ x = x' := by
  obtain ⟨a, o, xs, n, t, u, w, e, h1, h2, h3, h4⟩ := T
  obtain ⟨a', o', xs', n', t', u', w', e', k1, k2, k3, k4⟩ := T'
  rw [e] at e'
  cases e'
  rw [h1] at k1
  cases k1
  rw [h3] at k3
  cases k3
  rw [h4] at k4
  injection k4 with q1 q2
  injection q2 with q2 q3
  injection q3 with q3 _
  cases q1
  cases q2
  cases q3
  exact ⟨rfl, rfl, rfl⟩
/-- what is sorted: the second numbers below 100, each with one first number and text -/
structure TrisOk (h : Heap) (vs : List Value) (f : Int → Int) (g : Int → Str) : Prop where
  at_ : ∀ v ∈ vs, ∃ j, Tri h v (f j) j (g j) ∧ 0 ≤ j ∧ j < 100
theorem TrisOk.keeps {h h' : Heap} {vs : List Value} {f : Int → Int} {g : Int → Str} (x : TrisOk h vs f g) (k : ∀ b o, h.get? b = some o → o.cls = .type "tuple" → h'.get? b = some o) : TrisOk h' vs f g :=
  ⟨fun v hv => let ⟨j, t, r⟩ := x.at_ v hv; ⟨j, t.keeps k, r⟩⟩
theorem firsts {h : Heap} {f : Int → Int} {g : Int → Str} : ∀ vs : List Value, TrisOk h vs f g → ∃ fs, PySem.W.KatTups h vs fs ∧ fs.length = vs.length ∧ ∀ z, z ∈ fs → ∃ n t, z = Value.int n t
  | [], _ => ⟨[], PySem.W.KatTups.nil, rfl, fun f hf => by simp at hf⟩
  | v :: vs, x => by
    obtain ⟨fs, k, hl, hi⟩ := firsts vs ⟨fun u hu => x.at_ u (List.mem_cons_of_mem _ hu)⟩
    obtain ⟨j, ⟨a, o, xs, n, t, u, w, e, h1, h2, h3, h4⟩, _⟩ := x.at_ v (List.mem_cons_self ..)
    subst e
    refine ⟨.int (f j) t :: fs, PySem.W.KatTups.cons h1 h2 h3 ?_ k, by simp [hl], ?_⟩
    · have z := congrArg (fun l : List Value => l[0]?) h4
      simpa using z
    · intro z hz
      rcases List.mem_cons.mp hz with rfl | hz
      · exact ⟨_, t, rfl⟩
      · exact hi z hz
section
variable {prog : Program} {w : World} {A : Around} {E : Value → Shared → Prop} {s : Shared}
theorem kind3 {f : Int → Int} {g : Int → Str} {vs : List Value} (h2 : 2 ≤ vs.length) (x : TrisOk s.heap vs f g) (r : Value → Int) (hr : ∀ v, v ∈ vs → ∀ i j y, Tri s.heap v i j y → r v = i * 100 + j) (Q : SortKind → Shared → Prop)
    (h : ∀ κ, Cmp prog w A s κ (pairsOf vs) r → Q κ s) : wpAny (model prog w) A (keyKind' vs.toArray) Q E s := by
  obtain ⟨fs, k, hl, hi⟩ := firsts vs x
  refine PySem.W.kat_kind (T := Value.type "int") k (by omega) (fun f hf => ?_) rfl (h _ ?_)
  · obtain ⟨n, t, rfl⟩ := hi f hf
    exact PySem.W.Looks.of_pure rfl
  · intro p q hp hq Q' E' hQ
    rw [pairsOf_toList] at hp hq
    obtain ⟨j, tp, j0, j1⟩ := x.at_ _ (mem_zip_self hp).2
    obtain ⟨l, tq, l0, l1⟩ := x.at_ _ (mem_zip_self hq).2
    have ep := hr _ (mem_zip_self hp).2 _ _ _ tp
    have eq2 := hr _ (mem_zip_self hq).2 _ _ _ tq
    have hQ' : Q' (decide (f j * 100 + j < f l * 100 + l)) s := by
      have z : decide (r p.1 < r q.1) = decide (f j * 100 + j < f l * 100 + l) := by rw [ep, eq2]
      rw [← z]; exact hQ
    obtain ⟨a, o, xs, n, t, u, w1, e1, ho, hc, hdt, i⟩ := tp
    obtain ⟨a', o', ys, n', t', u', w2, e2, ho', hc', hdt', i'⟩ := tq
    rw [e1, e2]
    refine PySem.W.kat_lt ho hdt ho' hdt' ?_
    have sz : decide (xs.size < ys.size) = false := by
      have l1 := congrArg List.length i
      have l2 := congrArg List.length i'
      rw [Array.length_toList] at l1 l2
      exact decide_eq_false (by rw [l1, l2]; exact Nat.lt_irrefl _)
    rw [sz, i, i']
    show PySem.W.KatLex prog w A _ false Q' [(Value.int (f j) t, Value.int (f l) t'), (Value.int j u, Value.int l u'), (Value.str (g j) w1, Value.str (g l) w2)] 0 s
    refine PySem.W.kat_cons (wpAny_eqBool_int ?_)
    by_cases e : f j = f l
    · rw [e, beq_self_eq_true]
      refine PySem.W.kat_yes (PySem.W.kat_cons (wpAny_eqBool_int ?_))
      by_cases e3 : j = l
      · subst e3
        rw [beq_self_eq_true]
        refine PySem.W.kat_yes (PySem.W.kat_cons (wpAny_eqBool_str ?_))
        rw [decide_eq_true rfl]
        refine PySem.W.kat_yes (PySem.W.kat_nil ?_)
        rw [decide_eq_false (Int.lt_irrefl _)] at hQ'
        exact hQ'
      · rw [show (j == l) = false from beq_eq_false_iff_ne.mpr e3]
        refine PySem.W.kat_no (oneLt_ints _ ?_)
        have d : decide (f j * 100 + j < f l * 100 + l) = decide (j < l) := decide_eq_decide.mpr (by rw [e]; omega)
        rw [d] at hQ'
        exact hQ'
    · rw [show (f j == f l) = false from beq_eq_false_iff_ne.mpr e]
      refine PySem.W.kat_no (oneLt_ints _ ?_)
      have d : decide (f j * 100 + j < f l * 100 + l) = decide (f j < f l) := decide_eq_decide.mpr (by omega)
      rw [d] at hQ'
      exact hQ'
/-- the second number as the heap tells it -/
noncomputable def rankOf (h : Heap) (v : Value) : Int := open Classical in if x : ∃ r : Int, ∃ i j y, Tri h v i j y ∧ r = i * 100 + j then x.choose else 0
theorem rankOf_eq {h : Heap} {v : Value} {i j : Int} {y : Str} (T : Tri h v i j y) : rankOf h v = i * 100 + j := by
  have x : ∃ r : Int, ∃ i j y, Tri h v i j y ∧ r = i * 100 + j := ⟨_, i, j, y, T, rfl⟩
  unfold rankOf
  rw [dif_pos x]
  obtain ⟨i', j', y', T', e⟩ := x.choose_spec
  obtain ⟨e1, e2, _⟩ := T.uniq T'
  rw [e, e1, e2]
theorem sort3 {a : Addr} {vs : List Value} {n : Nat} {f : Int → Int} {g : Int → Str} {P : PySem.Fin → Shared → Prop} (ho : s.heap.get? a = some (seqObj "list" vs.toArray n)) (h64 : vs.length < 64) (x : TrisOk s.heap vs f g)
    (r : Value → Int) (hr : ∀ v, v ∈ vs → ∀ i j y, Tri s.heap v i j y → r v = i * 100 + j)
    (h : ∀ out : Array Value, out.toList.Perm vs → out.toList.Pairwise (fun u v => r u ≤ r v) → P (.done (.ret .none)) { s with heap := sortedHeap s.heap a vs out }) :
    wpAny (model prog w) A (Builtin.«list.sort» ⟨[.ref a], []⟩) P E s := by
  have keep : ∀ b o, s.heap.get? b = some o → o.cls = .type "tuple" → (midHeap s.heap a vs).get? b = some o := fun b o e hc => by
    refine midHeap_old ?_ e
    rintro rfl
    rw [ho] at e
    have e' : seqObj "list" vs.toArray n = o := Option.some.inj e
    rw [← e'] at hc
    have c' : Value.type "list" = Value.type "tuple" := hc
    injection c' with c''
    exact absurd c'' (by decide)
  refine SK.plain_sort (r := r) ho h64 (fun h2 Q hQ => ?_) fun ps out h1 h2 h3 => ?_
  · refine kind3 (s := { s with heap := midHeap s.heap a vs }) h2 (x.keeps keep) r (fun v hv i j y t => ?_) Q hQ
    obtain ⟨j0, t0, _⟩ := x.at_ v hv
    obtain ⟨e1, e2, e3⟩ := t.uniq (t0.keeps keep)
    rw [e1, e2]
    exact hr v hv _ _ _ t0
  · obtain ⟨p, o⟩ := out_rank h1 h2 h3
    exact h out p o
theorem sorted3 {l : Addr} {vs : List Value} {f : Int → Int} {g : Int → Str} {Q : Value → Shared → Prop} (hl : s.heap.IsList l vs.toArray) (h64 : vs.length < 64) (x : TrisOk s.heap vs f g)
    (h : ∀ out : Array Value, out.toList.Perm vs → out.toList.Pairwise (fun u v => rankOf s.heap u ≤ rankOf s.heap v) → Q (.ref (s.heap.objs.size + 1)) { s with heap := sortedAll s.heap vs out }) :
    wpAny (model prog w) A (call (.builtin "sorted") [.ref l]) Q E s := by
  refine Calls.call_function_entry kind_sorted plain_sorted entry_sorted (args_sorted1 _) ?_
  unfold Builtin.«sorted»
  refine wpAny_bind (m := checkCount "sorted" 1 1 _) (wpAny_pure ?_)
  refine wpAny_bind (collect_list hl ?_ (by rw [sizeLine_eq]; omega))
  refine wpAny_bind (wpAny_newList ?_ (by rw [sizeLine_eq]; omega))
  have hsz : ((s.heap.push (seqObj "list" #[] 0)).update s.heap.objs.size (Obj.mapSeq (· ++ vs.toArray))).objs.size = s.heap.objs.size + 1 := by
    rw [Heap.size_update, size_push']
  have hoL : (((s.heap.push (seqObj "list" #[] 0)).update s.heap.objs.size (Obj.mapSeq (· ++ vs.toArray))).push (seqObj "list" vs.toArray 0)).get? (s.heap.objs.size + 1) = some (seqObj "list" vs.toArray 0) := by
    rw [← hsz]; exact Heap.get?_push_size _ rfl
  have keep : ∀ b o, s.heap.get? b = some o → o.cls = .type "tuple" → (((s.heap.push (seqObj "list" #[] 0)).update s.heap.objs.size (Obj.mapSeq (· ++ vs.toArray))).push (seqObj "list" vs.toArray 0)).get? b = some o := fun b o q _ => by
    have hlt : b < s.heap.objs.size := Heap.lt_size q
    rw [Heap.get?_push_ne _ _ _ (by rw [hsz]; exact Nat.ne_of_lt (Nat.lt_succ_of_lt hlt)), Heap.get?_update_ne _ _ _ _ (Nat.ne_of_lt hlt), Heap.get?_push_ne _ _ _ (Nat.ne_of_lt hlt)]
    exact q
  show wpAny _ _ _ _ _ { s with heap := ((s.heap.push (seqObj "list" #[] 0)).update s.heap.objs.size (Obj.mapSeq (· ++ vs.toArray))).push (seqObj "list" vs.toArray 0) }
  rw [hsz]
  refine wpAny_bind (wpAny_holding (wpAny_call_entry slot_list_sort ⟨_, hoL, rfl⟩ entry_list_sort (sort3 hoL h64 (x.keeps keep) (rankOf s.heap) (fun v hv i j y t => ?_) fun out a1 a2 => ⟨_, rfl, ?_⟩) (args_list_sort _)))
  · obtain ⟨j0, t0, _⟩ := x.at_ v hv
    obtain ⟨e1, e2, _⟩ := t.uniq (t0.keeps keep)
    rw [e1, e2]
    exact rankOf_eq t0
  · exact wpAny_pure ⟨_, rfl, h out a1 a2⟩
end
end TS3
namespace L2
open PySem PySem.Spec PyProof.Rows
/-- sorted(xs), xs a list of fewer than 64 tuples of two ints and a text, the second ints unlike: some arrangement -/
def k0_rSorted3 (K : PySem.W.Frag) : List V → Hp → VK → Prop := fun vs H Q => ∃ (a : Addr) (xs : List V) (f : Int → Int) (g : Int → Str), vs = [V.ref a] ∧ SqL K H a xs ∧ xs.length < 64 ∧ (∀ x ∈ xs, ∃ t j, x = V.ref t ∧ H t = some (.tup [.int (f j), .int j, .str (g j)]) ∧ 0 ≤ j ∧ j < 100) ∧
  ∀ (ys : List V) (p : Addr), ys.Perm xs → (ys.Pairwise fun x y => ∀ t t' j j', x = V.ref t → y = V.ref t' → H t = some (.tup [.int (f j), .int j, .str (g j)]) → H t' = some (.tup [.int (f j'), .int j', .str (g j')]) → f j * 100 + j ≤ f j' * 100 + j') → H p = none → Q (.ref p) (upd H p (.lst ys))
theorem k0_sorted3 {X : Cx} : CallR X (.builtin "sorted") (k0_rSorted3 X.K) := by
  intro pins s σ H vs us Q I r h
  obtain ⟨a, xs, f, g, rfl, hs, h64, hx, q⟩ := h
  obtain ⟨its, rv, hl, hz⟩ := I.list hs
  rw [Vals.ref1 r]
  obtain ⟨e1, e2⟩ := bkV_refs rv fun x m => by
    obtain ⟨t, j, e, _⟩ := hx x m
    exact ⟨t, e⟩
  have tri : ∀ t j, H t = some (.tup [.int (f j), .int j, .str (g j)]) → TS3.Tri s.heap (.ref t) (f j) j (g j) := fun t j ht => by
    obtain ⟨_, its2, r2, o, ho, hc, n, hd⟩ := I.hok _ _ ht
    cases r2 with
    | cons ra r2 =>
      cases r2 with
      | cons rb r2 =>
        cases r2 with
        | cons rc r2 =>
          cases r2
          obtain ⟨ta, rfl⟩ := ra
          obtain ⟨tb, rfl⟩ := rb
          obtain ⟨tc, rfl⟩ := rc
          exact ⟨t, o, _, n, ta, tb, tc, rfl, ho, hc, hd, rfl⟩
  refine TS3.sorted3 (f := f) (g := g) hl.isList (by rw [← rv.length]; exact h64) ⟨fun v hv => ?_⟩ fun out h1 h2 => ?_
  · obtain ⟨t, rfl⟩ := e2 v hv
    have hm : V.ref t ∈ xs := by
      rw [e1]
      exact List.mem_map.mpr ⟨_, hv, rfl⟩
    obtain ⟨t', j, e, ht, hj0, hj1⟩ := hx _ hm
    cases e
    exact ⟨j, tri _ _ ht, hj0, hj1⟩
  · obtain ⟨ep, he'⟩ := PyProof.Rows.sortedAll_at s.heap its out
    have h3 : ∀ u ∈ out.toList, ∃ a, u = Value.ref a := fun u hu => e2 u (h1.mem_iff.mp hu)
    have hp : (out.toList.map bkV).Perm xs := by
      rw [e1]
      exact h1.map bkV
    have ho : ((out.toList.map bkV).Pairwise fun x y => ∀ t t' j j', x = V.ref t → y = V.ref t' → H t = some (.tup [.int (f j), .int j, .str (g j)]) → H t' = some (.tup [.int (f j'), .int j', .str (g j')]) → f j * 100 + j ≤ f j' * 100 + j') := by
      rw [List.pairwise_map]
      refine List.Pairwise.imp_of_mem (fun {u v} hu hv hle t t' j j' ex ey ht ht' => ?_) h2
      obtain ⟨a1, rfl⟩ := h3 u hu
      obtain ⟨a2, rfl⟩ := h3 v hv
      have ex : V.ref a1 = V.ref t := ex
      have ey : V.ref a2 = V.ref t' := ey
      cases ex
      cases ey
      rw [TS3.rankOf_eq (tri _ _ ht), TS3.rankOf_eq (tri _ _ ht')] at hle
      exact hle
    have hlen : (out.toList.map bkV).length ≤ sizeLine := by
      rw [hp.length_eq]
      exact hz
    exact ⟨.ref _, upd H (s.heap.objs.size + 1) (.lst (out.toList.map bkV)), I.laid (t' := s.toks) (fun _ _ => PyProof.Rows.sortedAll_old) (Nat.le_succ _) ⟨hlen, out.toList, ep, bkV_vals h3, he'⟩, rfl, q _ _ hp ho (I.hok.fresh (Nat.le_succ _))⟩
end L2
end

/-! ## K0V -/
section

end

/-! ## K0G -/
section
set_option Elab.async false
set_option linter.all false
set_option maxRecDepth 100000
namespace K0
open PySem PySem.Spec PyProof.Rows L2
def aboveR (R : List Row) (y : Str) : List Str := (nmsOf R).filter fun x => decide (lowR R x = y)
def upR (R : List Row) (y : Str) : List Str := (nmsOf R).filter fun x => decide (y ∈ course R x)
/-! ### the deepest first -/
theorem list_getD (l : List Str) : l = (List.range l.length).map fun k => l.getD k "" := List.ext_getElem (by rw [List.length_map, List.length_range]) fun k h1 h2 => by
  rw [List.getElem_map, List.getElem_range, List.getD_eq_getElem?_getD, List.getElem?_eq_getElem h1]
  rfl
def deepR (R : List Row) : List Str := (List.range R.length).flatMap fun i => (nmsOf R).filter fun x => decide ((course R x).length = R.length - i)
/-- places, the deepest first -/
def deepP (n : Nat) (d : Nat → Nat) : List Nat := (List.range n).flatMap fun i => (List.range n).filter fun j => decide (d j = n - i)
theorem deepP_lt {n : Nat} {d : Nat → Nat} (h100 : n ≤ 100) : (deepP n d).Pairwise fun a b => -(d a : Int) * 100 + (a : Int) < -(d b : Int) * 100 + (b : Int) := by
  unfold deepP
  rw [List.pairwise_flatMap]
  refine ⟨fun i hi => ?_, ?_⟩
  · rw [List.pairwise_filter]
    refine List.Pairwise.imp (fun {a b} hab h1 h2 => ?_) (List.pairwise_lt_range (n := n))
    have h1 := of_decide_eq_true h1
    have h2 := of_decide_eq_true h2
    rw [h1, h2]
    omega
  · refine List.Pairwise.imp_of_mem (fun {i k} hi hk hik a ha b hb => ?_) (List.pairwise_lt_range (n := n))
    have hi := List.mem_range.mp hi
    have hk := List.mem_range.mp hk
    obtain ⟨a1, a2⟩ := List.mem_filter.mp ha
    obtain ⟨b1, b2⟩ := List.mem_filter.mp hb
    have a1 := List.mem_range.mp a1
    have b1 := List.mem_range.mp b1
    have a2 := of_decide_eq_true a2
    have b2 := of_decide_eq_true b2
    rw [a2, b2]
    omega
theorem deepP_perm {n : Nat} {d : Nat → Nat} (h100 : n ≤ 100) (hd : ∀ j, j < n → 1 ≤ d j ∧ d j ≤ n) : (deepP n d).Perm (List.range n) := by
  have nd : (deepP n d).Nodup := List.Pairwise.imp (fun {a b} h e => by
    subst e
    omega) (deepP_lt (d := d) h100)
  refine (List.perm_ext_iff_of_nodup nd List.nodup_range).mpr fun a => ⟨fun h => ?_, fun h => ?_⟩
  · obtain ⟨i, _, hm⟩ := List.mem_flatMap.mp h
    exact (List.mem_filter.mp hm).1
  · have ha := List.mem_range.mp h
    obtain ⟨h1, h2⟩ := hd a ha
    refine List.mem_flatMap.mpr ⟨n - d a, List.mem_range.mpr (by omega), List.mem_filter.mpr ⟨h, decide_eq_true (by omega)⟩⟩
theorem deep_eq {n : Nat} {d : Nat → Nat} {js : List Nat} (h100 : n ≤ 100) (hd : ∀ j, j < n → 1 ≤ d j ∧ d j ≤ n) (hp : js.Perm (List.range n)) (hs : js.Pairwise fun a b => -(d a : Int) * 100 + (a : Int) ≤ -(d b : Int) * 100 + (b : Int)) : js = deepP n d := by
  refine List.Perm.eq_of_pairwise (le := fun a b => -(d a : Int) * 100 + (a : Int) ≤ -(d b : Int) * 100 + (b : Int)) (fun a b ha hb h1 h2 => ?_) hs ((deepP_lt h100).imp fun h => Int.le_of_lt h) (hp.trans (deepP_perm h100 hd).symm)
  have ha := List.mem_range.mp (hp.mem_iff.mp ha)
  have hb := List.mem_range.mp ((deepP_perm h100 hd).mem_iff.mp hb)
  omega
theorem deep_names {R : List Row} {nm : Nat → Str} (hn : nmsOf R = (List.range R.length).map nm) : (deepP R.length fun j => (course R (nm j)).length).map nm = deepR R := by
  unfold deepP deepR
  rw [List.map_flatMap]
  congr 1
  funext i
  rw [hn, List.filter_map]
  rfl
abbrev scAbove_N : List Str := ["below", "low", "weir"]
abbrev scAbove_S : Stmt := sAbove
theorem scAbove : FnScope scAbove_N ["below", "low"] (defScope sAbove) := ⟨rfl, rfl, rfl, by decide +kernel, rfl, by decide +kernel, by decide +kernel⟩
abbrev scUp_N : List Str := ["courses", "low", "weir"]
abbrev scUp_S : Stmt := sUp
theorem scUp : FnScope scUp_N ["courses", "low"] (defScope sUp) := ⟨rfl, rfl, rfl, by decide +kernel, rfl, by decide +kernel, by decide +kernel⟩
abbrev scOrder_N : List Str := ["courses", "rows", "place", "weir", "row"]
abbrev scOrder_S : Stmt := sOrder
theorem scOrder : FnScope scOrder_N ["courses"] (defScope sOrder) := ⟨rfl, rfl, rfl, by decide +kernel, rfl, by decide +kernel, by decide +kernel⟩
def spAbove : Sp := fun vs H Q _ => ∃ (d : Addr) (R : List Row) (y : Str), vs = [.ref d, .str y] ∧ H d = some (.dK (belowK R)) ∧ GoodRows R ∧
  ∀ (H' : Hp) (t : Addr), Same H H' → H t = none → FT H' t (aboveR R y) → Q (.ref t) H'
def spUp : Sp := fun vs H Q _ => ∃ (c : Addr) (R : List Row) (y : Str), vs = [.ref c, .str y] ∧ TupsAt H c (nmsOf R) (course R) ∧ GoodRows R ∧
  ∀ (H' : Hp) (t : Addr), Same H H' → H t = none → FT H' t (upR R y) → Q (.ref t) H'
def spOrder : Sp := fun vs H Q _ => ∃ (c : Addr) (R : List Row), vs = [.ref c] ∧ TupsAt H c (nmsOf R) (course R) ∧ GoodRows R ∧
  ∀ (H' : Hp) (t : Addr), Same H H' → H t = none → H' t = some (.tup ((deepR R).map V.str)) → Q (.ref t) H'
/-- the place that a row tells -/
def plAt (H : Hp) (t : Addr) : Nat := match H t with | some (.tup [_, .int j, _]) => j.toNat | _ => 0
theorem inV_str (y : Str) (l : List Str) : inV (.str y) (l.map V.str) = decide (y ∈ l) := by
  unfold inV
  rw [List.any_map]
  by_cases h : y ∈ l
  · rw [decide_eq_true h]
    exact List.any_eq_true.mpr ⟨y, h, beq_self_eq_true y⟩
  · rw [decide_eq_false h, List.any_eq_false]
    intro x hx e
    have e : (x == y) = true := e
    rw [eq_of_beq e] at hx
    exact h hx
theorem flat_strs (l : List Str) : (l.map V.str).all flatV = true := by
  rw [List.all_map]
  exact List.all_eq_true.mpr fun _ _ => rfl
theorem filter_take {p : Str → Bool} {ns : List Str} {i : Nat} {x : Str} (h : ns[i]? = some x) : (ns.take (i + 1)).filter p = (ns.take i).filter p ++ (if p x = true then [x] else []) := by
  rw [List.take_add_one, h, List.filter_append]
  show _ ++ [x].filter p = _
  by_cases e : p x = true
  · rw [List.filter_cons_of_pos e, if_pos e]
    rfl
  · rw [List.filter_cons_of_neg e, if_neg e]
    rfl
section
variable {P : Program} {w : World} {K : PySem.W.Frag} {mg : Str → Option Value} {base : Heap} {tS tM tL : Tok}
theorem ok_above {f : Addr} {fd : FuncData} (F : FnP K "_directly_above" sAbove f fd) (B : Bl mg) : FnOk P w K mg base CX0 1 f fd ["below", "low"] spAbove := by
  refine F.ok scAbove (fun vs H Q E h => ?_) (fun cdv A outer s H vs Q E hr h => ?_)
  · obtain ⟨d, R, y, rfl, _⟩ := h
    rfl
  · obtain ⟨d, R, y, rfl, hd, hG, k⟩ := h
    have hu := hu_of hr
    refine ⟨_, PSs.nox (pss_one
      (ps_ret (pe_callTy (tupleF (K := K)) (by rfl) B.tuple (by decide +kernel) (pa_cons (pe_lock (pe_lc (own := [("weir", 2)]) (g := gName 2) (by rfl) scAbove.nd (pi_keys (pv 0)) (blkOk_by (own := [("weir", 2)]) (N := scAbove_N) (sc := defScope scAbove_S) (by decide +kernel)) (fun _ _ _ _ _ => (pg_name (i := 2) scAbove.nd rfl (Or.inl rfl))) (fun _ _ _ _ _ => (pts_one (pt_cmpR op_eq (pe_dget hu (pv 0) (pv 2) (fun _ _ => rfl)) (pv 1) (nomark _)))) (fun _ _ _ _ _ => (pv 2)))) pa_nil)))), ?_⟩
    have hnd := hG.nm.nd
    have hRm := hG.most
    have hnl : (nmsOf R).length = R.length := List.length_map _
    refine ⟨d, _, hd, trivial, fun od => ?_⟩
    refine ⟨_, rfl, d, od, rfl, .inl ⟨_, upd_same, fun D hD => ?_⟩⟩
    have s0 : Same (upd H d (.frz od (.dK (belowK R)))) (upd (upd H d (.frz od (.dK (belowK R)))) D (.lst [])) := same_upd hD
    have ndD : d ≠ D := ne_of_none upd_same hD
    have hfz : ∀ H2, Same (upd H d (.frz od (.dK (belowK R)))) H2 → H2 d = some (.frz od (.dK (belowK R))) := fun H2 s => s _ _ upd_same
    refine lc_it (walk_keys (kvs := belowK R)) (fun i H2 => Same (upd H d (.frz od (.dK (belowK R)))) H2 ∧ H2 D = some (.lst ((((nmsOf R).take i).filter fun x => decide (lowR R x = y)).map V.str))) ⟨s0, by rw [upd_same, List.take_zero]; rfl⟩ (fun i H2 hi h => hfz _ h.1) ?_ ?_
    · rintro i x H2 H3 hi ⟨s2, hl⟩ ⟨e, k0, v0, hkv, ev⟩
      subst e
      subst ev
      obtain ⟨x, hx, rfl, rfl⟩ := kmap_get hkv
      have hxm : x ∈ nmsOf R := List.mem_of_getElem? hx
      refine ⟨rfl, ?_⟩
      refine ⟨_, rfl, _, rfl, d, _, rfl, dget_rn (.inr ⟨od, hfz _ s2⟩) hxm, _, rfl, rfl, _, rfl, ?_⟩
      have hft := filter_take (p := fun x => decide (lowR R x = y)) hx
      refine ite2 (fun h => ?_) (fun h => ?_)
      · have h := V.str.inj (of_decide_eq_true h)
        rw [if_pos (decide_eq_true h)] at hft
        refine ⟨_, rfl, _, hl, ?_, fun b o hb => ?_, ?_⟩
        · rw [List.length_map]
          have := List.length_filter_le (fun x => decide (lowR R x = y)) ((nmsOf R).take i)
          rw [List.length_take] at this
          exact small1000 (by omega)
        · rw [upd_ne (ne_of_none hb hD)]
          exact s2 b o hb
        · rw [upd_same, hft, List.map_append]
          rfl
      · have h : ¬ lowR R x = y := fun z => h (decide_eq_true (congrArg V.str z))
        rw [if_neg (by rw [decide_eq_false h]; exact Bool.false_ne_true), List.append_nil] at hft
        refine ⟨s2, ?_⟩
        rw [hft]
        exact hl
    · rintro H2 ⟨s2, hl⟩
      rw [kmap_len, List.take_length] at hl
      refine ⟨hfz _ s2, ?_⟩
      have s3 : Same H (upd H2 d (.dK (belowK R))) := same_unlock hd s2
      have hl3 : (upd H2 d (.dK (belowK R))) D = some (.lst ((aboveR R y).map V.str)) := by
        rw [upd_ne ndD.symm]
        exact hl
      refine ⟨D, _, rfl, .inl (.inl hl3), fun t ot nt pt => ?_⟩
      exact k _ t (s3.trans (same_upd nt)) (s3.free nt) ⟨ot, pt, upd_same⟩
theorem ok_up {f : Addr} {fd : FuncData} (F : FnP K "_find_upstream" sUp f fd) (B : Bl mg) : FnOk P w K mg base CX0 1 f fd ["courses", "low"] spUp := by
  refine F.ok scUp (fun vs H Q E h => ?_) (fun cdv A outer s H vs Q E hr h => ?_)
  · obtain ⟨d, R, y, rfl, _⟩ := h
    rfl
  · obtain ⟨d, R, y, rfl, hT, hG, k⟩ := h
    have hu := hu_of hr
    obtain ⟨ta, hd, ht⟩ := hT.ex
    refine ⟨_, PSs.nox (pss_one
      (ps_ret (pe_callTy (tupleF (K := K)) (by rfl) B.tuple (by decide +kernel) (pa_cons (pe_lock (pe_lc (own := [("weir", 2)]) (g := gName 2) (by rfl) scUp.nd (pi_keys (pv 0)) (blkOk_by (own := [("weir", 2)]) (N := scUp_N) (sc := defScope scUp_S) (by decide +kernel)) (fun _ _ _ _ _ => (pg_name (i := 2) scUp.nd rfl (Or.inl rfl))) (fun _ _ _ _ _ => (pts_one (pt_cmpR (inK (K := K)) (pv 1) (pe_dget hu (pv 0) (pv 2) (fun _ _ => rfl)) (by rfl)))) (fun _ _ _ _ _ => (pv 2)))) pa_nil)))), ?_⟩
    have hnd := hG.nm.nd
    have hRm := hG.most
    have hnl : (nmsOf R).length = R.length := List.length_map _
    refine ⟨d, _, hd, trivial, fun od => ?_⟩
    refine ⟨_, rfl, d, od, rfl, .inl ⟨_, upd_same, fun D hD => ?_⟩⟩
    have s0 : Same (upd H d (.frz od (.dK (kmap (fun x => .ref (ta x)) (nmsOf R))))) (upd (upd H d (.frz od (.dK (kmap (fun x => .ref (ta x)) (nmsOf R))))) D (.lst [])) := same_upd hD
    have ndD : d ≠ D := ne_of_none upd_same hD
    have hfz : ∀ H2, Same (upd H d (.frz od (.dK (kmap (fun x => .ref (ta x)) (nmsOf R))))) H2 → H2 d = some (.frz od (.dK (kmap (fun x => .ref (ta x)) (nmsOf R)))) := fun H2 s => s _ _ upd_same
    have htf : ∀ x ∈ nmsOf R, FT (upd H d (.frz od (.dK (kmap (fun x => .ref (ta x)) (nmsOf R))))) (ta x) (course R x) := fun x hx => (ht x hx).upd ((ht x hx).ne hd (fun _ _ z => by cases z))
    refine lc_it walk_keys (fun i H2 => Same (upd H d (.frz od (.dK (kmap (fun x => .ref (ta x)) (nmsOf R))))) H2 ∧ H2 D = some (.lst ((((nmsOf R).take i).filter fun x => decide (y ∈ course R x)).map V.str))) ⟨s0, by rw [upd_same, List.take_zero]; rfl⟩ (fun i H2 hi h => hfz _ h.1) ?_ ?_
    · rintro i x H2 H3 hi ⟨s2, hl⟩ ⟨e, k0, v0, hkv, ev⟩
      subst e
      subst ev
      obtain ⟨x, hx, rfl, rfl⟩ := kmap_get hkv
      have hxm : x ∈ nmsOf R := List.mem_of_getElem? hx
      refine ⟨rfl, ?_⟩
      refine ⟨_, rfl, _, rfl, _, rfl, d, _, rfl, dget_rn (.inr ⟨od, hfz _ s2⟩) hxm, ta x, _, rfl, .inr (.inl ((htf x hxm).same s2).rd), rfl, flat_strs _, _, rfl, ?_⟩
      have hft := filter_take (p := fun x => decide (y ∈ course R x)) hx
      rw [inV_str]
      refine ite2 (fun h => ?_) (fun h => ?_)
      · have h : decide (y ∈ course R x) = true := h
        rw [if_pos h] at hft
        refine ⟨_, rfl, _, hl, ?_, fun b o hb => ?_, ?_⟩
        · rw [List.length_map]
          have := List.length_filter_le (fun x => decide (y ∈ course R x)) ((nmsOf R).take i)
          rw [List.length_take] at this
          exact small1000 (by omega)
        · rw [upd_ne (ne_of_none hb hD)]
          exact s2 b o hb
        · rw [upd_same, hft, List.map_append]
          rfl
      · have h : ¬ decide (y ∈ course R x) = true := h
        rw [if_neg h, List.append_nil] at hft
        refine ⟨s2, ?_⟩
        rw [hft]
        exact hl
    · rintro H2 ⟨s2, hl⟩
      rw [kmap_len, List.take_length] at hl
      refine ⟨hfz _ s2, ?_⟩
      have s3 : Same H (upd H2 d (.dK (kmap (fun x => .ref (ta x)) (nmsOf R)))) := same_unlock hd s2
      have hl3 : (upd H2 d (.dK (kmap (fun x => .ref (ta x)) (nmsOf R)))) D = some (.lst ((upR R y).map V.str)) := by
        rw [upd_ne ndD.symm]
        exact hl
      refine ⟨D, _, rfl, .inl (.inl hl3), fun t ot nt pt => ?_⟩
      exact k _ t (s3.trans (same_upd nt)) (s3.free nt) ⟨ot, pt, upd_same⟩
theorem ok_order {f : Addr} {fd : FuncData} (F : FnP K "_order_by_depth" sOrder f fd) (B : Bl mg) : FnOk P w K mg base CX0 1 f fd ["courses"] spOrder := by
  refine F.ok scOrder (fun vs H Q E h => ?_) (fun cdv A outer s H vs Q E hr h => ?_)
  · obtain ⟨d, R, rfl, _⟩ := h
    rfl
  · obtain ⟨d, R, rfl, hT, hG, k⟩ := h
    have hu := hu_of hr
    obtain ⟨ta, hd, ht⟩ := hT.ex
    refine ⟨_, PSs.nox (pss_cons
      (ps_set (i := 1) scOrder.nd rfl (Or.inl rfl) (pe_callB k0_sorted3 (by rfl) B.sorted (by decide +kernel) (pa_cons (pe_lock (pe_lc (own := [("place", 2), ("weir", 3)]) (tt := tYes) (by rfl) scOrder.nd (pi_enumD (by rfl) B.enumerate (pa_cons (pv 0) pa_nil)) (blkOk_by (own := [("place", 2), ("weir", 3)]) (N := scOrder_N) (sc := defScope scOrder_S) (by decide +kernel)) (fun _ _ _ _ _ => (tgK (K := K) (n := 2) (by rfl) (pgs_cons (pg_name (i := 2) scOrder.nd rfl (Or.inl rfl)) (pgs_cons (pg_name (i := 3) scOrder.nd rfl (Or.inl rfl)) pgs_nil)))) (fun _ _ _ _ _ => pts_nil) (fun _ _ _ _ _ => (pe_tup (pa_cons (pe_un un_neg (pe_callB (lenK (K := K)) (by rfl) B.len PySem.boot_len (pa_cons (pe_dget hu (pv 0) (pv 3) (fun _ _ => rfl)) pa_nil))) (pa_cons (pv 2) (pa_cons (pv 3) pa_nil))))))) pa_nil)))
      (pss_one
      (ps_ret (pe_callTy (tupleK (K := K)) (by rfl) B.tuple (by decide +kernel) (pa_cons (pe_lc (own := [("row", 4)]) (g := gName 4) (tt := tYes) (by rfl) scOrder.nd (pi_list (pv 1)) (blkOk_by (own := [("row", 4)]) (N := scOrder_N) (sc := defScope scOrder_S) (by decide +kernel)) (fun _ _ _ _ _ => (pg_name (i := 4) scOrder.nd rfl (Or.inl rfl))) (fun _ _ _ _ _ => pts_nil) (fun _ _ _ _ _ => (pe_ix (ixTK (K := K)) (pv 4) pe_int (fun _ _ => rfl)))) pa_nil))))), ?_⟩
    have hnd := hG.nm.nd
    have hRm := hG.most
    have hnl : (nmsOf R).length = R.length := List.length_map _
    refine ⟨d, _, hd, trivial, fun od => ?_⟩
    refine ⟨_, rfl, d, od, _, rfl, upd_same, fun D hD => ?_⟩
    have s0 : Same (upd H d (.frz od (.dK (kmap (fun x => .ref (ta x)) (nmsOf R))))) (upd (upd H d (.frz od (.dK (kmap (fun x => .ref (ta x)) (nmsOf R))))) D (.lst [])) := same_upd hD
    have ndD : d ≠ D := ne_of_none upd_same hD
    have hfz : ∀ H2, Same (upd H d (.frz od (.dK (kmap (fun x => .ref (ta x)) (nmsOf R))))) H2 → H2 d = some (.frz od (.dK (kmap (fun x => .ref (ta x)) (nmsOf R)))) := fun H2 s => s _ _ upd_same
    have htf : ∀ x ∈ nmsOf R, FT (upd H d (.frz od (.dK (kmap (fun x => .ref (ta x)) (nmsOf R))))) (ta x) (course R x) := fun x hx => (ht x hx).upd ((ht x hx).ne hd (fun _ _ z => by cases z))
    refine lc_it walk_enumD (fun i H2 => Same (upd H d (.frz od (.dK (kmap (fun x => .ref (ta x)) (nmsOf R))))) H2 ∧ ∃ ts : List Addr, H2 D = some (.lst (ts.map V.ref)) ∧ ts.length = i ∧ ∀ k t, ts[k]? = some t → H2 t = some (.tup [.int (-((course R ((nmsOf R).getD k "")).length : Int)), .int (k : Int), .str ((nmsOf R).getD k "")])) ⟨s0, [], upd_same, rfl, fun k t hk => by cases hk⟩ (fun i H2 hi h => hfz _ h.1) ?_ ?_
    · rintro i x H2 H3 hi ⟨s2, ts, hl, hxl, hxs⟩ ⟨T, x1, x2, rfl, hT, rfl, e1, e2⟩
      rw [kmap_len] at hi
      have e1 : x1 = .int (i : Int) := (Option.some.inj e1).symm
      subst e1
      obtain ⟨x, hx, rfl⟩ : ∃ x, (nmsOf R)[i]? = some x ∧ x2 = .str x := by
        refine ⟨(nmsOf R)[i], List.getElem?_eq_getElem hi, ?_⟩
        have e2 : ((kmap (fun x => V.ref (ta x)) (nmsOf R))[i]?.map fun kv => kV kv.1) = some x2 := e2
        unfold kmap at e2
        rw [List.getElem?_map, List.getElem?_eq_getElem hi] at e2
        exact (Option.some.inj e2).symm
      have hxm : x ∈ nmsOf R := List.mem_of_getElem? hx
      have s3 : Same (upd H d (.frz od (.dK (kmap (fun x => .ref (ta x)) (nmsOf R))))) (upd H2 T (.tup [.int (i : Int), .str x])) := s2.trans (same_upd hT)
      refine ⟨T, _, rfl, .inl (.inl upd_same), rfl, _, _, rfl, _, _, rfl, rfl, rfl, ?_⟩
      unfold tYes
      refine iteT ?_
      refine ⟨_, rfl, _, rfl, d, _, rfl, dget_rn (.inr ⟨od, hfz _ s3⟩) hxm, ta x, _, rfl, .inr (.inl ((htf x hxm).same s3).rd), _, rfl, _, rfl, _, rfl, by show 3 ≤ sizeLine; decide, fun p np => ?_⟩
      have hlD : (upd H2 T (.tup [.int (i : Int), .str x])) D = some (.lst (ts.map V.ref)) := by
        rw [upd_ne (ne_of_none hl hT)]
        exact hl
      have npD : D ≠ p := ne_of_none hlD np
      have eg : (nmsOf R).getD i "" = x := by
        rw [List.getD_eq_getElem?_getD, hx]
        rfl
      refine ⟨ts.map V.ref, by rw [upd_ne npD]; exact hlD, small1000 (by rw [List.length_map]; omega), fun b o hb => ?_, ts ++ [p], by rw [upd_same, List.map_append]; rfl, by rw [List.length_append, hxl]; rfl, fun k t hk => ?_⟩
      · have h3 := s3 b o hb
        rw [upd_ne (ne_of_none hb hD), upd_ne (ne_of_none h3 np)]
        exact h3
      · rcases Nat.lt_or_ge k ts.length with hkl | hkl
        · rw [List.getElem?_append_left hkl] at hk
          have h1 := hxs k t hk
          have h1' : (upd H2 T (.tup [.int (i : Int), .str x])) t = some (.tup [.int (-((course R ((nmsOf R).getD k "")).length : Int)), .int (k : Int), .str ((nmsOf R).getD k "")]) := by
            rw [upd_ne (ne_of_none h1 hT)]
            exact h1
          rw [upd_ne (ne_of h1 hl (fun z => by cases z)), upd_ne (ne_of_none h1' np)]
          exact h1'
        · rw [List.getElem?_append_right hkl] at hk
          have hk0 : k - ts.length = 0 := by
            have := (List.getElem?_eq_some_iff.mp hk).1
            rw [List.length_singleton] at this
            omega
          rw [hk0] at hk
          have e : p = t := Option.some.inj hk
          have ek : k = i := by omega
          rw [← e, ek, upd_ne npD.symm, upd_same, eg, List.length_map]
    · rintro H2 ⟨s2, ts, hl, hxl, hxs⟩
      rw [kmap_len] at hxl
      refine ⟨hfz _ s2, ?_⟩
      have s3 : Same H (upd H2 d (.dK (kmap (fun x => .ref (ta x)) (nmsOf R)))) := same_unlock hd s2
      have hl3 : (upd H2 d (.dK (kmap (fun x => .ref (ta x)) (nmsOf R)))) D = some (.lst (ts.map V.ref)) := by
        rw [upd_ne ndD.symm]
        exact hl
      have hxs3 : ∀ k t, ts[k]? = some t → (upd H2 d (.dK (kmap (fun x => .ref (ta x)) (nmsOf R)))) t = some (.tup [.int (-((course R ((nmsOf R).getD k "")).length : Int)), .int (k : Int), .str ((nmsOf R).getD k "")]) := fun k t hk => by
        have h1 := hxs k t hk
        rw [upd_ne (ne_of h1 (hfz _ s2) (fun z => by cases z))]
        exact h1
      generalize upd H2 d (.dK (kmap (fun x => .ref (ta x)) (nmsOf R))) = H3 at s3 hl3 hxs3
      have hn : ts.length = R.length := by rw [hxl, hnl]
      refine ⟨D, ts.map V.ref, fun j => -((course R ((nmsOf R).getD j.toNat "")).length : Int), fun j => (nmsOf R).getD j.toNat "", rfl, .inl (.inl hl3), by rw [List.length_map]; omega, fun x hx => ?_, fun ys p hp hord np => ?_⟩
      · obtain ⟨t, ht, rfl⟩ := List.mem_map.mp hx
        obtain ⟨k, hk⟩ := List.getElem?_of_mem ht
        have hkl := (List.getElem?_eq_some_iff.mp hk).1
        exact ⟨t, (k : Int), rfl, hxs3 k t hk, by omega, by omega⟩
      obtain ⟨ts', eys, hp'⟩ := perm_lift hp ts rfl
      subst eys
      have hpl : ∀ k t, ts[k]? = some t → plAt H3 t = k := fun k t hk => by
        unfold plAt
        rw [hxs3 k t hk]
        rfl
      have hmap : ts.map (plAt H3) = List.range R.length := List.ext_getElem (by rw [List.length_map, List.length_range, hn]) fun k h1 h2 => by
        rw [List.getElem_map, List.getElem_range]
        rw [List.length_map] at h1
        exact hpl k _ (List.getElem?_eq_getElem h1)
      have hjp : (ts'.map (plAt H3)).Perm (List.range R.length) := by
        rw [← hmap]
        exact hp'.map _
      have hH : ∀ t ∈ ts', H3 t = some (.tup [.int (-((course R ((nmsOf R).getD (plAt H3 t) "")).length : Int)), .int (plAt H3 t : Int), .str ((nmsOf R).getD (plAt H3 t) "")]) := fun t ht => by
        obtain ⟨k, hk⟩ := List.getElem?_of_mem (hp'.mem_iff.mp ht)
        rw [hpl k t hk]
        exact hxs3 k t hk
      have hjs : (ts'.map (plAt H3)).Pairwise fun a b => -((course R ((nmsOf R).getD a "")).length : Int) * 100 + (a : Int) ≤ -((course R ((nmsOf R).getD b "")).length : Int) * 100 + (b : Int) := by
        rw [List.pairwise_map] at hord ⊢
        refine List.Pairwise.imp_of_mem (fun {t t'} ht ht' h => ?_) hord
        exact h t t' (plAt H3 t : Int) (plAt H3 t' : Int) rfl rfl (hH t ht) (hH t' ht')
      have hnm : nmsOf R = (List.range R.length).map fun k => (nmsOf R).getD k "" := by
        have := list_getD (nmsOf R)
        rw [hnl] at this
        exact this
      have hd : ∀ j, j < R.length → 1 ≤ (course R ((nmsOf R).getD j "")).length ∧ (course R ((nmsOf R).getD j "")).length ≤ R.length := fun j hj => by
        have hm : (nmsOf R).getD j "" ∈ nmsOf R := by
          rw [List.getD_eq_getElem?_getD, List.getElem?_eq_getElem (by rw [hnl]; exact hj)]
          exact List.getElem_mem _
        obtain ⟨m, c⟩ := course_is hG hm
        rw [c.eq, List.length_map, List.length_range]
        exact ⟨c.one, c.most⟩
      have hjeq := deep_eq (n := R.length) (d := fun j => (course R ((nmsOf R).getD j "")).length) (by omega) hd hjp hjs
      have hz : ts'.map (fun t => V.str ((nmsOf R).getD (plAt H3 t) "")) = (deepR R).map V.str := by
        rw [← deep_names (nm := fun k => (nmsOf R).getD k "") hnm, ← hjeq, List.map_map, List.map_map]
        rfl
      have s4 : Same H3 (upd H3 p (.lst (ts'.map V.ref))) := same_upd np
      refine ⟨_, rfl, p, rfl, ⟨ts'.map V.ref, .inl (.inl upd_same)⟩, fun L hL => ?_⟩
      have s5 : Same (upd H3 p (.lst (ts'.map V.ref))) (upd (upd H3 p (.lst (ts'.map V.ref))) L (.lst [])) := same_upd hL
      have hlen' : ts'.length = R.length := by rw [hp'.length_eq, hn]
      refine lc_list (K := K) (a := p) (xs := ts'.map V.ref) (fun i H4 => Same (upd H3 p (.lst (ts'.map V.ref))) H4 ∧ H4 L = some (.lst ((ts'.take i).map fun t => V.str ((nmsOf R).getD (plAt H3 t) "")))) ⟨s5, by rw [upd_same, List.take_zero]; rfl⟩ (fun i H4 hi h => .inl (.inl (h.1 _ _ upd_same))) ?_ ?_
      · rintro i x H4 hx ⟨s6, hz4⟩
        rw [List.getElem?_map] at hx
        obtain ⟨t, ht, rfl⟩ := Option.map_eq_some_iff.mp hx
        have h1 := hH t (List.mem_of_getElem? ht)
        have hi : i < ts'.length := (List.getElem?_eq_some_iff.mp ht).1
        refine ⟨rfl, ?_⟩
        unfold tYes
        refine iteT ?_
        refine ⟨_, rfl, t, _, _, _, rfl, rfl, .inl (.inl (s6 _ _ (s4 _ _ h1))), atI_nat (j := 2) rfl, _, hz4, small1000 (by rw [List.length_map, List.length_take]; omega), fun b o hb => ?_, ?_⟩
        · rw [upd_ne (ne_of_none hb hL)]
          exact s6 b o hb
        · rw [upd_same, List.take_add_one, ht, List.map_append]
          rfl
      · rintro H4 ⟨s6, hz4⟩
        rw [List.length_map, List.take_length, hz] at hz4
        refine ⟨L, _, rfl, .inl ⟨.inl (.inl hz4), fun t nt => ?_⟩⟩
        have s7 : Same H (upd H4 t (.tup ((deepR R).map V.str))) := ((s3.trans s4).trans s6).trans (same_upd nt)
        exact k _ t s7 (((s3.trans s4).trans s6).free nt) upd_same
end
end K0
end

/-! ## K0I -/
section
set_option Elab.async false
set_option linter.all false
set_option maxRecDepth 100000
namespace K0
open PySem PySem.Spec PyProof.Rows L2
abbrev sInit : Stmt := inClass sRiver 0
abbrev sEq : Stmt := inClass sRiver 1
abbrev sLen : Stmt := inClass sRiver 2
abbrev sIter : Stmt := inClass sRiver 3
abbrev sContains : Stmt := inClass sRiver 4
abbrev sRows : Stmt := inClass sRiver 5
abbrev sBelow : Stmt := inClass sRiver 6
abbrev sAboveM : Stmt := inClass sRiver 7
abbrev sCourseM : Stmt := inClass sRiver 8
abbrev sDepth : Stmt := inClass sRiver 9
abbrev sUpM : Stmt := inClass sRiver 10
/-- the class, as the top has made it -/
structure Rv (K : PySem.W.Frag) (mg : Str → Option Value) (C : Addr) : Prop where
  cl : Cls K C
  weirs : NoAttr K C "weirs"
  _rows : NoAttr K C "_rows"
  _below : NoAttr K C "_below"
  _courses : NoAttr K C "_courses"
  _above : NoAttr K C "_above"
  _upstream : NoAttr K C "_upstream"
  _deepest_first : NoAttr K C "_deepest_first"
  mgC : mg "River" = some (.ref C)
/-- the fields, in the order in which they are stored -/
def f1 (a : V) : List (Str × V) := putF "weirs" a []
def f2 (a b : V) : List (Str × V) := putF "_rows" b (f1 a)
def f3 (a b c : V) : List (Str × V) := putF "_below" c (f2 a b)
def f4 (a b c d : V) : List (Str × V) := putF "_courses" d (f3 a b c)
def f5 (a b c d e : V) : List (Str × V) := putF "_above" e (f4 a b c d)
def f6 (a b c d e g : V) : List (Str × V) := putF "_upstream" g (f5 a b c d e)
def f7 (a b c d e g h : V) : List (Str × V) := putF "_deepest_first" h (f6 a b c d e g)
theorem putF_len (n : Str) (v : V) : ∀ fs : List (Str × V), (putF n v fs).length ≤ fs.length + 1
  | [] => Nat.le_refl _
  | q :: r => by
    have ih := putF_len n v r
    show (if q.1 = n then (q.1, v) :: r else q :: putF n v r).length ≤ _
    split
    · simp
    · simp only [List.length_cons]; omega
section
variable (a b c d e g h : V)
theorem l1 : (f1 a).length ≤ 1 := putF_len _ _ _
theorem l2 : (f2 a b).length ≤ 2 := Nat.le_trans (putF_len _ _ _) (Nat.succ_le_succ (l1 a))
theorem l3 : (f3 a b c).length ≤ 3 := Nat.le_trans (putF_len _ _ _) (Nat.succ_le_succ (l2 a b))
theorem l4 : (f4 a b c d).length ≤ 4 := Nat.le_trans (putF_len _ _ _) (Nat.succ_le_succ (l3 a b c))
theorem l5 : (f5 a b c d e).length ≤ 5 := Nat.le_trans (putF_len _ _ _) (Nat.succ_le_succ (l4 a b c d))
theorem l6 : (f6 a b c d e g).length ≤ 6 := Nat.le_trans (putF_len _ _ _) (Nat.succ_le_succ (l5 a b c d e))
theorem g3b : (f3 a b c).lookup ("_below" : Str) = some c := by rw [f3, lookup_putF, if_pos rfl]
theorem g4b : (f4 a b c d).lookup ("_below" : Str) = some c := by rw [f4, lookup_putF, if_neg (by decide +kernel), g3b]
theorem g4w : (f4 a b c d).lookup ("weirs" : Str) = some a := by
  rw [f4, lookup_putF, if_neg (by decide +kernel), f3, lookup_putF, if_neg (by decide +kernel), f2, lookup_putF, if_neg (by decide +kernel), f1, lookup_putF, if_pos rfl]
theorem g4c : (f4 a b c d).lookup ("_courses" : Str) = some d := by rw [f4, lookup_putF, if_pos rfl]
theorem g5w : (f5 a b c d e).lookup ("weirs" : Str) = some a := by rw [f5, lookup_putF, if_neg (by decide +kernel), g4w]
theorem g5c : (f5 a b c d e).lookup ("_courses" : Str) = some d := by rw [f5, lookup_putF, if_neg (by decide +kernel), g4c]
theorem g6c : (f6 a b c d e g).lookup ("_courses" : Str) = some d := by rw [f6, lookup_putF, if_neg (by decide +kernel), g5c]
theorem g7w : (f7 a b c d e g h).lookup ("weirs" : Str) = some a := by rw [f7, lookup_putF, if_neg (by decide +kernel), f6, lookup_putF, if_neg (by decide +kernel), g5w]
theorem g7r : (f7 a b c d e g h).lookup ("_rows" : Str) = some b := by
  rw [f7, lookup_putF, if_neg (by decide +kernel), f6, lookup_putF, if_neg (by decide +kernel), f5, lookup_putF, if_neg (by decide +kernel), f4, lookup_putF, if_neg (by decide +kernel), f3, lookup_putF, if_neg (by decide +kernel), f2, lookup_putF, if_pos rfl]
theorem g7b : (f7 a b c d e g h).lookup ("_below" : Str) = some c := by
  rw [f7, lookup_putF, if_neg (by decide +kernel), f6, lookup_putF, if_neg (by decide +kernel), f5, lookup_putF, if_neg (by decide +kernel), g4b]
theorem g7c : (f7 a b c d e g h).lookup ("_courses" : Str) = some d := by rw [f7, lookup_putF, if_neg (by decide +kernel), g6c]
theorem g7a : (f7 a b c d e g h).lookup ("_above" : Str) = some e := by
  rw [f7, lookup_putF, if_neg (by decide +kernel), f6, lookup_putF, if_neg (by decide +kernel), f5, lookup_putF, if_pos rfl]
theorem g7u : (f7 a b c d e g h).lookup ("_upstream" : Str) = some g := by
  rw [f7, lookup_putF, if_neg (by decide +kernel), f6, lookup_putF, if_pos rfl]
theorem g7no {m : Str} (h1 : ¬ m = "weirs") (h2 : ¬ m = "_rows") (h3 : ¬ m = "_below") (h4 : ¬ m = "_courses") (h5 : ¬ m = "_above") (h6 : ¬ m = "_upstream") (h7 : ¬ m = "_deepest_first") : (f7 a b c d e g h).lookup m = none := by
  rw [f7, lookup_putF, if_neg h7, f6, lookup_putF, if_neg h6, f5, lookup_putF, if_neg h5, f4, lookup_putF, if_neg h4, f3, lookup_putF, if_neg h3, f2, lookup_putF, if_neg h2, f1, lookup_putF, if_neg h1]
  rfl
end
abbrev namesOf (AR : List (Addr × Row)) : List Str := nmsOf (rowsOf AR)
/-- a tuple of the weirs, the deepest first -/
def DeepAt (H : Hp) (o : V) (R : List Row) : Prop := ∃ t, o = .ref t ∧ H t = some (.tup ((deepR R).map V.str))
theorem DeepAt.to {H H' : Hp} {o : V} {R : List Row} (d : DeepAt H o R) (h : ∀ t, H t = some (.tup ((deepR R).map V.str)) → H' t = some (.tup ((deepR R).map V.str))) : DeepAt H' o R := by
  obtain ⟨t, e, q⟩ := d
  exact ⟨t, e, h t q⟩
/-- a river of these rows stands at p -/
structure RivAt (C : Addr) (H : Hp) (p : Addr) (AR : List (Addr × Row)) : Prop where
  ex : ∃ (dx tw tr db dc da du : Addr) (o : V), H p = some (.ins C dx (f7 (.ref tw) (.ref tr) (.ref db) (.ref dc) (.ref da) (.ref du) o)) ∧
    H tw = some (.tup ((namesOf AR).map V.str)) ∧ H tr = some (.tup (AR.map fun q => V.ref q.1)) ∧ (∀ q ∈ AR, H q.1 = some (.tup [.str q.2.1, .str q.2.2])) ∧ H db = some (.dK (belowK (rowsOf AR))) ∧
    TupsAt H dc (namesOf AR) (course (rowsOf AR)) ∧ TupsAt H da (namesOf AR ++ [("sea" : Str)]) (aboveR (rowsOf AR)) ∧ TupsAt H du (namesOf AR) (upR (rowsOf AR)) ∧ DeepAt H o (rowsOf AR)
theorem Same.riv {C : Addr} {H H' : Hp} {p : Addr} {AR : List (Addr × Row)} (s : Same H H') (r : RivAt C H p AR) : RivAt C H' p AR := by
  obtain ⟨dx, tw, tr, db, dc, da, du, o, h1, h2, h3, h4, h5, h6, h7, h8, h9⟩ := r.ex
  exact ⟨dx, tw, tr, db, dc, da, du, o, s _ _ h1, s _ _ h2, s _ _ h3, fun q hq => s _ _ (h4 q hq), s _ _ h5, h6.same s, h7.same s, h8.same s, h9.to fun _ e => s _ _ e⟩
abbrev scInit_N : List Str := ["self", "rows", "row", "weir", "low"]
abbrev scInit_S : Stmt := sInit
theorem scInit : FnScope scInit_N ["self", "rows"] (defScope sInit) := ⟨rfl, rfl, rfl, by decide +kernel, rfl, by decide +kernel, by decide +kernel⟩
def spInit (C : Addr) : Sp := fun vs H Q _ => ∃ (p l dx : Addr) (AR : List (Addr × Row)), vs = [.ref p, .ref l] ∧ H p = some (.ins C dx []) ∧ RowsAt H l AR ∧ GoodRows (rowsOf AR) ∧
  ∀ H', Upto p H H' → RivAt C H' p AR → Q .non H'
section
variable {P : Program} {w : World} {K : PySem.W.Frag} {mg : Str → Option Value} {base : Heap} {tS tM tL : Tok}
/-- the functions that a river's making calls -/
structure Mf (K : PySem.W.Frag) (mg : Str → Option Value) : Prop where
  isName : ∃ f fd, FnP K "is_name" sIsName f fd ∧ mg "is_name" = some (.ref f)
  isRow : ∃ f fd, FnP K "_is_row" sIsRow f fd ∧ mg "_is_row" = some (.ref f)
  needRows : ∃ f fd, FnP K "_need_rows" sNeedRows f fd ∧ mg "_need_rows" = some (.ref f)
  course : ∃ f fd, FnP K "_course" sCourse f fd ∧ mg "_course" = some (.ref f)
  find : ∃ f fd, FnP K "_find_courses" sFind f fd ∧ mg "_find_courses" = some (.ref f)
  above : ∃ f fd, FnP K "_directly_above" sAbove f fd ∧ mg "_directly_above" = some (.ref f)
  up : ∃ f fd, FnP K "_find_upstream" sUp f fd ∧ mg "_find_upstream" = some (.ref f)
  order : ∃ f fd, FnP K "_order_by_depth" sOrder f fd ∧ mg "_order_by_depth" = some (.ref f)
theorem ok_init {f Cr : Addr} {fd : FuncData} (F : FnM K "__init__" "River.__init__" sInit f fd) (M : Mf K mg) (T : Rv K mg Cr) (B : Bl mg) (C : Gc mg tS tM tL) : FnOk P w K mg base CX0 4 f fd ["self", "rows"] (spInit Cr) := by
  obtain ⟨a1, d1, F1, m1⟩ := M.isName
  obtain ⟨a2, d2, F2, m2⟩ := M.isRow
  obtain ⟨a3, d3, F_need_rows, g_need_rows⟩ := M.needRows
  obtain ⟨a4, d4, F4, m4⟩ := M.course
  obtain ⟨a5, d5, F_find_courses, g_find_courses⟩ := M.find
  obtain ⟨a6, d6, F_directly_above, g_directly_above⟩ := M.above
  obtain ⟨a7, d7, F_find_upstream, g_find_upstream⟩ := M.up
  obtain ⟨a8, d8, F_order_by_depth, g_order_by_depth⟩ := M.order
  have G_need_rows : FnOk P w K mg base CX0 3 a3 d3 ["rows"] (spNeedRows K) := ok_needrows F_need_rows F1 m1 F2 m2 B C
  have b_need_rows : Binds K d3 ["rows"] [] := F_need_rows.bindsN fun _ _ _ _ _ _ us hl => match us, hl with | [_], _ => rfl
  have G_find_courses : FnOk P w K mg base CX0 2 a5 d5 ["below"] (spFind K) := ok_find F_find_courses F4 m4 B C
  have b_find_courses : Binds K d5 ["below"] [] := F_find_courses.bindsN fun _ _ _ _ _ _ us hl => match us, hl with | [_], _ => rfl
  have G_directly_above : FnOk P w K mg base CX0 1 a6 d6 ["below", "low"] spAbove := ok_above F_directly_above B
  have b_directly_above : Binds K d6 ["below", "low"] [] := F_directly_above.bindsN fun _ _ _ _ _ _ us hl => match us, hl with | [_, _], _ => rfl
  have G_find_upstream : FnOk P w K mg base CX0 1 a7 d7 ["courses", "low"] spUp := ok_up F_find_upstream B
  have b_find_upstream : Binds K d7 ["courses", "low"] [] := F_find_upstream.bindsN fun _ _ _ _ _ _ us hl => match us, hl with | [_, _], _ => rfl
  have G_order_by_depth : FnOk P w K mg base CX0 1 a8 d8 ["courses"] spOrder := ok_order F_order_by_depth B
  have b_order_by_depth : Binds K d8 ["courses"] [] := F_order_by_depth.bindsN fun _ _ _ _ _ _ us hl => match us, hl with | [_], _ => rfl
  refine F.ok scInit (fun vs H Q E h => ?_) (fun cdv A outer s H vs Q E hr h => ?_)
  · obtain ⟨p, l, dx, AR, rfl, _⟩ := h
    rfl
  · obtain ⟨p, l, dx, AR, rfl, hp, hR, hG, k⟩ := h
    have hu := hu_of hr
    have hr_need_rows : Room 3 _ := hr.mono (by decide)
    have hr_find_courses : Room 2 _ := hr.mono (by decide)
    have hr_directly_above : Room 1 _ := hr.mono (by decide)
    have hr_find_upstream : Room 1 _ := hr.mono (by decide)
    have hr_order_by_depth : Room 1 _ := hr.mono (by decide)
    refine ⟨_, PSs.nox (pss_cons
      (ps_expr (pe_call G_need_rows hr_need_rows (by rfl) g_need_rows F_need_rows.kp b_need_rows .nil pass0 (pa_cons (pv 1) pa_nil)))
      (pss_cons
      (ps_fld (pv 0) (pe_callTy (tupleK (K := K)) (by rfl) B.tuple (by decide +kernel) (pa_cons (pe_lc (own := [("row", 2)]) (g := gName 2) (tt := tYes) (by rfl) scInit.nd (pi_list (pv 1)) (blkOk_by (own := [("row", 2)]) (N := scInit_N) (sc := defScope scInit_S) (by decide +kernel)) (fun _ _ _ _ _ => (pg_name (i := 2) scInit.nd rfl (Or.inl rfl))) (fun _ _ _ _ _ => pts_nil) (fun _ _ _ _ _ => (pe_ix (ixTK (K := K)) (pv 2) pe_int (fun _ _ => rfl)))) pa_nil)) rfl)
      (pss_cons
      (ps_fld (pv 0) (pe_callTy (tupleK (K := K)) (by rfl) B.tuple (by decide +kernel) (pa_cons (pv 1) pa_nil)) rfl)
      (pss_cons
      (ps_fld (pv 0) (pe_dc (own := [("weir", 3), ("low", 4)]) (tt := tYes) (by rfl) scInit.nd (pi_list (pv 1)) (blkOk_by (own := [("weir", 3), ("low", 4)]) (N := scInit_N) (sc := defScope scInit_S) (by decide +kernel)) (fun _ _ _ _ _ => (tgK (K := K) (n := 2) (by rfl) (pgs_cons (pg_name (i := 3) scInit.nd rfl (Or.inl rfl)) (pgs_cons (pg_name (i := 4) scInit.nd rfl (Or.inl rfl)) pgs_nil)))) (fun _ _ _ _ _ => pts_nil) (fun _ _ _ _ _ => (pv 3)) (fun _ _ _ _ _ => (pv 4))) rfl)
      (pss_cons
      (ps_fld (pv 0) (pe_call G_find_courses hr_find_courses (by rfl) g_find_courses F_find_courses.kp b_find_courses .nil pass0 (pa_cons (fldK (K := K) (pv 0) rfl) pa_nil)) rfl)
      (pss_cons
      (ps_fld (pv 0) (pe_dc (own := [("low", 4)]) (g := gName 4) (tt := tYes) (by rfl) scInit.nd (pi_tup (pe_op op_catT (fldK (K := K) (pv 0) rfl) (pe_tup (pa_cons (pe_glob (v := .str "sea") (by rfl) C.SEA ⟨_, rfl⟩) pa_nil)))) (blkOk_by (own := [("low", 4)]) (N := scInit_N) (sc := defScope scInit_S) (by decide +kernel)) (fun _ _ _ _ _ => (pg_name (i := 4) scInit.nd rfl (Or.inl rfl))) (fun _ _ _ _ _ => pts_nil) (fun _ _ _ _ _ => (pv 4)) (fun _ _ _ _ _ => (pe_call G_directly_above hr_directly_above (by rfl) g_directly_above F_directly_above.kp b_directly_above .nil pass0 (pa_cons (fldK (K := K) (pv 0) rfl) (pa_cons (pv 4) pa_nil))))) rfl)
      (pss_cons
      (ps_fld (pv 0) (pe_dc (own := [("weir", 3)]) (g := gName 3) (tt := tYes) (by rfl) scInit.nd (pi_tup (fldK (K := K) (pv 0) rfl)) (blkOk_by (own := [("weir", 3)]) (N := scInit_N) (sc := defScope scInit_S) (by decide +kernel)) (fun _ _ _ _ _ => (pg_name (i := 3) scInit.nd rfl (Or.inl rfl))) (fun _ _ _ _ _ => pts_nil) (fun _ _ _ _ _ => (pv 3)) (fun _ _ _ _ _ => (pe_call G_find_upstream hr_find_upstream (by rfl) g_find_upstream F_find_upstream.kp b_find_upstream .nil pass0 (pa_cons (fldK (K := K) (pv 0) rfl) (pa_cons (pv 3) pa_nil))))) rfl)
      (pss_one
      (ps_fld (pv 0) (pe_call G_order_by_depth hr_order_by_depth (by rfl) g_order_by_depth F_order_by_depth.kp b_order_by_depth .nil pass0 (pa_cons (fldK (K := K) (pv 0) rfl) pa_nil)) rfl))))))))), ?_⟩
    have hins : ∀ {o : HO} {a : Addr} {H' : Hp} {fs : List (Str × V)}, H' p = some (.ins Cr dx fs) → H' a = some o → (∀ z1 z2 z3, o ≠ .ins z1 z2 z3) → a ≠ p := fun h1 h2 n => ne_of h2 h1 (n _ _ _)
    have tupsU : ∀ {H1 H2 : Hp} {fs : List (Str × V)} {c : Addr} {ns : List Str} {g : Str → List Str}, H1 p = some (.ins Cr dx fs) → Upto p H1 H2 → TupsAt H1 c ns g → TupsAt H2 c ns g := fun h1 u t => by
      obtain ⟨ta, q1, q2⟩ := t.ex
      exact ⟨ta, u _ _ q1 (hins h1 q1 (fun _ _ _ z => by cases z)), fun x hx => (q2 x hx).to fun v e _ _ _ n4 _ => u _ _ e (ne_of e h1 (n4 _ _ _))⟩
    have hRm := hG.most
    have hAl : (rowsOf AR).length = AR.length := List.length_map _
    have hnl : (namesOf AR).length = AR.length := nmlen AR
    have hnd := hG.nm.nd
    have rowat : ∀ {i : Nat} (hi : i < AR.length), (namesOf AR)[i]? = some AR[i].2.1 ∧ lowR (rowsOf AR) AR[i].2.1 = AR[i].2.2 := fun {i} hi => by
      refine ⟨?_, low_at hnd (List.mem_map.mpr ⟨_, List.getElem_mem hi, rfl⟩)⟩
      show (((AR.map (·.2)).map (·.1)))[i]? = _
      rw [List.getElem?_map, List.getElem?_map, List.getElem?_eq_getElem hi]
      rfl
    -- _need_rows(rows)
    refine ⟨_, rfl, l, AR, rfl, hR, hG, fun H1 s1 => ?_⟩
    have p1 := s1 _ _ hp
    have R1 := hR.same s1
    -- self.weirs
    refine ⟨_, rfl, l, rfl, ⟨_, .inl (.inl R1.lst)⟩, fun D hD => ?_⟩
    have sD : Same H1 (upd H1 D (.lst [])) := same_upd hD
    refine lc_list (K := K) (a := l) (xs := AR.map fun q => V.ref q.1) (fun i H2 => Same H1 H2 ∧ H2 D = some (.lst (((namesOf AR).take i).map V.str))) ⟨sD, by rw [upd_same, List.take_zero]; rfl⟩ (fun i H2 hi h => .inl (.inl (h.1 _ _ R1.lst))) ?_ ?_
    · rintro i x H2 hx ⟨s2, hl⟩
      have hi : i < AR.length := by
        have := (List.getElem?_eq_some_iff.mp hx).1
        rw [List.length_map] at this
        exact this
      have ex := row_at hx hi
      subst ex
      refine ⟨rfl, ?_⟩
      unfold tYes
      refine iteT ?_
      refine ⟨_, rfl, AR[i].1, _, _, _, rfl, rfl, .inl (.inl (s2 _ _ (R1.tup _ (List.getElem_mem hi)))), atI_nat (j := 0) rfl, _, hl, ?_, fun b o hb => ?_, ?_⟩
      · rw [List.length_map, List.length_take]
        exact small1000 (by omega)
      · rw [upd_ne (ne_of_none hb hD)]
        exact s2 b o hb
      · rw [upd_same, List.take_add_one, (rowat hi).1, List.map_append]
        rfl
    rintro H2 ⟨s2, hl⟩
    rw [List.take_of_length_le (by rw [hnl, List.length_map]; exact Nat.le_refl _)] at hl
    refine ⟨D, _, rfl, .inl ⟨.inl (.inl hl), fun tw nw => ?_⟩⟩
    have s3 : Same H (upd H2 tw (.tup ((namesOf AR).map V.str))) := (s1.trans s2).trans (same_upd nw)
    have w3 : (upd H2 tw (.tup ((namesOf AR).map V.str))) tw = some (.tup ((namesOf AR).map V.str)) := upd_same
    generalize upd H2 tw (.tup ((namesOf AR).map V.str)) = H3 at s3 w3
    have p3 := s3 _ _ hp
    refine ⟨_, rfl, p, Cr, dx, _, rfl, p3, T.cl, T.weirs, by show 0 < 1000; decide, ?_⟩
    have u4 : Upto p H (upd H3 p (.ins Cr dx (f1 (.ref tw)))) := (Upto.of s3).trans Upto.at_
    have w4 : (upd H3 p (.ins Cr dx (f1 (.ref tw)))) tw = some (.tup ((namesOf AR).map V.str)) := by
      rw [upd_ne (hins p3 w3 (fun _ _ _ z => by cases z))]
      exact w3
    have p4 : (upd H3 p (.ins Cr dx (f1 (.ref tw)))) p = some (.ins Cr dx (f1 (.ref tw))) := upd_same
    show tSeq _ _ _ _ (upd H3 p (.ins Cr dx (f1 (.ref tw))))
    generalize upd H3 p (.ins Cr dx (f1 (.ref tw))) = H4 at u4 w4 p4
    have R4 : RowsAt H4 l AR := ⟨u4 _ _ hR.lst (hins hp hR.lst (fun _ _ _ z => by cases z)), fun q hq => u4 _ _ (hR.tup q hq) (hins hp (hR.tup q hq) (fun _ _ _ z => by cases z))⟩
    -- self._rows
    refine ⟨_, rfl, l, _, rfl, .inl ⟨.inl (.inl R4.lst), fun tr nr => ?_⟩⟩
    have keepP : ∀ {Hk : Hp} {fs : List (Str × V)} {o X : HO} {a : Addr}, Hk p = some (.ins Cr dx fs) → Hk a = some o → (∀ z1 z2 z3, o ≠ .ins z1 z2 z3) → (upd Hk p X) a = some o := fun h1 h2 n => by
      rw [upd_ne (hins h1 h2 n)]
      exact h2
    have rowsU : ∀ {H1 H2 : Hp}, Upto p H H2 → RowsAt H2 l AR := fun u => ⟨u _ _ hR.lst (hins hp hR.lst (fun _ _ _ z => by cases z)), fun q hq => u _ _ (hR.tup q hq) (hins hp (hR.tup q hq) (fun _ _ _ z => by cases z))⟩
    have s5 : Same H4 (upd H4 tr (.tup (AR.map fun q => V.ref q.1))) := same_upd nr
    have r5 : (upd H4 tr (.tup (AR.map fun q => V.ref q.1))) tr = some (.tup (AR.map fun q => V.ref q.1)) := upd_same
    generalize upd H4 tr (.tup (AR.map fun q => V.ref q.1)) = H5 at s5 r5
    have p5 := s5 _ _ p4
    have w5 := s5 _ _ w4
    refine ⟨_, rfl, p, Cr, dx, _, rfl, p5, T.cl, T._rows, by have := l1 (.ref tw); omega, ?_⟩
    have u6 : Upto p H (upd H5 p (.ins Cr dx (f2 (.ref tw) (.ref tr)))) := (u4.trans (Upto.of s5)).trans Upto.at_
    have w6 : (upd H5 p (.ins Cr dx (f2 (.ref tw) (.ref tr)))) tw = _ := keepP p5 w5 (fun _ _ _ z => by cases z)
    have r6 : (upd H5 p (.ins Cr dx (f2 (.ref tw) (.ref tr)))) tr = _ := keepP p5 r5 (fun _ _ _ z => by cases z)
    have p6 : (upd H5 p (.ins Cr dx (f2 (.ref tw) (.ref tr)))) p = some (.ins Cr dx (f2 (.ref tw) (.ref tr))) := upd_same
    show tSeq _ _ _ _ (upd H5 p (.ins Cr dx (f2 (.ref tw) (.ref tr))))
    generalize upd H5 p (.ins Cr dx (f2 (.ref tw) (.ref tr))) = H6 at u6 w6 r6 p6
    have R6 : RowsAt H6 l AR := rowsU (H1 := H6) u6
    -- self._below
    refine ⟨_, rfl, l, rfl, ⟨_, .inl (.inl R6.lst)⟩, fun db ndb => ?_⟩
    refine dc_it (walk_list (K := K) (a := l) (xs := AR.map fun q => V.ref q.1)) (fun i H7 => Same H6 H7 ∧ H7 db = some (.dK (kmap (fun y => .str (lowR (rowsOf AR) y)) ((namesOf AR).take i)))) ⟨same_upd ndb, by rw [upd_same, List.take_zero]; rfl⟩ (fun i H7 hi h => .inl (.inl (h.1 _ _ R6.lst))) ?_ ?_
    · rintro i x H7 H7' hi ⟨s7, hb7⟩ ⟨e, hx⟩
      subst e
      rw [List.length_map] at hi
      have ex := row_at hx hi
      subst ex
      obtain ⟨hn, hlow⟩ := rowat hi
      refine ⟨AR[i].1, _, rfl, .inl (.inl (s7 _ _ (R6.tup _ (List.getElem_mem hi)))), rfl, _, _, rfl, _, _, rfl, rfl, rfl, ?_⟩
      unfold tYes
      refine iteT ?_
      refine ⟨_, rfl, _, rfl, _, Sum.inr AR[i].2.1, rfl, hb7, ?_, fun b o hb => ?_, ?_⟩
      · rw [kmap_len, List.length_take]
        exact small1000 (by omega)
      · rw [upd_ne (ne_of_none hb ndb)]
        exact s7 b o hb
      · have hput := kmap_put (f := fun y => V.str (lowR (rowsOf AR) y)) (nodup_take hnd hn)
        rw [hlow] at hput
        rw [upd_same, hput, List.take_add_one, hn]
        rfl
    rintro H7 ⟨s7, hb7⟩
    rw [List.take_of_length_le (by rw [hnl, List.length_map]; exact Nat.le_refl _)] at hb7
    have p7 := s7 _ _ p6
    have w7 := s7 _ _ w6
    have r7 := s7 _ _ r6
    refine ⟨_, rfl, p, Cr, dx, _, rfl, p7, T.cl, T._below, by have := l2 (.ref tw) (.ref tr); omega, ?_⟩
    have u8 : Upto p H (upd H7 p (.ins Cr dx (f3 (.ref tw) (.ref tr) (.ref db)))) := (u6.trans (Upto.of s7)).trans Upto.at_
    have w8 : (upd H7 p (.ins Cr dx (f3 (.ref tw) (.ref tr) (.ref db)))) tw = _ := keepP p7 w7 (fun _ _ _ z => by cases z)
    have r8 : (upd H7 p (.ins Cr dx (f3 (.ref tw) (.ref tr) (.ref db)))) tr = _ := keepP p7 r7 (fun _ _ _ z => by cases z)
    have b8 : (upd H7 p (.ins Cr dx (f3 (.ref tw) (.ref tr) (.ref db)))) db = _ := keepP p7 hb7 (fun _ _ _ z => by cases z)
    have p8 : (upd H7 p (.ins Cr dx (f3 (.ref tw) (.ref tr) (.ref db)))) p = some (.ins Cr dx (f3 (.ref tw) (.ref tr) (.ref db))) := upd_same
    show tSeq _ _ _ _ (upd H7 p (.ins Cr dx (f3 (.ref tw) (.ref tr) (.ref db))))
    generalize upd H7 p (.ins Cr dx (f3 (.ref tw) (.ref tr) (.ref db))) = H8 at u8 w8 r8 b8 p8
    -- self._courses
    refine ⟨_, rfl, p, Cr, dx, _, _, rfl, p8, T.cl, T._below, g3b _ _ _, db, rowsOf AR, rfl, b8, hG, fun H9 dc s9 ndc c9 => ?_⟩
    have p9 := s9 _ _ p8
    refine ⟨_, rfl, p, Cr, dx, _, rfl, p9, T.cl, T._courses, by have := l3 (.ref tw) (.ref tr) (.ref db); omega, ?_⟩
    have ua : Upto p H (upd H9 p (.ins Cr dx (f4 (.ref tw) (.ref tr) (.ref db) (.ref dc)))) := (u8.trans (Upto.of s9)).trans Upto.at_
    have wa : (upd H9 p (.ins Cr dx (f4 (.ref tw) (.ref tr) (.ref db) (.ref dc)))) tw = _ := keepP p9 (s9 _ _ w8) (fun _ _ _ z => by cases z)
    have ra : (upd H9 p (.ins Cr dx (f4 (.ref tw) (.ref tr) (.ref db) (.ref dc)))) tr = _ := keepP p9 (s9 _ _ r8) (fun _ _ _ z => by cases z)
    have ba : (upd H9 p (.ins Cr dx (f4 (.ref tw) (.ref tr) (.ref db) (.ref dc)))) db = _ := keepP p9 (s9 _ _ b8) (fun _ _ _ z => by cases z)
    have ca : TupsAt (upd H9 p (.ins Cr dx (f4 (.ref tw) (.ref tr) (.ref db) (.ref dc)))) dc (namesOf AR) (course (rowsOf AR)) := tupsU p9 Upto.at_ c9
    have pa : (upd H9 p (.ins Cr dx (f4 (.ref tw) (.ref tr) (.ref db) (.ref dc)))) p = some (.ins Cr dx (f4 (.ref tw) (.ref tr) (.ref db) (.ref dc))) := upd_same
    show tSeq _ _ _ _ (upd H9 p (.ins Cr dx (f4 (.ref tw) (.ref tr) (.ref db) (.ref dc))))
    generalize upd H9 p (.ins Cr dx (f4 (.ref tw) (.ref tr) (.ref db) (.ref dc))) = Ha at ua wa ra ba ca pa
    -- self._above
    refine ⟨_, rfl, p, Cr, dx, _, _, rfl, pa, T.cl, T.weirs, g4w _ _ _ _, by show 1 ≤ sizeLine; decide, fun q nq => ?_⟩
    have sq : Same Ha (upd Ha q (.tup [.str "sea"])) := same_upd nq
    have hq1 : (upd Ha q (.tup [.str "sea"])) q = some (.tup [.str "sea"]) := upd_same
    generalize upd Ha q (.tup [.str "sea"]) = Hb at sq hq1
    have hne : (namesOf AR).map V.str ≠ [] := fun z => by
      have z2 := congrArg List.length z
      rw [List.length_map, hnl] at z2
      have := hG.one
      have z3 : AR.length = 0 := z2
      omega
    refine ⟨tw, q, _, _, rfl, rfl, .inl (.inl (sq _ _ wa)), .inl (.inl hq1), hne, ?_, (fun z => nomatch z), fun _ tz nz => ?_⟩
    · rw [List.length_map, hnl]
      exact Nat.le_of_lt (small1000 (by show AR.length + 1 ≤ 1000; omega))
    have sz : Same Ha (upd Hb tz (.tup ((namesOf AR).map V.str ++ [.str "sea"]))) := sq.trans (same_upd nz)
    have hz1 : (upd Hb tz (.tup ((namesOf AR).map V.str ++ [.str "sea"]))) tz = some (.tup ((namesOf AR ++ [("sea" : Str)]).map V.str)) := by
      rw [upd_same, List.map_append]
      rfl
    have ezz : (namesOf AR).map V.str ++ [.str "sea"] = (namesOf AR ++ [("sea" : Str)]).map V.str := by
      rw [List.map_append]
      rfl
    generalize upd Hb tz (.tup ((namesOf AR).map V.str ++ [.str "sea"])) = Hc at sz hz1
    refine ⟨tz, rfl, ⟨_, .inl (.inl hz1)⟩, fun da nda => ?_⟩
    have nsea : (namesOf AR ++ [("sea" : Str)]).Nodup := nd_snoc hnd fun z => hG.nm.sea _ z rfl
    refine dc_it (walk_tup (K := K) (a := tz) (xs := (namesOf AR ++ [("sea" : Str)]).map V.str)) (fun i Hd => Same Hc Hd ∧ TupsAt Hd da ((namesOf AR ++ [("sea" : Str)]).take i) (aboveR (rowsOf AR))) ⟨same_upd nda, ⟨fun _ => 0, by rw [upd_same, List.take_zero]; rfl, fun x hx => by rw [List.take_zero] at hx; cases hx⟩⟩ (fun i Hd hi h => .inl (.inl (h.1 _ _ hz1))) ?_ ?_
    · rintro i x Hd Hd' hi ⟨sd, Td⟩ ⟨e, hx⟩
      subst e
      rw [List.length_map] at hi
      obtain ⟨y, hy, rfl⟩ : ∃ y, (namesOf AR ++ [("sea" : Str)])[i]? = some y ∧ x = .str y := by
        rw [List.getElem?_map, List.getElem?_eq_getElem hi] at hx
        exact ⟨_, List.getElem?_eq_getElem hi, (Option.some.inj hx).symm⟩
      refine ⟨rfl, ?_⟩
      unfold tYes
      refine iteT ?_
      refine ⟨_, rfl, _, rfl, p, Cr, dx, _, _, rfl, sd _ _ (sz _ _ pa), T.cl, T._below, g4b _ _ _ _, _, rfl, db, rowsOf AR, y, rfl, sd _ _ (sz _ _ ba), hG, fun He t se nt ht => ?_⟩
      obtain ⟨ta, q1, q2⟩ := (Td.same se).ex
      refine ⟨_, Sum.inr y, rfl, q1, ?_, fun b o hb => ?_, ?_⟩
      · rw [kmap_len, List.length_take, List.length_append, hnl]
        exact small1000 (by show min i (AR.length + 1) ≤ 1000; omega)
      · rw [upd_ne (ne_of_none hb nda)]
        exact se _ _ (sd b o hb)
      · have hm := tups_more q1 q2 (nodup_take nsea hy) ht
        rw [List.take_add_one, hy]
        exact hm
    rintro Hd ⟨sd, Td⟩
    rw [List.length_map, List.take_length] at Td
    have pd := sd _ _ (sz _ _ pa)
    refine ⟨_, rfl, p, Cr, dx, _, rfl, pd, T.cl, T._above, by have := l4 (.ref tw) (.ref tr) (.ref db) (.ref dc); omega, ?_⟩
    have scd : Same Ha Hd := sz.trans sd
    have ue : Upto p H (upd Hd p (.ins Cr dx (f5 (.ref tw) (.ref tr) (.ref db) (.ref dc) (.ref da)))) := (ua.trans (Upto.of scd)).trans Upto.at_
    have we : (upd Hd p (.ins Cr dx (f5 (.ref tw) (.ref tr) (.ref db) (.ref dc) (.ref da)))) tw = _ := keepP pd (scd _ _ wa) (fun _ _ _ z => by cases z)
    have re : (upd Hd p (.ins Cr dx (f5 (.ref tw) (.ref tr) (.ref db) (.ref dc) (.ref da)))) tr = _ := keepP pd (scd _ _ ra) (fun _ _ _ z => by cases z)
    have be : (upd Hd p (.ins Cr dx (f5 (.ref tw) (.ref tr) (.ref db) (.ref dc) (.ref da)))) db = _ := keepP pd (scd _ _ ba) (fun _ _ _ z => by cases z)
    have ce := tupsU (H2 := upd Hd p (.ins Cr dx (f5 (.ref tw) (.ref tr) (.ref db) (.ref dc) (.ref da)))) pd Upto.at_ (ca.same scd)
    have ae := tupsU (H2 := upd Hd p (.ins Cr dx (f5 (.ref tw) (.ref tr) (.ref db) (.ref dc) (.ref da)))) pd Upto.at_ Td
    have pe' : (upd Hd p (.ins Cr dx (f5 (.ref tw) (.ref tr) (.ref db) (.ref dc) (.ref da)))) p = some (.ins Cr dx (f5 (.ref tw) (.ref tr) (.ref db) (.ref dc) (.ref da))) := upd_same
    show tSeq _ _ _ _ (upd Hd p (.ins Cr dx (f5 (.ref tw) (.ref tr) (.ref db) (.ref dc) (.ref da))))
    generalize upd Hd p (.ins Cr dx (f5 (.ref tw) (.ref tr) (.ref db) (.ref dc) (.ref da))) = Hf at ue we re be ce ae pe'
    -- self._upstream
    refine ⟨_, rfl, p, Cr, dx, _, _, rfl, pe', T.cl, T.weirs, g5w _ _ _ _ _, tw, rfl, ⟨_, .inl (.inl we)⟩, fun du ndu => ?_⟩
    refine dc_it (walk_tup (K := K) (a := tw) (xs := (namesOf AR).map V.str)) (fun i Hg => Same Hf Hg ∧ TupsAt Hg du ((namesOf AR).take i) (upR (rowsOf AR))) ⟨same_upd ndu, ⟨fun _ => 0, by rw [upd_same, List.take_zero]; rfl, fun x hx => by rw [List.take_zero] at hx; cases hx⟩⟩ (fun i Hg hi h => .inl (.inl (h.1 _ _ we))) ?_ ?_
    · rintro i x Hg Hg' hi ⟨sg, Tg⟩ ⟨e, hx⟩
      subst e
      rw [List.length_map] at hi
      obtain ⟨y, hy, rfl⟩ : ∃ y, (namesOf AR)[i]? = some y ∧ x = .str y := by
        rw [List.getElem?_map, List.getElem?_eq_getElem hi] at hx
        exact ⟨_, List.getElem?_eq_getElem hi, (Option.some.inj hx).symm⟩
      refine ⟨rfl, ?_⟩
      unfold tYes
      refine iteT ?_
      refine ⟨_, rfl, _, rfl, p, Cr, dx, _, _, rfl, sg _ _ pe', T.cl, T._courses, g5c _ _ _ _ _, _, rfl, dc, rowsOf AR, y, rfl, ce.same sg, hG, fun He t se nt ht => ?_⟩
      obtain ⟨ta, q1, q2⟩ := (Tg.same se).ex
      refine ⟨_, Sum.inr y, rfl, q1, ?_, fun b o hb => ?_, ?_⟩
      · rw [kmap_len, List.length_take, hnl]
        exact small1000 (by omega)
      · rw [upd_ne (ne_of_none hb ndu)]
        exact se _ _ (sg b o hb)
      · have hm := tups_more q1 q2 (nodup_take hnd hy) ht
        rw [List.take_add_one, hy]
        exact hm
    rintro Hg ⟨sg, Tg⟩
    rw [List.length_map, List.take_length] at Tg
    have pg := sg _ _ pe'
    refine ⟨_, rfl, p, Cr, dx, _, rfl, pg, T.cl, T._upstream, by have := l5 (.ref tw) (.ref tr) (.ref db) (.ref dc) (.ref da); omega, ?_⟩
    have uh : Upto p H (upd Hg p (.ins Cr dx (f6 (.ref tw) (.ref tr) (.ref db) (.ref dc) (.ref da) (.ref du)))) := (ue.trans (Upto.of sg)).trans Upto.at_
    have wh : (upd Hg p (.ins Cr dx (f6 (.ref tw) (.ref tr) (.ref db) (.ref dc) (.ref da) (.ref du)))) tw = _ := keepP pg (sg _ _ we) (fun _ _ _ z => by cases z)
    have rh : (upd Hg p (.ins Cr dx (f6 (.ref tw) (.ref tr) (.ref db) (.ref dc) (.ref da) (.ref du)))) tr = _ := keepP pg (sg _ _ re) (fun _ _ _ z => by cases z)
    have bh : (upd Hg p (.ins Cr dx (f6 (.ref tw) (.ref tr) (.ref db) (.ref dc) (.ref da) (.ref du)))) db = _ := keepP pg (sg _ _ be) (fun _ _ _ z => by cases z)
    have ch := tupsU (H2 := upd Hg p (.ins Cr dx (f6 (.ref tw) (.ref tr) (.ref db) (.ref dc) (.ref da) (.ref du)))) pg Upto.at_ (ce.same sg)
    have ah := tupsU (H2 := upd Hg p (.ins Cr dx (f6 (.ref tw) (.ref tr) (.ref db) (.ref dc) (.ref da) (.ref du)))) pg Upto.at_ (ae.same sg)
    have uph := tupsU (H2 := upd Hg p (.ins Cr dx (f6 (.ref tw) (.ref tr) (.ref db) (.ref dc) (.ref da) (.ref du)))) pg Upto.at_ Tg
    have ph : (upd Hg p (.ins Cr dx (f6 (.ref tw) (.ref tr) (.ref db) (.ref dc) (.ref da) (.ref du)))) p = some (.ins Cr dx (f6 (.ref tw) (.ref tr) (.ref db) (.ref dc) (.ref da) (.ref du))) := upd_same
    refine ⟨_, rfl, p, Cr, dx, _, _, rfl, ph, T.cl, T._courses, g6c _ _ _ _ _ _, dc, rowsOf AR, rfl, ch, hG, fun Hi t si nt hti => ?_⟩
    have pi := si _ _ ph
    refine ⟨_, rfl, p, Cr, dx, _, rfl, pi, T.cl, T._deepest_first, by have := l6 (.ref tw) (.ref tr) (.ref db) (.ref dc) (.ref da) (.ref du); omega, ?_⟩
    have R0 : RowsAt Hi l AR := rowsU (H1 := Hi) (uh.trans (Upto.of si))
    refine k _ ((uh.trans (Upto.of si)).trans Upto.at_) ⟨dx, tw, tr, db, dc, da, du, .ref t, upd_same, keepP pi (si _ _ wh) (fun _ _ _ z => by cases z), keepP pi (si _ _ rh) (fun _ _ _ z => by cases z), fun q hq => keepP pi (R0.tup q hq) (fun _ _ _ z => by cases z), keepP pi (si _ _ bh) (fun _ _ _ z => by cases z),
      tupsU pi Upto.at_ (ch.same si), tupsU pi Upto.at_ (ah.same si), tupsU pi Upto.at_ (uph.same si), ⟨t, rfl, keepP pi hti (fun _ _ _ z => by cases z)⟩⟩
end
end K0
end

/-! ## K0J -/
section
set_option Elab.async false
set_option linter.all false
set_option maxRecDepth 100000
namespace L2
open PySem PySem.Spec PyProof.Rows
/-! ### a def whose promise may speak of how large the heap is at its call -/
structure FnOkN (P : Program) (w : World) (K : PySem.W.Frag) (mg : Str → Option Value) (base : Heap) (CX : CXT) (k : Nat) (f : Addr) (fd : FuncData) (ps : List Str) (sp : Nat → Sp) : Prop where
  len : ∀ n vs H Q E, sp n vs H Q E → vs.length = ps.length
  run : ∀ (A : Around) (outer : List Env) (s : Shared) (H : Hp) (args : Args) (us : List Value) (vs : List V) (Q : VK) (E : XK), Room k A → Env0 P w K mg base A outer s H → BindsTo s fd args (ps.zip us) → Vals vs us → sp s.heap.objs.size vs H Q E →
    codeAny (model P w) A (.call (.ref f) args) (CR CX outer P w H s Q E) s
theorem k0_fn_ofN {CX : CXT} {P : Program} {w : World} {K : PySem.W.Frag} {mg : Str → Option Value} {base : Heap} {k : Nat} {f : Addr} {name qual : Str} {params : Arguments} {body : List Stmt} {scope : Scope} {dV kV doc pm cdv ct oc : Value} {an od : Option Addr}
    {osl : Array (Option Value)} {N ps : List Str} {sp : Nat → Sp} (lk : K.lookup f = some ⟨oc, od, .func (PySem.W.fnOf name qual params body scope dV kV doc pm an cdv ct), osl⟩) (hcd : PySem.W.codeIn K cdv qual = true) (S : FnScope N ps scope)
    (len : ∀ n vs H Q E, sp n vs H Q E → vs.length = ps.length)
    (hbody : ∀ (A : Around) (outer : List Env) (s : Shared) (H : Hp) (vs : List V) (Q : VK) (E : XK), Room k (A.deeper (envOfC qual scope s.heap.objs.size f cdv)) → sp s.heap.objs.size vs H Q E →
      ∃ t, PSs (cxOf CX P w K mg base N qual scope f cdv A outer s H E) body t ∧ t { nx := fun _ H' => Q .non H', rt := Q } (start N vs) H) :
    FnOkN P w K mg base CX (k + 1) f (PySem.W.fnOf name qual params body scope dV kV doc pm an cdv ct) ps sp := by
  refine ⟨len, fun A outer s H args us vs Q E hr e0 hb r hsp => ?_⟩
  have hl := len _ _ _ _ _ hsp
  have KX : K.In s.heap := e0.mod.kin.keeps fun b o e => (e0.bs b o e).1
  have lim : s.heap.NoLimit := e0.mod.nolimit.keeps fun b o e => (e0.bs b o e).1
  have hkind : ∀ y ∈ ps.zip us, scope.names.lookup y.1 = some .local ∨ (scope.names.lookup y.1 = some .cell ∧ ((cellsFrom (s.heap.objs.size + 1) scope.names []).lookup y.1).isSome = true) := fun ⟨n, v⟩ hy => by
    rcases S.par n (List.of_mem_zip hy).1 with q | q
    · exact .inl q
    · exact .inr ⟨q, PySem.W.cellsFrom_some _ _ _ (.inl q)⟩
  refine codeAny_call_function hr.depth (KX _ _ lk) rfl S.co S.gen rfl (PySem.W.codeRec_of KX hcd) (hb _ _ _ _ ?_)
  refine wpAny_newFunctionEnv_cells S.kind hkind fun env he s1 x => ?_
  subst he
  refine ⟨lim.keeps x.toInCall.keep, codeAny_func ?_⟩
  obtain ⟨t, ht, hq⟩ := hbody A outer s H vs Q E (hr.deeper _) hsp
  have I : Inv (cxOf CX P w K mg base N qual scope f cdv A outer s H E) [] (start N vs) H s1 := inv_start S hr.hd e0 hl r x
  refine wpAny_mono (ht.run [] s1 (start N vs) H _ I hq) (fun fl s' hs => ?_) fun e s' hs => hs
  have fin : ∀ {σ' : St} {H' : Hp} {v : V} {u : Value}, Inv (cxOf CX P w K mg base N qual scope f cdv A outer s H E) [] σ' H' s' → RelV v u → Q v H' → CE outer P w H s Q u s' :=
    fun {σ' H' v u} J rv q => ⟨v, H', J.os, J.bare, J.base, J.hok, rv, q⟩
  cases fl with
  | ret u =>
    obtain ⟨v, σ', H', J, rv, q⟩ := hs
    exact fin J rv q
  | next =>
    obtain ⟨σ', H', J, q⟩ := hs
    exact fin (v := V.non) (u := Value.none) J rfl q
  | brk =>
    obtain ⟨_, _, _, q⟩ := hs
    exact False.elim q
  | cont =>
    obtain ⟨_, _, _, q⟩ := hs
    exact False.elim q
/-! ### iter of a tuple -/
def k0_itObj (t : Addr) : Obj := { cls := .type "tuple_iterator", data := .fields #[.ref t, .int 0 0] }
def K0It (t it : Addr) : HO := .ext fun h => h.get? it = some (k0_itObj t)
theorem k0_it_ok {P : Program} {w : World} {H : Hp} {h : Heap} {t it : Addr} (e : h.get? it = some (k0_itObj t)) : ObjOk P w H h it (K0It t it) := ⟨e, ⟨_, e⟩, fun h1 h2 q k => k _ q⟩
theorem k0_call_iter {prog : Program} {w : World} {A : Around} {E : Value → Shared → Prop} {s : Shared} {t : Addr} {items : Array Value} {Q : Value → Shared → Prop} (ht : s.heap.IsTuple t items) (h : Q (.ref s.heap.objs.size) { s with heap := s.heap.push (k0_itObj t) }) :
    wpAny (model prog w) A (call (.builtin "iter") [.ref t]) Q E s := by
  refine Calls.call_function_entry (by decide +kernel) (by decide +kernel) PySem.W.kdk_entry_iter (PySem.W.kdk_args_iter _) ?_
  unfold Builtin.«iter»
  refine wpAny_bind (m := someArgs "iter" 1 2 _) (wpAny_of_eq (a := [Value.ref t]) (by first | rfl | kernel_rfl!) ?_)
  show wpAny _ _ (pyIter (.ref t) >>= _) _ _ _
  refine wpAny_bind (wpAny_pyIter_tuple ht ?_)
  exact wpAny_pure ⟨_, rfl, h⟩
def k0_rIter (K : PySem.W.Frag) (n : Nat) : List V → Hp → VK → Prop := fun xs H Q => ∃ (t : Addr) (zs : List V), xs = [.ref t] ∧ SqT K H t zs ∧ ∀ it, H it = Option.none → n ≤ it → Q (.ref it) (upd H it (K0It t it))
section
variable {X : Cx}
theorem k0_cr_iter : CallR X (.builtin "iter") (k0_rIter X.K X.s_0.heap.objs.size) := by
  intro pins s σ H xs us Q I r h
  obtain ⟨t, zs, rfl, hq, q⟩ := h
  obtain ⟨u, rfl, ru⟩ := vals1 r
  cases ru
  obtain ⟨its, rv, pl, hz⟩ := I.tuple hq
  refine k0_call_iter pl ?_
  exact ⟨.ref s.heap.objs.size, _, I.laid (t' := s.toks) (fun b u e => Heap.get?_push_of_some _ e) (Nat.le_refl _) (k0_it_ok (Heap.get?_push_size _ rfl)), rfl, q _ (I.hok.fresh (Nat.le_refl _)) I.sz⟩
end
/-! ### for x in o, o of a class of the text with an __iter__ that gives a tuple's iterator -/
/-- what such an __iter__ promises -/
def spIterT (K : PySem.W.Frag) (G : Hp → Addr → Addr → Prop) (n : Nat) : Sp := fun vs H Q _ => ∃ (p t : Addr) (zs : List V), vs = [.ref p] ∧ G H p t ∧ SqT K H t zs ∧ ∀ it, H it = Option.none → n ≤ it → Q (.ref it) (upd H it (K0It t it))
def iOwn (K : PySem.W.Frag) (C : Addr) (G : Hp → Addr → Addr → Prop) (te : TE) : TI := fun σ H R => te σ H fun x H1 => ∃ (p dx t : Addr) (fs : List (Str × V)) (zs : List V), x = .ref p ∧ H1 p = some (.ins C dx fs) ∧ G H1 p t ∧ SqT K H1 t zs ∧ R (Itt K t) H1
theorem pi_own {X : Cx} {k : Nat} {C f : Addr} {fd : FuncData} {G : Hp → Addr → Addr → Prop} {tg e : Expr} {te : TE} (F : FnOkN X.prog X.w X.K X.mg X.base CX0 k f fd ["self"] (spIterT X.K G)) (hr : Room k X.A)
    (hs : PySem.W.findIn X.K (.ref C) "__iter__" = some (some (.ref f))) (hf : PySem.W.isFn X.K (.ref f) = true) (hb : Binds X.K fd ["self"] []) (he : PE X e te) : PI X tg e (iOwn X.K C G te) := by
  refine ⟨fun pins s σ H R I h => ?_⟩
  refine thn (he.run pins s σ H _ I h) fun u s1 ⟨x, H1, I1, rx, p, dx, t, fs, zs, ex, hp, hG, ht, q⟩ => ?_
  subst ex
  cases rx
  obtain ⟨mA, J, _⟩ := ins_get I1.hok hp
  obtain ⟨od, J, _⟩ := J.look
  obtain ⟨m, hF⟩ := I1.fr
  refine PySem.W.owit_iter hF I1.ok.mod.kin J hs hf ?_
  have hsp : spIterT X.K G s1.heap.objs.size [.ref p] H1 (fun v H' => ∃ it, v = .ref it ∧ H1 it = Option.none ∧ s1.heap.objs.size ≤ it ∧ H' = upd H1 it (K0It t it)) E0 := ⟨p, t, zs, rfl, hG, ht, fun it n1 n2 => ⟨it, rfl, n1, n2, rfl⟩⟩
  have r2 : Vals [V.ref p] [Value.ref p] := .cons rfl .nil
  refine wpAny_call (codeAny_mono (F.run X.A X.stack s1 H1 ⟨[.ref p], []⟩ [.ref p] [.ref p] _ E0 hr I1.env0 (by
    have := hb s1 [.ref p] I1.kIn (by rfl)
    simpa using this) r2 hsp) fun r s' hq => ?_)
  cases r with
  | error e => exact hq.elim
  | ok fl =>
    cases fl with
    | ret w =>
      obtain ⟨z, H', I', rz, it, ez, n1, n2, eH⟩ := I1.after hq
      subst ez
      cases rz
      subst eH
      have hit : (upd H1 it (K0It t it)) it = some (K0It t it) := upd_same
      have hobj : s'.heap.get? it = some (k0_itObj t) := (I'.hok it _ hit).1
      have st : s'.heap.IsTupleIter it t 0 := ⟨_, hobj, rfl, rfl⟩
      show PySem.W.OwitIt _ _ _ _ (.ref it) s'
      unfold PySem.W.OwitIt
      refine wpAny_specialOf (T := "tuple_iterator") ⟨_, hobj, rfl⟩ PySem.F.slot_tuple_iterator_next.lookup ?_
      have hit' := hit
      unfold K0It at hit'
      have I2 := ItX.inv_drop I' hit'
      rw [ItX.dropH_upd n1] at I2
      have fp := ItX.inv_fp I' hit (Nat.le_trans I1.sz n2)
      rw [ItX.dropH_upd n1] at fp
      refine ⟨it, [it], _, _, H1, rfl, I2, turn_tuple t it, st, fun b hb => ?_, q⟩
      have e : b = it := by simpa using hb
      rw [e]
      exact fp
    | next => exact hq.elim
    | brk => exact hq.elim
    | cont => exact hq.elim
/-! ### len(o), x in o, x not in o by the text's own methods -/
section
variable {X : Cx} {k : Nat} {C f : Addr} {fd : FuncData}
/-- what such a __len__ promises -/
def spLenG (G : Hp → Addr → Nat → Prop) : Sp := fun vs H Q _ => ∃ (p : Addr) (n : Nat), vs = [.ref p] ∧ G H p n ∧ n ≤ 100000 ∧ Q (.int (n : Int)) H
theorem k0_len_own {G : Hp → Addr → Nat → Prop} (F : FnOk X.prog X.w X.K X.mg X.base CX0 k f fd ["self"] (spLenG G)) (hr : Room (k + 1) X.A)
    (hs : PySem.W.findIn X.K (.ref C) "__len__" = some (some (.ref f))) (hf : PySem.W.isFn X.K (.ref f) = true) (hb : Binds X.K fd ["self"] []) :
    CallR X (.builtin "len") (fun xs H Q => ∃ (p dx : Addr) (fs : List (Str × V)) (n : Nat), xs = [.ref p] ∧ H p = some (.ins C dx fs) ∧ G H p n ∧ n ≤ 100000 ∧ Q (.int (n : Int)) H) := by
  intro pins s σ H xs us Q I r h
  obtain ⟨p, dx, fs, n, rfl, hp, hG, hn, q⟩ := h
  obtain ⟨u, rfl, ru⟩ := vals1 r
  cases ru
  obtain ⟨mA, J, _⟩ := ins_get I.hok hp
  obtain ⟨od, J, _⟩ := J.look
  obtain ⟨m, hF⟩ := I.fr
  refine PySem.W.len_K hF I.ok.mod.kin J hs hf ?_
  have hsp : spLenG G [.ref p] H (fun v H' => v = .int (n : Int) ∧ H' = H) E0 := ⟨p, n, rfl, hG, hn, rfl, rfl⟩
  have r2 : Vals [V.ref p] [Value.ref p] := .cons rfl .nil
  have e0 : Env0 X.prog X.w X.K X.mg X.base X.A.in1 X.stack s H := I.env0.in1
  refine wpAny_call (codeAny_mono (F.run X.A.in1 X.stack s H ⟨[.ref p], []⟩ [.ref p] [.ref p] _ E0 (hr.in1) e0 (by
    have := hb s [.ref p] I.kIn (by rfl)
    simpa using this) r2 hsp) fun r s' hq => ?_)
  cases r with
  | error e => exact hq.elim
  | ok fl =>
    cases fl with
    | ret w =>
      obtain ⟨z, H', I', rz, ez, eH⟩ := I.after hq
      subst ez
      subst eH
      obtain ⟨t, rfl⟩ := rz
      exact ⟨⟨by omega, by omega⟩, .int (n : Int), H', I'.tok _, ⟨_, rfl⟩, q⟩
    | next => exact hq.elim
    | brk => exact hq.elim
    | cont => exact hq.elim
/-- what such a __contains__ promises: true or false -/
def spHas (G : Hp → Addr → V → Bool → Prop) : Sp := fun vs H Q _ => ∃ (p : Addr) (x : V) (b : Bool), vs = [.ref p, x] ∧ G H p x b ∧ Q (.bl b) H
def rHas (C : Addr) (neg : Bool) (G : Hp → Addr → V → Bool → Prop) : R2 := fun x y H Q => ∃ (p dx : Addr) (fs : List (Str × V)) (b : Bool), y = .ref p ∧ H p = some (.ins C dx fs) ∧ G H p x b ∧ Q (.bl (if neg then !b else b)) H
theorem k0_has_run {G : Hp → Addr → V → Bool → Prop} (F : FnOk X.prog X.w X.K X.mg X.base CX0 k f fd ["self", "x"] (spHas G)) (hr : Room k X.A) (hb : Binds X.K fd ["self", "x"] []) {pins : List (Addr × Obj)} {σ : St} {H : Hp} {s : Shared} (I : Inv X pins σ H s) {p : Addr} {x : V} {u : Value} {b : Bool} (rx : RelV x u) (hG : G H p x b)
    {R : Value → Shared → Prop} (h : ∀ s', Inv X pins σ H s' → R (.bool b) s') : wpAny (model X.prog X.w) X.A (call (.ref f) [.ref p, u]) R X.xe s := by
  have hsp : spHas G [.ref p, x] H (fun v H' => v = .bl b ∧ H' = H) E0 := ⟨p, x, b, rfl, hG, rfl, rfl⟩
  have r2 : Vals [V.ref p, x] [Value.ref p, u] := .cons rfl (.cons rx .nil)
  refine wpAny_call (codeAny_mono (F.run X.A X.stack s H ⟨[.ref p, u], []⟩ [.ref p, u] [.ref p, x] _ E0 hr I.env0 (by
    have := hb s [.ref p, u] I.kIn (by rfl)
    simpa using this) r2 hsp) fun r s' hq => ?_)
  cases r with
  | error e => exact hq.elim
  | ok fl =>
    cases fl with
    | ret w =>
      obtain ⟨z, H', I', rz, ez, eH⟩ := I.after hq
      subst ez
      subst eH
      cases rz
      exact h s' I'
    | next => exact hq.elim
    | brk => exact hq.elim
    | cont => exact hq.elim
theorem k0_in_own {K : PySem.W.Frag} {G : Hp → Addr → V → Bool → Prop} (F : FnOk X.prog X.w X.K X.mg X.base CX0 k f fd ["self", "x"] (spHas G)) (hr : Room k X.A)
    (hs : PySem.W.findIn X.K (.ref C) "__contains__" = some (some (.ref f))) (hf : PySem.W.isFn X.K (.ref f) = true) (hb : Binds X.K fd ["self", "x"] []) : OpR X (compareOp .In) (rHas C false G) := by
  intro pins s σ H x y v u Q I rx ry h
  obtain ⟨p, dx, fs, b, rfl, hp, hG, q⟩ := h
  cases ry
  obtain ⟨mA, J, _⟩ := ins_get I.hok hp
  obtain ⟨od, J, _⟩ := J.look
  obtain ⟨m, hF⟩ := I.fr
  refine PySem.W.in_K hF I.ok.mod.kin J hs hf (k0_has_run F hr hb I rx hG fun s' I' => ?_)
  exact wpAny_truthy_bool ⟨.bl b, H, I', rfl, q⟩
theorem k0_notIn_own {K : PySem.W.Frag} {G : Hp → Addr → V → Bool → Prop} (F : FnOk X.prog X.w X.K X.mg X.base CX0 k f fd ["self", "x"] (spHas G)) (hr : Room k X.A)
    (hs : PySem.W.findIn X.K (.ref C) "__contains__" = some (some (.ref f))) (hf : PySem.W.isFn X.K (.ref f) = true) (hb : Binds X.K fd ["self", "x"] []) : OpR X (compareOp .NotIn) (rHas C true G) := by
  intro pins s σ H x y v u Q I rx ry h
  obtain ⟨p, dx, fs, b, rfl, hp, hG, q⟩ := h
  cases ry
  obtain ⟨mA, J, _⟩ := ins_get I.hok hp
  obtain ⟨od, J, _⟩ := J.look
  obtain ⟨m, hF⟩ := I.fr
  refine PySem.W.notIn_K hF I.ok.mod.kin J hs hf (k0_has_run F hr hb I rx hG fun s' I' => ?_)
  exact wpAny_truthy_bool ⟨.bl (!b), H, I', rfl, q⟩
end
end L2
end

/-! ## K0W -/
section
set_option Elab.async false
set_option linter.all false
set_option maxRecDepth 100000
namespace PySem
open Sem PySem.Spec PyProof.Rows
/-! ### list.__repr__, whatever is under way -/
theorem k0_list_head {M : Model} {A : Around} {E : Value → Shared → Prop} {s : Shared} {Q : Fin → Shared → Prop} {a : Addr} {o : Obj} {x : Value} {l : List Value} {n} {b : Nat}
    (hget : s.heap.get? a = some o) (hd : o.data = .seq (x :: l).toArray n)
    (h : wpAny M A (do again (.builtin "list.__repr__.loop" ⟨[.ref a, rawInt 0, ← newList [], rawInt b], []⟩)) Q E s)
    (h2 : wpAny M A (do rule "list.__repr__.in-itself"; retStr "[...]") Q E s) : wpAny M A (Builtin.listReprAt b ⟨[.ref a], []⟩) Q E s := by
  intro Γ p hΓ
  have q1 := h Γ p hΓ
  have q2 := h2 Γ p hΓ
  unfold Builtin.listReprAt
  simp [slotArgs, Builtin.List.listItems, seqItems?, wp_load_of (h := hget), hd, stack]
  show wp M Γ (if (Γ.below.any _) = true then _ else _) _ _ p s
  split
  · exact q2
  · exact q1
section
variable {prog : Program} {w : World} {A : Around} {E : Value → Shared → Prop} {s : Shared} {a : Addr} {oa : Obj} {x : Value} {l : List Value} {na : Nat} {ts : List Str}
theorem k0_way : ("[...]" : Str).length ≤ 5 := by decide +kernel
theorem k0_list_fin {R : Result → Shared → Prop} {b : Nat}
    (ha : s.heap.get? a = some oa) (hda : oa.data = .seq (x :: l).toArray na) (hlen : ts.length = (x :: l).toArray.size)
    (hT : ∀ (i : Nat) (y : Value), (x :: l).toArray[i]? = some y → ∃ t, ts[i]? = some t ∧ ReprIs prog w y t)
    (hR : ∀ h' (m : Str) (u : Tok) tk, m.length ≤ (listText ts).length + 5 → (∀ b o, s.heap.get? b = some o → h'.get? b = some o) → R (.ok (.ret (.str m u))) { s with heap := h', toks := tk })
    (hsz : b + (listText ts).length ≤ sizeLine) :
    wpAny (model prog w) A.in1 (Builtin.listReprAt b ⟨[.ref a], []⟩)
      (fun fin s' => match fin with | .done f => R (.ok f) s' | .again c' => c'.quiet = true ∧ codeAny (model prog w) A c' R s') (fun e s' => R (.error e) s') s := by
  refine k0_list_head (A := A.in1) ha hda ?_ ?_
  · refine wpAny_bind (m := newList []) (wpAny_newObj_type ?_)
    refine wpAny_pure ⟨F.quiet_list_repr_loop _, ?_⟩
    refine codeAny_list_repr_start (P := s.heap.objs.size) (Nat.ne_of_lt (Heap.lt_size ha)) hlen hT (Heap.get?_push_of_some _ ha) hda (Heap.get?_push_size _ rfl) (fun h' u tk hk => ?_) hsz
    exact hR h' (listText ts) u tk (Nat.le_add_right _ _) fun b o e => hk b o (Nat.ne_of_lt (Heap.lt_size e)) (Heap.get?_push_of_some _ e)
  · refine wpAny_bind (wpAny_rule ?_)
    refine wpAny_bind (wpAny_mkStr (wpAny_pure ?_) (by decide +kernel))
    exact hR s.heap "[...]" _ _ (Nat.le_trans k0_way (Nat.le_add_left _ _)) fun _ _ e => e
theorem k0_list_repr {Q : Value → Shared → Prop} (hTy : s.TypeIs (.ref a) "list") (hu : A.units < cLine)
    (ha : s.heap.get? a = some oa) (hda : oa.data = .seq (x :: l).toArray na) (hlen : ts.length = (x :: l).toArray.size)
    (hT : ∀ (i : Nat) (y : Value), (x :: l).toArray[i]? = some y → ∃ t, ts[i]? = some t ∧ ReprIs prog w y t)
    (hQ : ∀ h' (m : Str) (u : Tok) tk, m.length ≤ (listText ts).length + 5 → (∀ b o, s.heap.get? b = some o → h'.get? b = some o) → Q (.str m u) { s with heap := h', toks := tk })
    (hsz : (listText ts).length ≤ sizeLine) : wpAny (model prog w) A (pyReprObj (.ref a)) Q E s := by
  refine wpAny_pyReprObj_slot hu hTy F.slot_list_repr.toG ?_
  refine wpAny_call (codeAny_call_builtin F.slot_list_repr.plain F.entry_list_repr (F.slot_list_repr.check _ _ _ _ _ _ _ _ hTy (F.args_list_repr_1 _)
    (k0_list_fin (b := 0) (R := fun r s' => match r with | .ok (.ret v) => ∃ x t, v = .str x t ∧ Q v s' | .ok _ => False | .error e => E e s') ha hda hlen hT (fun h' m u tk hm k => ⟨m, u, rfl, hQ h' m u tk hm k⟩) (by omega))))
end
end PySem
namespace L2
open PySem PySem.Spec PyProof.Rows
/-! ### {x!r} of a value that is no weir -/
def Plain (y : Str) : Prop := ∀ c ∈ y.cps.toList, c < 1114112
theorem Plain.hex {y : Str} (h : Plain y) : ∀ c ∈ y.cps.toList, c < 16 ^ 8 := fun c hc => Nat.lt_trans (h c hc) (by decide)
/-- values whose text is short: texts, None, a bool, a whole number, lists and tuples of texts -/
inductive Shown (K : PySem.W.Frag) (H : Hp) : V → Prop where
  | str (y : Str) (h : Plain y) (z : y.length ≤ 1000) : Shown K H (.str y)
  | non : Shown K H .non
  | bl (b : Bool) : Shown K H (.bl b)
  | int (i : Int) (h : i.natAbs.log2 < 1920) (z : (Str.ofString (toString i)).length ≤ 30000) : Shown K H (.int i)
  | lst {a : Addr} {l : List Str} (e : H a = some (.lst (l.map V.str))) (h : ∀ y ∈ l, Plain y) (z : fmtCost l ≤ 20000) : Shown K H (.ref a)
  | tup {a : Addr} {l : List Str} (e : H a = some (.tup (l.map V.str))) (h : ∀ y ∈ l, Plain y) (z : fmtCost l ≤ 20000) : Shown K H (.ref a)
theorem Shown.same {K : PySem.W.Frag} {H H' : Hp} {x : V} (h : Shown K H x) (s : ∀ b o, H b = some o → (∀ z1 z2 z3, o ≠ .ins z1 z2 z3) → H' b = some o) : Shown K H' x := by
  cases h with
  | str y h z => exact .str y h z
  | non => exact .non
  | bl b => exact .bl b
  | int i h z => exact .int i h z
  | lst e h z => exact .lst (s _ _ e (fun _ _ _ q => by cases q)) h z
  | tup e h z => exact .tup (s _ _ e (fun _ _ _ q => by cases q)) h z
def tShow (K : PySem.W.Frag) (te : TE) : TE := fun σ H Q => te σ H fun x H1 => Shown K H1 x ∧ ∀ m : Str, m.length ≤ 30000 → Q (.str m) H1
section
variable {X : Cx}
theorem piled_sum : ∀ ts : List Str, (ts.map (·.length)).sum + 2 * ts.length = piled ts
  | [] => rfl
  | t :: r => by
    have ih := piled_sum r
    rw [piled_cons, List.map_cons, List.sum_cons, List.length_cons]
    omega
theorem list_text (ts : List Str) : (listText ts).length ≤ piled ts + 2 := by
  have e2 : ((("]" : String) : Str)).length = 1 := rfl
  have h := textFrom_len_le ts 0 "["
  have e1 : ((("[" : String) : Str)).length = 1 := rfl
  have h3 := piled_sum ts
  show (textFrom 0 "[" ts ++ "]").length ≤ _
  rw [strLen_append, e2]
  omega
theorem k0_30 : 30000 ≤ sizeLine := by rw [sizeLine_eq]; omega
theorem pe_show {e : Expr} {te : TE} {pos : Pos} {k : Nat} (hr : Room k X.A) (he : PE X e te) : PE X (.FormattedValue e 114 none pos) (tShow X.K te) := by
  refine ⟨fun pins s σ H Q I h => ?_⟩
  refine wpAny_FormattedValue_repr (thn (he.run pins s σ H _ I h) fun v s1 hv => ?_)
  obtain ⟨x, H1, I1, r1, sh, q⟩ := hv
  have hu := hr.units
  have fin : ∀ (m : Str) (t : Tok) (s2 : Shared), Inv X pins σ H1 s2 → m.length ≤ 30000 → wpAny (model X.prog X.w) X.A (formatField (.str m t) Str.empty) (EP X pins σ Q) X.xe s2 := fun m t s2 I2 hm =>
    wpAny_formatField_str ⟨.str m, H1, I2, ⟨t, rfl⟩, q m hm⟩ ⟨.str m, H1, I2.tok _, ⟨_, rfl⟩, q m hm⟩ (Nat.le_trans hm k0_30)
  cases sh with
  | str y hc z =>
    obtain ⟨t, rfl⟩ := r1
    have h1 := StrLaws.reprText_len y hc.hex
    exact pyReprObj_str (fin _ _ _ (I1.tok _) (by omega)) (by have := k0_30; omega)
  | non =>
    cases r1
    exact pyReprObj_none (fin _ _ _ (I1.tok _) (by decide +kernel))
  | bl b =>
    cases r1
    refine pyReprObj_bool (fin _ _ _ (I1.tok _) ?_)
    cases b <;> decide +kernel
  | int i hi z =>
    obtain ⟨t, rfl⟩ := r1
    exact pyReprObj_int hi (fin _ _ _ (I1.tok _) z)
  | @lst a l ea hc z =>
    cases r1
    have hp := fmt_piled l fun y hy => (hc y hy).hex
    have ht := list_text (l.map reprText)
    have h30 := k0_30
    obtain ⟨u1, its, n, rv, ho⟩ := (show ObjOk X.prog X.w H1 s1.heap a (.lst (l.map V.str)) from I1.hok a _ ea)
    have hl : ∀ y ∈ l, (reprText y).length ≤ sizeLine := fun y hy => by
      have h1 := StrLaws.reprText_len y (hc y hy).hex
      have h2 := fmtCost_mem hy
      omega
    have hT : ∀ (i : Nat) (y : Value), its.toArray[i]? = some y → ∃ t, (l.map reprText)[i]? = some t ∧ ReprIs X.prog X.w y t := fun i y hy => by
      rw [List.getElem?_toArray] at hy
      have hlen := rv.length
      have hi : i < its.length := (List.getElem?_eq_some_iff.mp hy).1
      rw [List.length_map] at hlen
      have hi2 : i < l.length := by omega
      have e1 : (l.map V.str)[i]? = some (V.str l[i]) := by rw [List.getElem?_map, List.getElem?_eq_getElem hi2]; rfl
      obtain ⟨u, hu2, ru⟩ := rv.get e1
      rw [hy] at hu2
      have e2 := Option.some.inj hu2
      subst e2
      obtain ⟨t, rfl⟩ := ru
      exact ⟨reprText l[i], by rw [List.getElem?_map, List.getElem?_eq_getElem hi2]; rfl, ReprIs.str l[i] t (hl _ (List.getElem_mem hi2))⟩
    have hlen : (l.map reprText).length = its.toArray.size := by
      have hlen := rv.length
      rw [List.length_map] at hlen
      rw [List.length_map, List.size_toArray]
      exact hlen
    cases its with
    | nil => exact wpAny_pyReprObj_list_empty ⟨_, ho, rfl⟩ (by omega) ho rfl (fin _ _ _ (I1.tok _) (by decide +kernel))
    | cons u0 us => exact k0_list_repr ⟨_, ho, rfl⟩ (by omega) ho rfl hlen hT (fun h' m u tk hm k => fin m u _ (I1.kept k) (by omega)) (by omega)
  | @tup a l ea hc z =>
    cases r1
    have hp := fmt_piled l fun y hy => (hc y hy).hex
    have ht := fmt_text (l.map reprText)
    have h30 := k0_30
    obtain ⟨u1, its, rv, o, ho, hcl, n, hd⟩ := (show ObjOk X.prog X.w H1 s1.heap a (.tup (l.map V.str)) from I1.hok a _ ea)
    have hl : ∀ y ∈ l, (reprText y).length ≤ sizeLine := fun y hy => by
      have h1 := StrLaws.reprText_len y (hc y hy).hex
      have h2 := fmtCost_mem hy
      omega
    refine wpAny_pyReprObj_slot (by omega) ⟨o, ho, hcl⟩ F.slot_tuple_repr ?_
    exact fmt_tuple_repr (ts := l.map reprText) ho hcl hd (repr_all rv hl) (by omega) fun m u tk hm => ⟨m, u, rfl, fin m u _ (I1.tok _) (by omega)⟩
end
end L2
end

/-! ## K0X -/
section
set_option Elab.async false
set_option linter.all false
set_option maxRecDepth 100000
set_option maxHeartbeats 1000000
namespace L2
open PySem PySem.Spec PyProof.Rows
open PySem.W (kxs_mw ks_superObj)
/-! ### an own exception whose __init__ says super().__init__(e) and self.f = v -/
/-- such an __init__, as the top has made it: C its class -/
structure SupF (P : Program) (K : PySem.W.Frag) (mg : Str → Option Value) (C : Addr) (x qual : Str) (params : Arguments) (body : List Stmt) (scope : Scope) (f : Addr) (fd : FuncData) : Prop where
  ex : ∃ (oc : Value) (od : Option Addr) (doc pm : Value) (cda : Addr) (ct : Value) (cc : Addr) (osl : Array (Option Value)),
    fd = PySem.W.ksFn x qual params body scope .none .none doc pm none (.ref cda) ct cc ∧ K.lookup f = some ⟨oc, od, .func fd, osl⟩ ∧ PySem.W.codeIn K (.ref cda) qual = true ∧
    (∃ (ccl : Value) (cdd : Option Addr) (vs : Array Value) (ccs : Array (Option Value)) (file : Str) (tf : Tok), K.lookup cda = some ⟨ccl, cdd, .fields vs, ccs⟩ ∧ vs[2]? = some (.str file tf) ∧ ((P.main.file : Str) == file) = true) ∧
    ∃ (cl : Value) (cld : Option Addr) (csl : Array (Option Value)), K.lookup cc = some ⟨cl, cld, .cell (some (.ref C)), csl⟩
  top : (P.main.scope.names.lookup ("super" : Str)).isSome = false
  exc : OexC K C
  sub : PySem.W.mroIn K C (.ref C) = some true
  subV : PySem.W.subIn K (.ref C) (.type "ValueError") = some true
  sup : PySem.W.ks_superIn K C C "__init__" = some (some (.builtin "ValueError.__init__"))
  opq : PySem.W.nsIn K cStatics "thirdparty.any" = some none
  sg : mg "super" = none
section
variable {X : Cx} {pins : List (Addr × Obj)} {σ : St} {H : Hp} {s : Shared} {a C u : Addr} {E : Value → Shared → Prop} {A : Around}
/-- the built-in __init__, bound to the object, called -/
theorem k0_mw_call {us : List Value} {Q : Value → Shared → Prop} (T : OexC X.K C) (I : Inv X pins σ H s) (e : H a = some (exo a C none)) (hu : s.heap.get? u = some (kxs_mw "ValueError.__init__" a)) (hl : us.length ≤ sizeLine) (h : ∀ s', Inv X pins σ H s' → Q .none s') :
    wpAny (model X.prog X.w) A (call (.ref u) us) Q E s := by
  obtain ⟨nm, q, N, bs, bm, sn, sub, ab, col, dd, k0, k1, k2, k3, k5, hC, hbm⟩ := T.cls
  obtain ⟨t1, ho⟩ := exo_at I.hok e
  have hC' := I.kIn _ _ hC
  obtain ⟨hh, g, d, tk, os⟩ := s
  refine wpAny_call (codeAny_of_tree ?_)
  show wpAny _ A.in1 (callAny (.ref u) ⟨us, []⟩) _ _ _
  simp only [callAny]
  refine wpAny_bind (wpAny_load hu ?_)
  simp only [kxs_mw, show (Value.type "method-wrapper" == Value.type "method" || Value.type "method-wrapper" == Value.type "builtin_function_or_method" || Value.type "method-wrapper" == Value.type "method-wrapper") = true by decide, if_true]
  refine PySem.W.KFB.if_so (by decide) ?_
  refine wpAny_bind (PySem.W.check_bound_init F.excBase_ValueError.toExcCallFacts hC' ho rfl ?_)
  refine wpAny_bind (wpAny_pure (wpAny_pure ?_))
  refine ⟨plainId_quiet F.excBase_ValueError.init.plain _, codeAny_builtin F.excBase_ValueError.initEntry ?_⟩
  refine PySem.W.exc_init_tree (cls := .ref C) (t0 := t1) (dv := none) (c2 := .none) (c3 := .none) (b4 := .bool false) ho hl fun h' k e' t' => ?_
  have J := I.write (t' := tk) (x := a) (e := a) (o := exo a C none) (by rw [e]; exact True.intro) (.inl rfl) k ⟨_, e'⟩ (exo_ok e')
  have eu : upd H a (exo a C none) = H := by
    funext b
    by_cases hb : b = a
    · rw [hb, upd_same, e]
    · rw [upd_ne hb]
  rw [eu] at J
  exact h _ J
end

/-! ### its body walked -/
abbrev supScope : Scope := { kind := .function, names := [("self", .local), ("name", .local), ("__class__", .free), ("super", .globalImplicit)], isGenerator := false, isCoroutine := false, more := [] }
abbrev supN : List Str := ["self", "name", "__class__"]
theorem supNS : NdefX.NScope supN ["self", "name"] ["__class__"] supScope := NdefX.nscope_by (by decide +kernel)
def spSup (K : PySem.W.Frag) (C : Addr) : Sp := fun vs H Q _ => ∃ (a : Addr) (x : V), vs = [.ref a, x] ∧ H a = some (exo a C none) ∧ Shown K H x ∧
  ∀ dx, H dx = none → dx ≠ a → Q .non (upd (upd H dx (exd dx [(("name" : Str), x)])) a (exo a C (some dx)))
section
variable {P : Program} {w : World} {K : PySem.W.Frag} {mg : Str → Option Value} {base : Heap} {C f : Addr} {fd : FuncData} {x qual : Str} {params : Arguments}
theorem ok_sup {txt : Str} {n : Nat} {p0 p1 p2 p3 p4 p5 p6 p7 p8 p9 p10 p11 p12 : Pos} {ar : Arg} (hp : (params.posonlyargs ++ params.args).head? = some ar) (har : ar.arg = "self") (htx : txt.length ≤ 1000)
    (S : SupF P K mg C x qual params [.Expr (.Call (.Attribute (.Call (.Name "super" p0) [] [] p1) "__init__" p2) [.JoinedStr [.Constant (.str txt) n p3, .FormattedValue (.Name "name" p4) 114 none p5] p6] [] p7) p8, .Assign [.Attribute (.Name "self" p9) "name" p10] (.Name "name" p11) p12] supScope f fd)
    (hno : PySem.W.findIn K (.ref C) "name" = some none)
    (he : ∀ (q : Str) (L f0 : Addr) (cd : Value) (cl : List (Str × Addr)), ∃ pl : Sem Bool, eval (.Call (.Attribute (.Call (.Name "super" p0) [] [] p1) "__init__" p2) [.JoinedStr [.Constant (.str txt) n p3, .FormattedValue (.Name "name" p4) 114 none p5] p6] [] p7) (PySem.W.envX q supScope L f0 cd cl) = (do
      let ov ← attributeBase (.Call (.Name "super" p0) [] [] p1) "__init__" (PySem.W.envX q supScope L f0 cd cl) (eval (.Call (.Name "super" p0) [] [] p1) (PySem.W.envX q supScope L f0 cd cl))
      standAt p2.atName
      let (f, first) ← holding [ov] (getMethod ov "__init__" pl)
      callWith p7 f first (backTo p7 (starEach [.JoinedStr [.Constant (.str txt) n p3, .FormattedValue (.Name "name" p4) 114 none p5] p6] (PySem.W.envX q supScope L f0 cd cl))) [])) :
    FnOk P w K mg base CX0 1 f fd ["self", "name"] (spSup K C) := by
  obtain ⟨oc, od, doc, pm, cda, ct, cc, osl, rfl, lk, hcd, ⟨ccl, cdd, cvs, ccs, file, tf, hcode, hvs, hfile⟩, cl, cld, csl, hcell⟩ := S.ex
  refine ⟨fun vs H Q E h => ?_, fun A outer s H args us vs Q E hr e0 hb r hsp => ?_⟩
  · obtain ⟨a, y, rfl, _⟩ := h
    rfl
  obtain ⟨a, y, rfl, ha, sh, k⟩ := hsp
  have KX : K.In s.heap := e0.mod.kin.keeps fun b o e => (e0.bs b o e).1
  have lim : s.heap.NoLimit := e0.mod.nolimit.keeps fun b o e => (e0.bs b o e).1
  have kN : ∀ {b : Addr} {o : Obj}, K.lookup b = some o → H b = none := fun e => (e0.bs _ _ (e0.mod.kin _ _ e)).2
  refine ks_codeAny_call_defAt hr.depth (KX _ _ lk) rfl lim (PySem.W.codeRec_of KX hcd) rfl hb (show ∀ y ∈ supScope.names, y.2 ≠ .cell by decide) (fun ⟨n, v⟩ hy => ?_) (fun h₁ hns kp => ?_)
  · have := supNS.par n (List.of_mem_zip hy).1
    exact this
  have CA : NdefX.CellsAt [(("__class__" : Str), cc)] ["__class__"] [some (V.ref C)] s.heap H := {
    len := rfl
    all := fun y c e => by
      have e2 : c = cc := by
        by_cases hy : y = "__class__"
        · subst hy
          simpa [List.lookup] using e.symm
        · have : (y == ("__class__" : Str)) = false := by simpa using hy
          simp [List.lookup, this] at e
      subst e2
      exact ⟨kN hcell, ⟨_, ⟨_, KX _ _ hcell, rfl⟩⟩⟩
    inj := fun y1 y2 c e1 e2 => by
      have key : ∀ {y : Str}, List.lookup y [(("__class__" : Str), cc)] = some c → y = "__class__" := fun {y} e => by
        by_cases hy : y = "__class__"
        · exact hy
        · have : (y == ("__class__" : Str)) = false := by simpa using hy
          simp [List.lookup, this] at e
      rw [key e1, key e2]
    has := fun i y e => by
      cases i with
      | zero =>
        cases e
        refine ⟨cc, by simp [List.lookup], fun v e2 => ?_⟩
        cases e2
        exact ⟨.ref C, rfl, ⟨_, KX _ _ hcell, rfl⟩⟩
      | succ i => cases e }
  have I0 := NdefX.inv_startN (CX := CX0) (E := E) (f := f) (tk := s.toks + ((["self", "name"] : List Str).zip us).length) (F := ⟨x, qual, params, [.Expr (.Call (.Attribute (.Call (.Name "super" p0) [] [] p1) "__init__" p2) [.JoinedStr [.Constant (.str txt) n p3, .FormattedValue (.Name "name" p4) 114 none p5] p6] [] p7) p8, .Assign [.Attribute (.Name "self" p9) "name" p10] (.Name "name" p11) p12], supScope, [("__class__", cc)], cda⟩) supNS hr.hd e0 rfl r CA hns kp
  generalize hs1 : ({ s with heap := h₁, toks := s.toks + ((["self", "name"] : List Str).zip us).length } : Shared) = s1 at I0
  obtain ⟨pl, hpl⟩ := he qual s.heap.objs.size f (.ref cda) [(("__class__" : Str), cc)]
  refine ks_wpAt_execs_cons (ks_wpAt_Expr_any (ks_wpAt_MethodCall (pl := pl) ?_ hpl))
  have hmg : mg "super" = none := S.sg
  have hos := exo_at I0.hok ha
  obtain ⟨t1, ho⟩ := hos
  obtain ⟨nm, q, N, bs, bm, sn, sub, ab, col, dd, k0, k1, k2, k3, k5, hC, hbm⟩ := S.exc.cls
  have hC1 := I0.kIn _ _ hC
  obtain ⟨mb, hb1, hb2⟩ := I0.mod.blt
  obtain ⟨m, hm, hlook⟩ := I0.loc
  have hself : m "self" = some (.ref a) := by
    obtain ⟨u, ru, lk2⟩ := hlook 0 "self" (.ref a) rfl rfl (.inl rfl)
    cases ru
    rcases lk2 with ⟨_, e⟩ | ⟨e, _⟩
    · exact e
    · exfalso
      revert e
      show ¬ ((List.lookup ("self" : Str) supScope.names = some .cell) ∨ (List.lookup ("self" : Str) supScope.names = some .free))
      decide
  refine ks_wpAt_super_base rfl rfl (by decide) rfl (I0.kIn _ _ lk) rfl hp rfl (I0.kIn _ _ hcode) rfl hvs hfile S.top ?_
  rw [har]
  refine PySem.W.ks_loadName_global rfl rfl (Calls.loadGlobal_builtin (I0.mod.glob.keeps I0.bk) hmg (hb1.keeps I0.bk) ((hb2 "super" (by decide)).trans Boot.super) ⟨rfl, ?_⟩)
  refine wpAny_loadName_free rfl rfl rfl ⟨_, I0.kIn _ _ hcell, rfl⟩ ?_
  refine wpAny_loadName_local rfl rfl hm hself ?_
  refine ks_wpAny_isType_cls hC1 rfl ⟨rfl, ?_⟩
  clear hs1
  obtain ⟨hh, g, d, tk, os⟩ := s1
  refine ks_wpAny_call_super hC1 rfl ho rfl (fun c e => by cases e) (PySem.W.looks_mroIn I0.kIn S.sub) (fun h' e kk => ?_)
  have I1 := I0.kept (h' := h') (t' := tk) kk
  have hcls : PySem.W.clsIn K C = some { name := nm, bases := bs, mro := .ref C :: bm, ns := N, qualname := q, hasDict := true, slotNames := sn, subclasses := sub, abstract := ab, collection := col, hasDel := false } := by unfold PySem.W.clsIn; rw [hC]
  have hsup := S.sup
  unfold PySem.W.ks_superIn at hsup
  rw [hcls] at hsup
  have J : PySem.W.InstAt h' a { cls := .ref C, dict := none, data := .fields #[.ref t1, .none, .none, .none, .bool false, .none] } C none := ⟨kk _ _ ho, rfl, rfl, trivial⟩
  refine PySem.W.kxs_getMethod PySem.W.kxs_ValueError e (PySem.W.looks_opaque I1.kIn S.opq) (l₀ := .ref C :: bm) (fun A Q E s k q => wpAny_bind ((PySem.W.looks_clsIn I1.kIn hcls) A _ E s k (wpAny_pure q))) rfl I1.kIn hsup (J.type.andThen (PySem.W.looks_subIn I1.kIn S.subV)) (PySem.W.ks_ne I1.kIn J hcls) (by decide) ?_
  have I2 := I1.kept (h' := h'.push (kxs_mw "ValueError.__init__" a)) (t' := tk + 1) fun b o e => Heap.get?_push_of_some _ e
  have hu0 : (h'.push (kxs_mw "ValueError.__init__" a)).get? h'.objs.size = some (kxs_mw "ValueError.__init__" a) := Heap.get?_push_size _ rfl
  have I3 := I2.pins_of (pins' := [(h'.objs.size, kxs_mw "ValueError.__init__" a)]) fun p hp => by
    cases List.mem_singleton.mp hp
    exact ⟨hu0, I1.hok.fresh (Nat.le_refl _), Nat.ne_of_gt I1.lt, I1.nofs (Nat.le_refl _), fun v z => by cases z⟩
  generalize h'.push (kxs_mw "ValueError.__init__" a) = h2 at hu0 I2 I3
  have hrX : Room 0 (A.deeper (NdefX.envF ⟨x, qual, params, [.Expr (.Call (.Attribute (.Call (.Name "super" p0) [] [] p1) "__init__" p2) [.JoinedStr [.Constant (.str txt) n p3, .FormattedValue (.Name "name" p4) 114 none p5] p6] [] p7) p8, .Assign [.Attribute (.Name "self" p9) "name" p10] (.Name "name" p11) p12], supScope, [(("__class__" : Str), cc)], cda⟩ f s.heap.objs.size)) := hr.deeper _
  show wpAny _ _ (callWith p7 (.ref h'.objs.size) [] (backTo p7 (starEach [.JoinedStr [.Constant (.str txt) n p3, .FormattedValue (.Name "name" p4) 114 none p5] p6] _)) []) _ _ _
  refine PySem.W.kxs_callWith (i := "ValueError.__init__") (x := a) rfl (PySem.Calls.evalArgs_plain ?_)
  have hPA : PA (NdefX.ncx CX0 P w K mg base supN ⟨x, qual, params, [.Expr (.Call (.Attribute (.Call (.Name "super" p0) [] [] p1) "__init__" p2) [.JoinedStr [.Constant (.str txt) n p3, .FormattedValue (.Name "name" p4) 114 none p5] p6] [] p7) p8, .Assign [.Attribute (.Name "self" p9) "name" p10] (.Name "name" p11) p12], supScope, [(("__class__" : Str), cc)], cda⟩ f A outer s H E) [.JoinedStr [.Constant (.str txt) n p3, .FormattedValue (.Name "name" p4) 114 none p5] p6] _ :=
    pa_cons (pe_joined (.cons pe_str (.cons (pe_show hrX (pv 1)) .nil))) pa_nil
  have hz : ∀ m : Str, m.length ≤ 30000 → (Str.empty ++ txt ++ m).length ≤ sizeLine := fun m hm => by
    have h30 : 40000 ≤ sizeLine := by rw [sizeLine_eq]; omega
    have e0 : Str.empty.length = 0 := rfl
    rw [strLen_append, strLen_append, e0]
    omega
  have hz0 : (Str.empty ++ txt).length ≤ sizeLine := by
    have h30 : 40000 ≤ sizeLine := by rw [sizeLine_eq]; omega
    have e0 : Str.empty.length = 0 := rfl
    rw [strLen_append, e0]
    omega
  refine thn (hPA.run p7 _ _ _ H (fun vs H2 => H2 = H ∧ ∃ m : Str, vs = [.str m]) I3 ?_) fun us s3 ⟨vs, H3, I4, r4, eH, m4, ev⟩ => ?_
  · refine ⟨txt, rfl, hz0, y, rfl, sh, fun m hm => ⟨m, rfl, hz m hm, rfl, _, rfl⟩⟩
  subst ev
  have eH2 : H = H3 := eH.symm
  clear eH
  subst eH2
  obtain ⟨u4, rfl, _⟩ := vals1 r4
  have hu3 : s3.heap.get? h'.objs.size = some (kxs_mw "ValueError.__init__" a) := (I4.pin _ (List.mem_append_right _ (List.mem_singleton.mpr rfl))).1
  refine ⟨hu3, ?_⟩
  show wpAny _ _ (call (.ref h'.objs.size) [u4]) _ _ _
  have I5 := I4.pins_of (pins' := []) fun p hp => by cases hp
  refine k0_mw_call S.exc I5 ha hu3 (by rw [sizeLine_eq]; show 1 ≤ _; omega) fun s5 I6 => ?_
  refine wpAt_of_wpAny ?_
  have hP2 : PSs (NdefX.ncx CX0 P w K mg base supN ⟨x, qual, params, [.Expr (.Call (.Attribute (.Call (.Name "super" p0) [] [] p1) "__init__" p2) [.JoinedStr [.Constant (.str txt) n p3, .FormattedValue (.Name "name" p4) 114 none p5] p6] [] p7) p8, .Assign [.Attribute (.Name "self" p9) "name" p10] (.Name "name" p11) p12], supScope, [(("__class__" : Str), cc)], cda⟩ f A outer s H E) [.Assign [.Attribute (.Name "self" p9) "name" p10] (.Name "name" p11) p12] _ :=
    pss_one (ps_ost (pv 0) (pv 1))
  refine wpAny_mono (hP2.run [] s5 _ H { nx := fun _ H' => Q .non H', rt := Q } I6 ⟨y, rfl, .ref a, rfl, a, C, rfl, S.exc, hno, .inl ⟨ha, fun dx h1 h2 => k dx h1 h2⟩⟩) (fun fl s' hs => ?_) fun e s' hs => hs
  cases fl with
  | ret u =>
    obtain ⟨v, σ', H', J, rv, q⟩ := hs
    exact ⟨v, H', J.os, J.bare, J.base, J.hok, rv, q⟩
  | next =>
    obtain ⟨σ', H', J, q⟩ := hs
    exact ⟨.non, H', J.os, J.bare, J.base, J.hok, rfl, q⟩
  | brk =>
    obtain ⟨_, _, _, q⟩ := hs
    exact False.elim q
  | cont =>
    obtain ⟨_, _, _, q⟩ := hs
    exact False.elim q
end
end L2
end

/-! ## K0Z -/
section
set_option Elab.async false
set_option linter.all false
set_option maxRecDepth 100000
set_option maxHeartbeats 1000000
namespace L2
open PySem PySem.Spec PyProof.Rows
open PySem.W (kxs_mw ks_superObj)
/-! ### super().__init__(f'{low!r}..{high!r}'), self.high = high, self.low = low -/

abbrev supScope2 : Scope := { kind := .function, names := [("self", .local), ("high", .local), ("low", .local), ("__class__", .free), ("super", .globalImplicit)], isGenerator := false, isCoroutine := false, more := [] }
abbrev supN2 : List Str := ["self", "high", "low", "__class__"]
theorem supN2S : NdefX.NScope supN2 ["self", "high", "low"] ["__class__"] supScope2 := NdefX.nscope_by (by decide +kernel)
def spSup2 (K : PySem.W.Frag) (C : Addr) : Sp := fun vs H Q _ => ∃ (a : Addr) (x y : V), vs = [.ref a, x, y] ∧ H a = some (exo a C none) ∧ Shown K H x ∧ Shown K H y ∧
  ∀ dx, H dx = none → dx ≠ a → Q .non (upd (upd (upd H dx (exd dx [(("high" : Str), x)])) a (exo a C (some dx))) dx (exd dx [(("low" : Str), y), (("high" : Str), x)]))
section
variable {P : Program} {w : World} {K : PySem.W.Frag} {mg : Str → Option Value} {base : Heap} {C f : Addr} {fd : FuncData} {x qual : Str} {params : Arguments}
theorem ok_sup2 {txt : Str} {n : Nat} {p0 p1 p2 p3 p4 p5 p6 p7 p8 p9 p10 p11 p12 p13 p14 p15 p16 p17 p18 : Pos} {ar : Arg} (hp : (params.posonlyargs ++ params.args).head? = some ar) (har : ar.arg = "self") (htx : txt.length ≤ 1000)
    (S : SupF P K mg C x qual params [.Expr (.Call (.Attribute (.Call (.Name "super" p0) [] [] p1) "__init__" p2) [.JoinedStr [.FormattedValue (.Name "low" p4) 114 none p5, .Constant (.str txt) n p3, .FormattedValue (.Name "high" p13) 114 none p14] p6] [] p7) p8, .Assign [.Attribute (.Name "self" p9) "high" p10] (.Name "high" p11) p12, .Assign [.Attribute (.Name "self" p15) "low" p16] (.Name "low" p17) p18] supScope2 f fd)
    (hno : PySem.W.findIn K (.ref C) "high" = some none) (hno2 : PySem.W.findIn K (.ref C) "low" = some none)
    (he : ∀ (q : Str) (L f0 : Addr) (cd : Value) (cl : List (Str × Addr)), ∃ pl : Sem Bool, eval (.Call (.Attribute (.Call (.Name "super" p0) [] [] p1) "__init__" p2) [.JoinedStr [.FormattedValue (.Name "low" p4) 114 none p5, .Constant (.str txt) n p3, .FormattedValue (.Name "high" p13) 114 none p14] p6] [] p7) (PySem.W.envX q supScope2 L f0 cd cl) = (do
      let ov ← attributeBase (.Call (.Name "super" p0) [] [] p1) "__init__" (PySem.W.envX q supScope2 L f0 cd cl) (eval (.Call (.Name "super" p0) [] [] p1) (PySem.W.envX q supScope2 L f0 cd cl))
      standAt p2.atName
      let (f, first) ← holding [ov] (getMethod ov "__init__" pl)
      callWith p7 f first (backTo p7 (starEach [.JoinedStr [.FormattedValue (.Name "low" p4) 114 none p5, .Constant (.str txt) n p3, .FormattedValue (.Name "high" p13) 114 none p14] p6] (PySem.W.envX q supScope2 L f0 cd cl))) [])) :
    FnOk P w K mg base CX0 1 f fd ["self", "high", "low"] (spSup2 K C) := by
  obtain ⟨oc, od, doc, pm, cda, ct, cc, osl, rfl, lk, hcd, ⟨ccl, cdd, cvs, ccs, file, tf, hcode, hvs, hfile⟩, cl, cld, csl, hcell⟩ := S.ex
  refine ⟨fun vs H Q E h => ?_, fun A outer s H args us vs Q E hr e0 hb r hsp => ?_⟩
  · obtain ⟨a, x1, y1, rfl, _⟩ := h
    rfl
  obtain ⟨a, x1, y1, rfl, ha, shx, shy, k⟩ := hsp
  have KX : K.In s.heap := e0.mod.kin.keeps fun b o e => (e0.bs b o e).1
  have lim : s.heap.NoLimit := e0.mod.nolimit.keeps fun b o e => (e0.bs b o e).1
  have kN : ∀ {b : Addr} {o : Obj}, K.lookup b = some o → H b = none := fun e => (e0.bs _ _ (e0.mod.kin _ _ e)).2
  refine ks_codeAny_call_defAt hr.depth (KX _ _ lk) rfl lim (PySem.W.codeRec_of KX hcd) rfl hb (show ∀ y ∈ supScope2.names, y.2 ≠ .cell by decide) (fun ⟨n, v⟩ hy => ?_) (fun h₁ hns kp => ?_)
  · have := supN2S.par n (List.of_mem_zip hy).1
    exact this
  have CA : NdefX.CellsAt [(("__class__" : Str), cc)] ["__class__"] [some (V.ref C)] s.heap H := {
    len := rfl
    all := fun y c e => by
      have e2 : c = cc := by
        by_cases hy : y = "__class__"
        · subst hy
          simpa [List.lookup] using e.symm
        · have : (y == ("__class__" : Str)) = false := by simpa using hy
          simp [List.lookup, this] at e
      subst e2
      exact ⟨kN hcell, ⟨_, ⟨_, KX _ _ hcell, rfl⟩⟩⟩
    inj := fun y1 y2 c e1 e2 => by
      have key : ∀ {y : Str}, List.lookup y [(("__class__" : Str), cc)] = some c → y = "__class__" := fun {y} e => by
        by_cases hy : y = "__class__"
        · exact hy
        · have : (y == ("__class__" : Str)) = false := by simpa using hy
          simp [List.lookup, this] at e
      rw [key e1, key e2]
    has := fun i y e => by
      cases i with
      | zero =>
        cases e
        refine ⟨cc, by simp [List.lookup], fun v e2 => ?_⟩
        cases e2
        exact ⟨.ref C, rfl, ⟨_, KX _ _ hcell, rfl⟩⟩
      | succ i => cases e }
  have I0 := NdefX.inv_startN (CX := CX0) (E := E) (f := f) (tk := s.toks + ((["self", "high", "low"] : List Str).zip us).length) (F := ⟨x, qual, params, [.Expr (.Call (.Attribute (.Call (.Name "super" p0) [] [] p1) "__init__" p2) [.JoinedStr [.FormattedValue (.Name "low" p4) 114 none p5, .Constant (.str txt) n p3, .FormattedValue (.Name "high" p13) 114 none p14] p6] [] p7) p8, .Assign [.Attribute (.Name "self" p9) "high" p10] (.Name "high" p11) p12, .Assign [.Attribute (.Name "self" p15) "low" p16] (.Name "low" p17) p18], supScope2, [("__class__", cc)], cda⟩) supN2S hr.hd e0 rfl r CA hns kp
  generalize hs1 : ({ s with heap := h₁, toks := s.toks + ((["self", "high", "low"] : List Str).zip us).length } : Shared) = s1 at I0
  obtain ⟨pl, hpl⟩ := he qual s.heap.objs.size f (.ref cda) [(("__class__" : Str), cc)]
  refine ks_wpAt_execs_cons (ks_wpAt_Expr_any (ks_wpAt_MethodCall (pl := pl) ?_ hpl))
  have hmg : mg "super" = none := S.sg
  have hos := exo_at I0.hok ha
  obtain ⟨t1, ho⟩ := hos
  obtain ⟨nm, q, N, bs, bm, sn, sub, ab, col, dd, k0, k1, k2, k3, k5, hC, hbm⟩ := S.exc.cls
  have hC1 := I0.kIn _ _ hC
  obtain ⟨mb, hb1, hb2⟩ := I0.mod.blt
  obtain ⟨m, hm, hlook⟩ := I0.loc
  have hself : m "self" = some (.ref a) := by
    obtain ⟨u, ru, lk2⟩ := hlook 0 "self" (.ref a) rfl rfl (.inl rfl)
    cases ru
    rcases lk2 with ⟨_, e⟩ | ⟨e, _⟩
    · exact e
    · exfalso
      revert e
      show ¬ ((List.lookup ("self" : Str) supScope2.names = some .cell) ∨ (List.lookup ("self" : Str) supScope2.names = some .free))
      decide
  refine ks_wpAt_super_base rfl rfl (by decide) rfl (I0.kIn _ _ lk) rfl hp rfl (I0.kIn _ _ hcode) rfl hvs hfile S.top ?_
  rw [har]
  refine PySem.W.ks_loadName_global rfl rfl (Calls.loadGlobal_builtin (I0.mod.glob.keeps I0.bk) hmg (hb1.keeps I0.bk) ((hb2 "super" (by decide)).trans Boot.super) ⟨rfl, ?_⟩)
  refine wpAny_loadName_free rfl rfl rfl ⟨_, I0.kIn _ _ hcell, rfl⟩ ?_
  refine wpAny_loadName_local rfl rfl hm hself ?_
  refine ks_wpAny_isType_cls hC1 rfl ⟨rfl, ?_⟩
  clear hs1
  obtain ⟨hh, g, d, tk, os⟩ := s1
  refine ks_wpAny_call_super hC1 rfl ho rfl (fun c e => by cases e) (PySem.W.looks_mroIn I0.kIn S.sub) (fun h' e kk => ?_)
  have I1 := I0.kept (h' := h') (t' := tk) kk
  have hcls : PySem.W.clsIn K C = some { name := nm, bases := bs, mro := .ref C :: bm, ns := N, qualname := q, hasDict := true, slotNames := sn, subclasses := sub, abstract := ab, collection := col, hasDel := false } := by unfold PySem.W.clsIn; rw [hC]
  have hsup := S.sup
  unfold PySem.W.ks_superIn at hsup
  rw [hcls] at hsup
  have J : PySem.W.InstAt h' a { cls := .ref C, dict := none, data := .fields #[.ref t1, .none, .none, .none, .bool false, .none] } C none := ⟨kk _ _ ho, rfl, rfl, trivial⟩
  refine PySem.W.kxs_getMethod PySem.W.kxs_ValueError e (PySem.W.looks_opaque I1.kIn S.opq) (l₀ := .ref C :: bm) (fun A Q E s k q => wpAny_bind ((PySem.W.looks_clsIn I1.kIn hcls) A _ E s k (wpAny_pure q))) rfl I1.kIn hsup (J.type.andThen (PySem.W.looks_subIn I1.kIn S.subV)) (PySem.W.ks_ne I1.kIn J hcls) (by decide) ?_
  have I2 := I1.kept (h' := h'.push (kxs_mw "ValueError.__init__" a)) (t' := tk + 1) fun b o e => Heap.get?_push_of_some _ e
  have hu0 : (h'.push (kxs_mw "ValueError.__init__" a)).get? h'.objs.size = some (kxs_mw "ValueError.__init__" a) := Heap.get?_push_size _ rfl
  have I3 := I2.pins_of (pins' := [(h'.objs.size, kxs_mw "ValueError.__init__" a)]) fun p hp => by
    cases List.mem_singleton.mp hp
    exact ⟨hu0, I1.hok.fresh (Nat.le_refl _), Nat.ne_of_gt I1.lt, I1.nofs (Nat.le_refl _), fun v z => by cases z⟩
  generalize h'.push (kxs_mw "ValueError.__init__" a) = h2 at hu0 I2 I3
  have hrX : Room 0 (A.deeper (NdefX.envF ⟨x, qual, params, [.Expr (.Call (.Attribute (.Call (.Name "super" p0) [] [] p1) "__init__" p2) [.JoinedStr [.FormattedValue (.Name "low" p4) 114 none p5, .Constant (.str txt) n p3, .FormattedValue (.Name "high" p13) 114 none p14] p6] [] p7) p8, .Assign [.Attribute (.Name "self" p9) "high" p10] (.Name "high" p11) p12, .Assign [.Attribute (.Name "self" p15) "low" p16] (.Name "low" p17) p18], supScope2, [(("__class__" : Str), cc)], cda⟩ f s.heap.objs.size)) := hr.deeper _
  show wpAny _ _ (callWith p7 (.ref h'.objs.size) [] (backTo p7 (starEach [.JoinedStr [.FormattedValue (.Name "low" p4) 114 none p5, .Constant (.str txt) n p3, .FormattedValue (.Name "high" p13) 114 none p14] p6] _)) []) _ _ _
  refine PySem.W.kxs_callWith (i := "ValueError.__init__") (x := a) rfl (PySem.Calls.evalArgs_plain ?_)
  have hPA : PA (NdefX.ncx CX0 P w K mg base supN2 ⟨x, qual, params, [.Expr (.Call (.Attribute (.Call (.Name "super" p0) [] [] p1) "__init__" p2) [.JoinedStr [.FormattedValue (.Name "low" p4) 114 none p5, .Constant (.str txt) n p3, .FormattedValue (.Name "high" p13) 114 none p14] p6] [] p7) p8, .Assign [.Attribute (.Name "self" p9) "high" p10] (.Name "high" p11) p12, .Assign [.Attribute (.Name "self" p15) "low" p16] (.Name "low" p17) p18], supScope2, [(("__class__" : Str), cc)], cda⟩ f A outer s H E) [.JoinedStr [.FormattedValue (.Name "low" p4) 114 none p5, .Constant (.str txt) n p3, .FormattedValue (.Name "high" p13) 114 none p14] p6] _ :=
    pa_cons (pe_joined (.cons (pe_show hrX (pv 2)) (.cons pe_str (.cons (pe_show hrX (pv 1)) .nil)))) pa_nil
  have h70 : 70000 ≤ sizeLine := by rw [sizeLine_eq]; omega
  have e0 : Str.empty.length = 0 := rfl
  have hz1 : ∀ m : Str, m.length ≤ 30000 → (Str.empty ++ m).length ≤ sizeLine := fun m hm => by
    rw [strLen_append, e0]
    omega
  have hz2 : ∀ m : Str, m.length ≤ 30000 → (Str.empty ++ m ++ txt).length ≤ sizeLine := fun m hm => by
    rw [strLen_append, strLen_append, e0]
    omega
  have hz3 : ∀ m m2 : Str, m.length ≤ 30000 → m2.length ≤ 30000 → (Str.empty ++ m ++ txt ++ m2).length ≤ sizeLine := fun m m2 hm hm2 => by
    rw [strLen_append, strLen_append, strLen_append, e0]
    omega
  refine thn (hPA.run p7 _ _ _ H (fun vs H2 => H2 = H ∧ ∃ m : Str, vs = [.str m]) I3 ?_) fun us s3 ⟨vs, H3, I4, r4, eH, m4, ev⟩ => ?_
  · refine ⟨y1, rfl, shy, fun m hm => ⟨m, rfl, hz1 m hm, txt, rfl, hz2 m hm, x1, rfl, shx, fun m2 hm2 => ⟨m2, rfl, hz3 m m2 hm hm2, rfl, _, rfl⟩⟩⟩
  subst ev
  have eH2 : H = H3 := eH.symm
  clear eH
  subst eH2
  obtain ⟨u4, rfl, _⟩ := vals1 r4
  have hu3 : s3.heap.get? h'.objs.size = some (kxs_mw "ValueError.__init__" a) := (I4.pin _ (List.mem_append_right _ (List.mem_singleton.mpr rfl))).1
  refine ⟨hu3, ?_⟩
  show wpAny _ _ (call (.ref h'.objs.size) [u4]) _ _ _
  have I5 := I4.pins_of (pins' := []) fun p hp => by cases hp
  refine k0_mw_call S.exc I5 ha hu3 (by rw [sizeLine_eq]; show 1 ≤ _; omega) fun s5 I6 => ?_
  refine wpAt_of_wpAny ?_
  have hP2 : PSs (NdefX.ncx CX0 P w K mg base supN2 ⟨x, qual, params, [.Expr (.Call (.Attribute (.Call (.Name "super" p0) [] [] p1) "__init__" p2) [.JoinedStr [.FormattedValue (.Name "low" p4) 114 none p5, .Constant (.str txt) n p3, .FormattedValue (.Name "high" p13) 114 none p14] p6] [] p7) p8, .Assign [.Attribute (.Name "self" p9) "high" p10] (.Name "high" p11) p12, .Assign [.Attribute (.Name "self" p15) "low" p16] (.Name "low" p17) p18], supScope2, [(("__class__" : Str), cc)], cda⟩ f A outer s H E) [.Assign [.Attribute (.Name "self" p9) "high" p10] (.Name "high" p11) p12, .Assign [.Attribute (.Name "self" p15) "low" p16] (.Name "low" p17) p18] _ :=
    pss_cons (ps_ost (pv 0) (pv 1)) (pss_one (ps_ost (pv 0) (pv 2)))
  refine wpAny_mono (hP2.run [] s5 _ H { nx := fun _ H' => Q .non H', rt := Q } I6 ⟨x1, rfl, .ref a, rfl, a, C, rfl, S.exc, hno, .inl ⟨ha, fun dx h1 h2 => ⟨y1, rfl, .ref a, rfl, a, C, rfl, S.exc, hno2, .inr ⟨dx, [(("high" : Str), x1)], upd_same, (upd_ne h2).trans upd_same, (by show 1 ≤ 900; decide), k dx h1 h2⟩⟩⟩⟩) (fun fl s' hs => ?_) fun e s' hs => hs
  cases fl with
  | ret u =>
    obtain ⟨v, σ', H', J, rv, q⟩ := hs
    exact ⟨v, H', J.os, J.bare, J.base, J.hok, rv, q⟩
  | next =>
    obtain ⟨σ', H', J, q⟩ := hs
    exact ⟨.non, H', J.os, J.bare, J.base, J.hok, rfl, q⟩
  | brk =>
    obtain ⟨_, _, _, q⟩ := hs
    exact False.elim q
  | cont =>
    obtain ⟨_, _, _, q⟩ := hs
    exact False.elim q
end
end L2
end

/-! ## K0Y -/
section
set_option Elab.async false
set_option linter.all false
set_option maxRecDepth 100000
namespace K0
open PySem PySem.Spec PyProof.Rows L2
/-! ### values that may be asked for -/
def TyS (K : PySem.W.Frag) (H : Hp) (x : V) : Prop := (∃ y, x = .str y) ∨ ((∀ y, x ≠ .str y) ∧ ∃ t, TyX K H x t ∧ PySem.W.kitOne K t (.type "str") = some false)
theorem shown_ty {K : PySem.W.Frag} {H : Hp} {x : V} (h : Shown K H x) : TyS K H x := by
  cases h with
  | str y _ _ => exact .inl ⟨y, rfl⟩
  | non => exact .inr ⟨(fun y z => by cases z), _, .base .non, kit_ty (by decide +kernel)⟩
  | bl b => exact .inr ⟨(fun y z => by cases z), _, .base (.bl b), kit_ty (by decide +kernel)⟩
  | int i _ _ => exact .inr ⟨(fun y z => by cases z), _, .base (.int i), kit_ty (by decide +kernel)⟩
  | lst e _ _ => exact .inr ⟨(fun y z => by cases z), _, .base (.lst e), kit_ty (by decide +kernel)⟩
  | tup e _ _ => exact .inr ⟨(fun y z => by cases z), _, .base (.tup e), kit_ty (by decide +kernel)⟩
theorem plain_ok {y : Str} (h : Plain y) : PyData.strOk y = true := by
  unfold PyData.strOk
  rw [← Array.all_toList, List.all_eq_true]
  intro c hc
  exact decide_eq_true (h c hc)
theorem canLay_strs : ∀ {l : List Str}, (∀ y ∈ l, Plain y) → PyData.canLayAll0 (l.map PyData.str) = true
  | [], _ => by simp only [List.map_nil, PyData.canLayAll0]
  | y :: l, h => by
    simp only [List.map_cons, PyData.canLayAll0, PyData.canLay0, plain_ok (h y List.mem_cons_self), canLay_strs fun z hz => h z (List.mem_cons_of_mem _ hz), Bool.and_self]
theorem depth_strs : ∀ l : List Str, PyData.depthAll (l.map PyData.str) = 0
  | [] => by simp only [List.map_nil, PyData.depthAll]
  | y :: l => by
    simp only [List.map_cons, PyData.depthAll, PyData.depth, depth_strs l]
    rfl
theorem dp_strs {K : PySem.W.Frag} {H : Hp} : ∀ l : List Str, DpAll K H (l.map V.str) (l.map PyData.str)
  | [] => .nil
  | y :: l => .cons (.str y) (dp_strs l)
theorem shaped_lst {l : List Str} (h : ∀ y ∈ l, Plain y) : SeqAt.shaped (.list (l.map PyData.str)) = true := by
  unfold SeqAt.shaped
  simp only [PyData.canLay0, PyData.depth, canLay_strs h, depth_strs]
  decide
theorem shaped_tup {l : List Str} (h : ∀ y ∈ l, Plain y) : SeqAt.shaped (.tuple (l.map PyData.str)) = true := by
  unfold SeqAt.shaped
  simp only [PyData.canLay0, PyData.depth, canLay_strs h, depth_strs]
  decide
theorem shaped_str {y : Str} (h : Plain y) : SeqAt.shaped (.str y) = true := by
  unfold SeqAt.shaped
  simp only [PyData.canLay0, PyData.depth, plain_ok h]
  rfl
theorem shown_dp {K : PySem.W.Frag} {H : Hp} {x : V} (h : Shown K H x) : ∃ d, Dp K H x d ∧ SeqAt.shaped d = true ∧ ((∃ y, x = .str y ∧ d = .str y) ∨ ((∀ y, x ≠ .str y) ∧ ∀ y, d ≠ .str y)) := by
  cases h with
  | str y hp _ => exact ⟨_, .str y, shaped_str hp, .inl ⟨y, rfl, rfl⟩⟩
  | non => exact ⟨_, .non, by decide +kernel, .inr ⟨(fun y z => by cases z), (fun y z => by cases z)⟩⟩
  | bl b => exact ⟨.bool b, .bl b, by cases b <;> decide +kernel, .inr ⟨(fun y z => by cases z), (fun y z => by cases z)⟩⟩
  | int i _ _ => exact ⟨.int i, .int i, by unfold SeqAt.shaped; simp only [PyData.canLay0, PyData.depth]; rfl, .inr ⟨(fun y z => by cases z), (fun y z => by cases z)⟩⟩
  | @lst a l e hp _ => exact ⟨_, .lst (.of e) (dp_strs l), shaped_lst hp, .inr ⟨(fun y z => by cases z), (fun y z => by cases z)⟩⟩
  | @tup a l e hp _ => exact ⟨_, .tup (.inl (.inl e)) (dp_strs l), shaped_tup hp, .inr ⟨(fun y z => by cases z), (fun y z => by cases z)⟩⟩
/-- is it a weir -/
def hasV (AR : List (Addr × Row)) : V → Bool
  | .str y => decide (y ∈ namesOf AR)
  | _ => false
theorem hasV_no {AR : List (Addr × Row)} : ∀ {x : V}, (∀ y, x ≠ .str y) → hasV AR x = false
  | .str y, h => absurd rfl (h y)
  | .non, _ => rfl
  | .bl _, _ => rfl
  | .int _, _ => rfl
  | .flt _, _ => rfl
  | .byt _, _ => rfl
  | .ref _, _ => rfl
  | .ty _, _ => rfl
abbrev GHas (K : PySem.W.Frag) (Cr : Addr) : Hp → Addr → V → Bool → Prop := fun H p x b => ∃ AR, RivAt Cr H p AR ∧ TyS K H x ∧ b = hasV AR x
theorem scContains : FnScope ["self", "x"] ["self", "x"] (defScope sContains) := ⟨rfl, rfl, rfl, by decide +kernel, rfl, by decide +kernel, by decide +kernel⟩
theorem scLen : FnScope ["self"] ["self"] (defScope sLen) := ⟨rfl, rfl, rfl, by decide +kernel, rfl, by decide +kernel, by decide +kernel⟩
section
variable {P : Program} {w : World} {K : PySem.W.Frag} {mg : Str → Option Value} {base : Heap} {tS tM tL : Tok}
theorem ok_contains {f Cr : Addr} {fd : FuncData} (F : FnM K "__contains__" "River.__contains__" sContains f fd) (T : Rv K mg Cr) (B : Bl mg) : FnOk P w K mg base CX0 1 f fd ["self", "x"] (spHas (GHas K Cr)) := by
  refine F.ok scContains (fun vs H Q E h => ?_) (fun cdv A outer s H vs Q E hr h => ?_)
  · obtain ⟨p, x, b, rfl, _⟩ := h
    rfl
  · obtain ⟨p, x, b, rfl, ⟨AR, R, ty, rfl⟩, k⟩ := h
    have hu := hu_of hr
    refine ⟨_, PSs.nox (pss_one
      (ps_ret (pe_and (pe_callB call_isi (by rfl) B.isinstance (by decide +kernel) (pa_cons (pv 1) (pa_cons (pe_bltn (v := .ty "str") (by rfl) B.str (by decide +kernel) rfl) pa_nil))) (pe_one (pe_cmp (pc_din hu (pv 1) (fldK (K := K) (pv 0) rfl)) rfl))))), ?_⟩
    obtain ⟨dx, tw, tr, db, dc, da, du, o, h1, h2, h3, h4, h5, h6, h7, h8, h9⟩ := R.ex
    rcases ty with ⟨y, rfl⟩ | ⟨no, t, ht, kt⟩
    · refine ⟨_, rfl, .str y, .ty "str", _, _, true, rfl, .ty "str", .base (.str y), kit_ty (by decide +kernel), true, rfl, iteT ?_⟩
      refine ⟨_, rfl, _, rfl, p, Cr, dx, _, _, rfl, h1, T.cl, T._below, g7b _ _ _ _ _ _ _, ?_⟩
      by_cases hy : y ∈ namesOf AR
      · refine ⟨db, some (.str (lowR (rowsOf AR) y)), rfl, dget_rn (.inl h5) hy, ?_⟩
        have e : hasV AR (.str y) = true := decide_eq_true hy
        rw [e] at k
        exact k
      · refine ⟨db, none, rfl, .inl ⟨_, Sum.inr y, .inl h5, rfl, (kmap_not hy).symm⟩, ?_⟩
        have e : hasV AR (.str y) = false := decide_eq_false hy
        rw [e] at k
        exact k
    · refine ⟨_, rfl, x, .ty "str", _, _, false, rfl, .ty "str", ht, kt, false, rfl, iteF ?_⟩
      rw [hasV_no no] at k
      exact k
theorem ok_len {f Cr : Addr} {fd : FuncData} (F : FnM K "__len__" "River.__len__" sLen f fd) (T : Rv K mg Cr) (B : Bl mg) : FnOk P w K mg base CX0 1 f fd ["self"] (spLenG (fun H p n => ∃ AR, RivAt Cr H p AR ∧ n = AR.length)) := by
  refine F.ok scLen (fun vs H Q E h => ?_) (fun cdv A outer s H vs Q E hr h => ?_)
  · obtain ⟨p, n, rfl, _⟩ := h
    rfl
  · obtain ⟨p, n, rfl, ⟨AR, R, rfl⟩, hn, k⟩ := h
    refine ⟨_, PSs.nox (pss_one
      (ps_ret (pe_callB (lenK (K := K)) (by rfl) B.len PySem.boot_len (pa_cons (fldK (K := K) (pv 0) rfl) pa_nil)))), ?_⟩
    obtain ⟨dx, tw, tr, db, dc, da, du, o, h1, h2, h3, h4, h5, h6, h7, h8, h9⟩ := R.ex
    refine ⟨_, rfl, p, Cr, dx, _, _, rfl, h1, T.cl, T.weirs, g7w _ _ _ _ _ _ _, tw, _, rfl, .inr (.inl (.inl h2)), ?_⟩
    rw [List.length_map, nmlen]
    exact k
end
end K0
end

/-! ## K1A -/
section
set_option Elab.async false
set_option linter.all false
set_option maxRecDepth 100000
namespace K0
open PySem PySem.Spec PyProof.Rows L2
section
variable {P : Program} {w : World} {K : PySem.W.Frag} {mg : Str → Option Value} {base : Heap} {tS tM tL : Tok}
theorem okN_of {CX : CXT} {x qual : Str} {st : Stmt} {f : Addr} {fd : FuncData} {N ps : List Str} {k : Nat} {sp : Nat → Sp} (F : FnM K x qual st f fd) (S : FnScope N ps (defScope st)) (len : ∀ n vs H Q E, sp n vs H Q E → vs.length = ps.length)
    (hbody : ∀ (cdv : Value) (A : Around) (outer : List Env) (s : Shared) (H : Hp) (vs : List V) (Q : VK) (E : XK), Room k (A.deeper (envOfC qual (defScope st) s.heap.objs.size f cdv)) → sp s.heap.objs.size vs H Q E →
      ∃ t, PSs (cxOf CX P w K mg base N qual (defScope st) f cdv A outer s H E) (defBody st) t ∧ t { nx := fun _ H' => Q .non H', rt := Q } (start N vs) H) : FnOkN P w K mg base CX (k + 1) f fd ps sp := by
  obtain ⟨oc, od, dV, kV, doc, pm, an, cdv, ct, osl, rfl, lk, hcd, _, _⟩ := F.ex
  exact k0_fn_ofN lk hcd S len fun A outer s H vs Q E hr hsp => hbody cdv A outer s H vs Q E hr hsp
theorem scIter : FnScope ["self"] ["self"] (defScope sIter) := ⟨rfl, rfl, rfl, by decide +kernel, rfl, by decide +kernel, by decide +kernel⟩
theorem scRows : FnScope ["self"] ["self"] (defScope sRows) := ⟨rfl, rfl, rfl, by decide +kernel, rfl, by decide +kernel, by decide +kernel⟩
/-- t is the tuple of the weirs of the river at p -/
def WeirsAt (Cr : Addr) (H : Hp) (p t : Addr) : Prop := ∃ dx b c d e g h, H p = some (.ins Cr dx (f7 (.ref t) b c d e g h))
theorem ok_iter {f Cr : Addr} {fd : FuncData} (F : FnM K "__iter__" "River.__iter__" sIter f fd) (T : Rv K mg Cr) (B : Bl mg) : FnOkN P w K mg base CX0 1 f fd ["self"] (spIterT K (WeirsAt Cr)) := by
  refine okN_of F scIter (fun n vs H Q E h => ?_) (fun cdv A outer s H vs Q E hr h => ?_)
  · obtain ⟨p, t, zs, rfl, _⟩ := h
    rfl
  · obtain ⟨p, t, zs, rfl, ⟨dx, b, c, d, e, g, h, hp⟩, hq, k⟩ := h
    refine ⟨_, PSs.nox (pss_one
      (ps_ret (pe_callB k0_cr_iter (by rfl) B.iter (by decide +kernel) (pa_cons (fldK (K := K) (pv 0) rfl) pa_nil)))), ?_⟩
    exact ⟨_, rfl, p, Cr, dx, _, _, rfl, hp, T.cl, T.weirs, g7w _ _ _ _ _ _ _, t, zs, rfl, hq, fun it n1 n2 => k it n1 n2⟩
def spRows (Cr : Addr) : Sp := fun vs H Q _ => ∃ (p : Addr) (AR : List (Addr × Row)), vs = [.ref p] ∧ RivAt Cr H p AR ∧ ∀ l, H l = none → Q (.ref l) (upd H l (.lst (AR.map fun q => .ref q.1)))
theorem ok_rows {f Cr : Addr} {fd : FuncData} (F : FnM K "rows" "River.rows" sRows f fd) (T : Rv K mg Cr) (B : Bl mg) : FnOk P w K mg base CX0 1 f fd ["self"] (spRows Cr) := by
  refine F.ok scRows (fun vs H Q E h => ?_) (fun cdv A outer s H vs Q E hr h => ?_)
  · obtain ⟨p, AR, rfl, _⟩ := h
    rfl
  · obtain ⟨p, AR, rfl, R, k⟩ := h
    refine ⟨_, PSs.nox (pss_one
      (ps_ret (pe_callTy (listK (K := K)) (by rfl) B.list (by decide +kernel) (pa_cons (fldK (K := K) (pv 0) rfl) pa_nil)))), ?_⟩
    obtain ⟨dx, tw, tr, db, dc, da, du, o, h1, h2, h3, h4, h5, h6, h7, h8, h9⟩ := R.ex
    exact ⟨_, rfl, p, Cr, dx, _, _, rfl, h1, T.cl, T._rows, g7r _ _ _ _ _ _ _, tr, _, rfl, .inr (.inl (.inl h3)), fun l nl => k l nl⟩
end
/-! ### NoWeir -/
abbrev sNo : Stmt := inClass (top 4) 0
/-- the class NoWeir at Cn, its __init__ at f -/
structure Nw (P : Program) (K : PySem.W.Frag) (mg : Str → Option Value) (Cn f : Addr) (fd : FuncData) : Prop where
  S : SupF P K mg Cn "__init__" "NoWeir.__init__" (defArgs sNo) (defBody sNo) (defScope sNo) f fd
  hno : PySem.W.findIn K (.ref Cn) "name" = some none
  iC : PySem.W.findIn K (.ref Cn) "__init__" = some (some (.ref f))
  tI : PySem.W.typeIn K (.ref f) = some (.type "function")
  mgN : mg "NoWeir" = some (.ref Cn)
/-- what River's own special methods are -/
structure Sm (K : PySem.W.Frag) (Cr : Addr) : Prop where
  has : ∃ f fd, FnM K "__contains__" "River.__contains__" sContains f fd ∧ PySem.W.findIn K (.ref Cr) "__contains__" = some (some (.ref f)) ∧ PySem.W.isFn K (.ref f) = true
  len : ∃ f fd, FnM K "__len__" "River.__len__" sLen f fd ∧ PySem.W.findIn K (.ref Cr) "__len__" = some (some (.ref f)) ∧ PySem.W.isFn K (.ref f) = true
  iter : ∃ f fd, FnM K "__iter__" "River.__iter__" sIter f fd ∧ PySem.W.findIn K (.ref Cr) "__iter__" = some (some (.ref f)) ∧ PySem.W.isFn K (.ref f) = true
section
variable {P : Program} {w : World} {K : PySem.W.Frag} {mg : Str → Option Value} {base : Heap} {tS tM tL : Tok}
theorem ok_noweir {Cn f : Addr} {fd : FuncData} (N : Nw P K mg Cn f fd) : FnOk P w K mg base CX0 1 f fd ["self", "name"] (spSup K Cn) :=
  ok_sup rfl rfl (by decide +kernel) N.S N.hno (fun _ _ _ _ _ => ⟨_, rfl⟩)
theorem binds_noweir {Cn f : Addr} {fd : FuncData} (N : Nw P K mg Cn f fd) : Binds K fd ["self", "name"] [] := by
  obtain ⟨oc, od, doc, pm, cda, ct, cc, osl, rfl, _⟩ := N.S.ex
  exact .all fun us hl => match us, hl with | [_, _], _ => rfl
/-- what is asked of a weir: an answer, or NoWeir with the value -/
def spAsk (K : PySem.W.Frag) (Cr Cn : Addr) (ok : Hp → Addr → List (Addr × Row) → Str → V → Prop) : Sp := fun vs H Q E => ∃ (p : Addr) (x : V) (AR : List (Addr × Row)), vs = [.ref p, x] ∧ RivAt Cr H p AR ∧ Shown K H x ∧
  (∀ y, x = .str y → y ∈ namesOf AR → ∀ v, ok H p AR y v → Q v H) ∧ (hasV AR x = false → ∀ d, H d = none → E (.ref Cn) (some d) (upd H d (.xd [(("name" : Str), x)])))
abbrev scNeed_N : List Str := ["river", "weir"]
theorem scNeed : FnScope scNeed_N ["river", "weir"] (defScope sNeed) := ⟨rfl, rfl, rfl, by decide +kernel, rfl, by decide +kernel, by decide +kernel⟩
theorem ok_need {f Cr Cn fn : Addr} {fd fdn : FuncData} (F : FnP K "need_weir" sNeed f fd) (N : Nw P K mg Cn fn fdn) (M : Sm K Cr) (T : Rv K mg Cr) (B : Bl mg) : FnOk P w K mg base (L2.CX P w) 3 f fd ["river", "weir"] (spAsk K Cr Cn fun _ _ _ _ v => v = .non) := by
  obtain ⟨fC, fdC, FC, sC, iC⟩ := M.has
  have GC : FnOk P w K mg base CX0 1 fC fdC ["self", "x"] (spHas (GHas K Cr)) := ok_contains FC T B
  have bC : Binds K fdC ["self", "x"] [] := FC.bindsN fun _ _ _ _ _ _ us hl => match us, hl with | [_, _], _ => rfl
  have Gn : FnOk P w K mg base CX0 1 fn fdn ["self", "name"] (spSup K Cn) := ok_noweir N
  have bn := binds_noweir N
  refine F.ok scNeed (fun vs H Q E h => ?_) (fun cdv A outer s H vs Q E hr h => ?_)
  · obtain ⟨p, x, AR, rfl, _⟩ := h
    rfl
  · obtain ⟨p, x, AR, rfl, R, sh, k1, k2⟩ := h
    have hrC : Room 1 _ := hr.mono (by decide)
    refine ⟨_, (pss_one
      (ps_if (pt_cmpR (k0_notIn_own (K := K) GC hrC sC iC bC) (pv 1) (pv 0) (by rfl)) (pss_one
      (ps_raise rfl (takes_of rfl rfl rfl rfl) (pmk_oex N.S.exc N.iC N.tI Gn hr bn .nil (fun _ _ _ _ _ _ _ h => h.elim) (by rfl) N.mgN (pa_cons (pv 1) pa_nil)))) pss_nil)), ?_⟩
    obtain ⟨dx, tw, tr, db, dc, da, du, o, h1, _⟩ := R.ex
    refine ⟨_, rfl, _, rfl, p, dx, _, _, rfl, h1, ⟨AR, R, shown_ty sh, rfl⟩, _, rfl, ?_⟩
    cases hb : hasV AR x with
    | true =>
      refine iteF ?_
      have hx : ∃ y, x = .str y ∧ y ∈ namesOf AR := by
        cases x with
        | str y => exact ⟨y, rfl, of_decide_eq_true hb⟩
        | _ => cases hb
      obtain ⟨y, rfl, hy⟩ := hx
      exact k1 y rfl hy .non rfl
    | false =>
      refine iteT ?_
      refine ⟨_, rfl, by show 1 ≤ 1000; decide, fun a na => ⟨a, x, rfl, upd_same, sh.same fun b o e _ => (upd_ne (ne_of_none e na)).trans e, fun dx n1 n2 => ⟨rfl, dx, [(("name" : Str), x)], upd_same, ?_, ?_, ?_⟩⟩⟩
      · rw [upd_ne n2, upd_same]
      · rw [upd_ne n2] at n1
        exact n1
      · rw [upd_ne n2] at n1
        have e : upd (del (upd (upd (upd H a (exo a Cn none)) dx (exd dx [(("name" : Str), x)])) a (exo a Cn (some dx))) a) dx (.xd [(("name" : Str), x)]) = upd H dx (.xd [(("name" : Str), x)]) := by
          funext b
          by_cases hd : b = dx
          · rw [hd, upd_same, upd_same]
          · rw [upd_ne hd, upd_ne hd]
            by_cases ha : b = a
            · rw [ha, del_same, na]
            · rw [del_ne ha, upd_ne ha, upd_ne hd, upd_ne ha]
        rw [e]
        exact k2 hb dx n1
end
end K0
end

/-! ## K1S -/
section
set_option Elab.async false
set_option linter.all false
set_option maxRecDepth 100000
namespace L2
open PySem PySem.Spec PyProof.Rows
/-- a callee that may let errors out lets none out here -/
theorem passF {P : Program} {w : World} {X : Cx} : Passes (CX P w) X E0 := fun _ _ _ _ _ _ _ h => by
  obtain ⟨_, _, _, _, _, _, _, _, _, _, _, _, h⟩ := h
  exact h.elim
/-! ### o.m(k = v, ..), no value by place -/
section
variable {X : Cx} {CX : CXT} {k n : Nat} {f C : Addr} {fd : FuncData} {ps ks : List Str} {sp : Sp} {m : Str} {apos pos : Pos} {o : Expr} {kws : List Keyword} {ta : TE} {tk : TA} {E : XK} {g : List Value → List Value → List Value} {gV : List V → List V → List V}
def tMethK (C : Addr) (m : Str) (nk : Nat) (sp : Sp) (gV : List V → List V → List V) (E : XK) (ta : TE) (tk : TA) : TE := fun σ H Q => ta σ H fun x H1 => ∃ a dx fs, x = .ref a ∧ H1 a = some (.ins C dx fs) ∧ fs.lookup m = none ∧ tk σ H1 fun zs H2 => zs.length = nk ∧ sp (gV [x] zs) H2 Q E
theorem k0_meth_kw {pl : Sem Bool} (he : PE X o ta) (c : Cls X.K C) (hm : Meth X.K C m f) (F : FnOk X.prog X.w X.K X.mg X.base CX k f fd ps sp) (hr : Room k X.A) (hb : KBn X.K fd ps 1 ks g gV) (hx : Passes CX X E) (hkw : PK X kws tk)
    (hall : (backToKw pos (keywordEach kws X.env)).all (·.1.isSome) = true := by rfl) (hks : (backToKw pos (keywordEach kws X.env)).filterMap (·.1) = ks := by rfl)
    (hpl : ((backTo pos (starEach [] X.env)).any (·.1) || (backToKw pos (keywordEach kws X.env)).any (·.1.isNone)) = false := by rfl)
    (ht : eval (.Call (.Attribute o m apos) [] kws pos) X.env = (do
      let ov ← eval o X.env
      standAt apos.atName
      let (f, first) ← holding [ov] (getMethod ov m pl)
      callWith pos f first (backTo pos (starEach [] X.env)) (backToKw pos (keywordEach kws X.env))) := by rfl) :
    PE X (.Call (.Attribute o m apos) [] kws pos) (tMethK C m ks.length sp gV E ta tk) := by
  refine ⟨fun pins s σ H Q I h => ?_⟩
  refine PySem.W.methodCall_KW (pl := pl) (thn (he.run pins s σ H _ I h) fun u s1 ⟨x, H1, I1, rx, a, dx, fs, ex, ea, l, q⟩ => ?_) ht
  subst ex
  obtain rfl : u = Value.ref a := rx
  refine getmeth_ok I1 ea c hm l ?_
  refine PySem.W.callWith_KW0 (first := [.ref a]) (h₀ := X.base) I1.ok.mod.kin hm.kp hall (thn (hkw.run pos pins s1 σ H1 _ I1 q) fun ws s2 ⟨zs, H2, I2, rz, l2, q2⟩ => ⟨I2.kIn, ?_⟩) hpl
  rw [hks]
  exact run_fnN F hr hb hx I2 (us := [.ref a]) (vs := [.ref a]) (.cons rfl .nil) rz rfl l2 q2
end
theorem k0_vals_rev : ∀ {zs : List V} {ws : List Value}, Vals zs ws → Vals zs.reverse ws.reverse
  | _, _, .nil => .nil
  | _, _, .cons h r => by
    rw [List.reverse_cons, List.reverse_cons]
    exact (k0_vals_rev r).append (.cons h .nil)
/-- the keywords come in the reverse of the parameters' order -/
theorem k0_kbn_rev {K : PySem.W.Frag} {x qual : Str} {params : Arguments} {body : List Stmt} {scope : Scope} {f : Addr} {fd : FuncData} {ps ks : List Str} (F : FunD K x qual params body scope [] [] f fd)
    (h : ∀ (kV doc pm : Value) (an : Option Addr) (cdv ct : Value) (u : Value) (ws : List Value), ws.length = ks.length → bindArgs (PySem.W.fnOf x qual params body scope .none kV doc pm an cdv ct) ⟨[u], ks.zip ws⟩ = pure (ps.zip (u :: ws.reverse))) : KBn K fd ps 1 ks (fun us ws => us ++ ws.reverse) (fun vs zs => vs ++ zs.reverse) := by
  obtain ⟨oc, od, dV, kV, doc, pm, an, cdv, ct, osl, rfl, lk, hcd, hD, hK⟩ := F.ex
  rcases hD with ⟨_, rfl⟩ | ⟨e, _⟩
  · refine ⟨fun s us ws X l1 l2 => ?_, fun r1 r2 => r1.append (k0_vals_rev r2)⟩
    obtain ⟨u, rfl⟩ : ∃ u, us = [u] := by
      match us, l1 with
      | [u], _ => exact ⟨u, rfl⟩
    exact .of_eq (h kV doc pm an cdv ct u ws l2)
  · exact absurd rfl e
end L2
namespace K0
open PySem PySem.Spec PyProof.Rows L2
abbrev sIsDown : Stmt := inClass sRiver 11
abbrev sMeeting : Stmt := inClass sRiver 12
abbrev sWay : Stmt := inClass sRiver 13
abbrev sDownward : Stmt := inClass sRiver 14
theorem kbn_isdown {K : PySem.W.Frag} {f : Addr} {fd : FuncData} (F : FnM K "is_down" "River.is_down" sIsDown f fd) : KBn K fd ["self", "high", "low"] 1 ["low", "high"] (fun us ws => us ++ ws.reverse) (fun vs zs => vs ++ zs.reverse) :=
  k0_kbn_rev F fun _ _ _ _ _ _ u ws hl => match ws, hl with | [_, _], _ => rfl
theorem kbn_meeting {K : PySem.W.Frag} {f : Addr} {fd : FuncData} (F : FnM K "meeting" "River.meeting" sMeeting f fd) : KBn K fd ["self", "one", "other"] 1 ["other", "one"] (fun us ws => us ++ ws.reverse) (fun vs zs => vs ++ zs.reverse) :=
  k0_kbn_rev F fun _ _ _ _ _ _ u ws hl => match ws, hl with | [_, _], _ => rfl
theorem kbn_way {K : PySem.W.Frag} {f : Addr} {fd : FuncData} (F : FnM K "way" "River.way" sWay f fd) : KBn K fd ["self", "intake", "last"] 1 ["last", "intake"] (fun us ws => us ++ ws.reverse) (fun vs zs => vs ++ zs.reverse) :=
  k0_kbn_rev F fun _ _ _ _ _ _ u ws hl => match ws, hl with | [_, _], _ => rfl
end K0
end

/-! ## K1T -/
section
set_option Elab.async false
set_option linter.all false
set_option maxRecDepth 100000
namespace K0
open PySem PySem.Spec PyProof.Rows L2
/-- a tuple of texts -/
def Txt (H : Hp) (v : V) (l : List Str) : Prop := ∃ t, v = .ref t ∧ Rd H t (.tup (l.map V.str))
theorem sea_plain : Plain ("sea" : Str) := by
  intro c hc
  have : c = 115 ∨ c = 101 ∨ c = 97 := by simpa [sea_list, seaL] using hc
  omega
/-! ### NotDown -/
abbrev sNd : Stmt := inClass (top 5) 0
structure Nw2 (P : Program) (K : PySem.W.Frag) (mg : Str → Option Value) (Cd f : Addr) (fd : FuncData) : Prop where
  S : SupF P K mg Cd "__init__" "NotDown.__init__" (defArgs sNd) (defBody sNd) (defScope sNd) f fd
  h1 : PySem.W.findIn K (.ref Cd) "high" = some none
  h2 : PySem.W.findIn K (.ref Cd) "low" = some none
  iC : PySem.W.findIn K (.ref Cd) "__init__" = some (some (.ref f))
  tI : PySem.W.typeIn K (.ref f) = some (.type "function")
  mgN : mg "NotDown" = some (.ref Cd)
theorem exc_end {H H2 : Hp} {a dx : Addr} {o : HO} (na : H a = none) (n : dx ≠ a) (h : ∀ b, b ≠ a → b ≠ dx → H2 b = H b) : upd (del H2 a) dx o = upd H dx o := by
  funext b
  by_cases hd : b = dx
  · rw [hd, upd_same, upd_same]
  · rw [upd_ne hd, upd_ne hd]
    by_cases ha : b = a
    · rw [ha, del_same, na]
    · rw [del_ne ha, h b ha hd]
/-- the first of these that the test lets through, or the sea -/
def meetR (R : List Row) (a b : Str) : Str := (((course R a).filter fun x => decide (x ∈ course R b)).head?).getD "sea"
theorem first_of {p : Str → Bool} {l : List Str} {i : Nat} {x : Str} (h : l[i]? = some x) (h0 : (l.take i).filter p = []) (hp : p x = true) : (l.filter p).head? = some x := by
  have e : l = l.take i ++ x :: l.drop (i + 1) := by
    obtain ⟨hi, ex⟩ := List.getElem?_eq_some_iff.mp h
    rw [← ex, List.getElem_cons_drop, List.take_append_drop]
  rw [e, List.filter_append, h0, List.nil_append, List.filter_cons_of_pos hp]
  rfl
abbrev bad (E : XK) (Cn : Addr) (H : Hp) (x : V) : Prop := ∀ d, H d = none → E (.ref Cn) (some d) (upd H d (.xd [(("name" : Str), x)]))
abbrev badD (E : XK) (Cd : Addr) (H : Hp) (x y : V) : Prop := ∀ d, H d = none → E (.ref Cd) (some d) (upd H d (.xd [(("low" : Str), y), (("high" : Str), x)]))
def spTwo (K : PySem.W.Frag) (Cr Cn : Addr) (ok : List Row → Str → Str → V) : Sp := fun vs H Q E => ∃ (p : Addr) (x y : V) (AR : List (Addr × Row)), vs = [.ref p, x, y] ∧ RivAt Cr H p AR ∧ Shown K H x ∧ Shown K H y ∧
  (∀ a b, x = .str a → y = .str b → a ∈ namesOf AR → b ∈ namesOf AR → Q (ok (rowsOf AR) a b) H) ∧ (hasV AR x = false → bad E Cn H x) ∧ (hasV AR x = true → hasV AR y = false → bad E Cn H y)
abbrev okDown : List Row → Str → Str → V := fun R a b => .bl (decide (b ∈ course R a))
abbrev okMeet : List Row → Str → Str → V := fun R a b => .str (meetR R a b)
def spWay (K : PySem.W.Frag) (Cr Cn Cd : Addr) : Sp := fun vs H Q E => ∃ (p : Addr) (x y : V) (AR : List (Addr × Row)), vs = [.ref p, x, y] ∧ RivAt Cr H p AR ∧ GoodRows (rowsOf AR) ∧ Shown K H x ∧ Shown K H y ∧
  (∀ a, x = .str a → a ∈ namesOf AR → (y = .str "sea" → ∀ v, Txt H v (course (rowsOf AR) a) → Q v H) ∧
    (∀ b, y = .str b → b ∈ course (rowsOf AR) a → ∀ v H', Same H H' → Txt H' v ((course (rowsOf AR) a).take ((course (rowsOf AR) a).idxOf b + 1)) → Q v H') ∧
    (∀ b, y = .str b → b ∈ namesOf AR → b ∉ course (rowsOf AR) a → badD E Cd H x y) ∧ (y ≠ .str "sea" → hasV AR y = false → bad E Cn H y)) ∧ (hasV AR x = false → bad E Cn H x)
theorem has_str {AR : List (Addr × Row)} {x : V} (h : hasV AR x = true) : ∃ y, x = .str y ∧ y ∈ namesOf AR := by
  cases x with
  | str y => exact ⟨y, rfl, of_decide_eq_true h⟩
  | _ => cases h
theorem has_yes {AR : List (Addr × Row)} {y : Str} (h : y ∈ namesOf AR) : hasV AR (.str y) = true := decide_eq_true h
theorem has_no {AR : List (Addr × Row)} {y : Str} {Z : Prop} (h : y ∈ namesOf AR) (n : hasV AR (.str y) = false) : Z := by
  rw [has_yes h] at n
  cases n
theorem scIsDown : FnScope ["self", "high", "low"] ["self", "high", "low"] (defScope sIsDown) := ⟨rfl, rfl, rfl, by decide +kernel, rfl, by decide +kernel, by decide +kernel⟩
theorem scMeeting : FnScope ["self", "one", "other", "weir"] ["self", "one", "other"] (defScope sMeeting) := ⟨rfl, rfl, rfl, by decide +kernel, rfl, by decide +kernel, by decide +kernel⟩
theorem scWay : FnScope ["self", "intake", "last", "course"] ["self", "intake", "last"] (defScope sWay) := ⟨rfl, rfl, rfl, by decide +kernel, rfl, by decide +kernel, by decide +kernel⟩
section
variable {P : Program} {w : World} {K : PySem.W.Frag} {mg : Str → Option Value} {base : Heap} {tS tM tL : Tok}
/-- the function need_weir and what it asks -/
structure Nd (P : Program) (w : World) (K : PySem.W.Frag) (mg : Str → Option Value) (base : Heap) (Cr Cn : Addr) : Prop where
  ex : ∃ f fd, FnP K "need_weir" sNeed f fd ∧ mg "need_weir" = some (.ref f) ∧ FnOk P w K mg base (L2.CX P w) 3 f fd ["river", "weir"] (spAsk K Cr Cn fun _ _ _ _ v => v = .non)
theorem ok_notdown {Cd f : Addr} {fd : FuncData} (N : Nw2 P K mg Cd f fd) : FnOk P w K mg base CX0 1 f fd ["self", "high", "low"] (spSup2 K Cd) :=
  ok_sup2 rfl rfl (by decide +kernel) N.S N.h1 N.h2 (fun _ _ _ _ _ => ⟨_, rfl⟩)
theorem binds_notdown {Cd f : Addr} {fd : FuncData} (N : Nw2 P K mg Cd f fd) : Binds K fd ["self", "high", "low"] [] := by
  obtain ⟨oc, od, doc, pm, cda, ct, cc, osl, rfl, _⟩ := N.S.ex
  exact .all fun us hl => match us, hl with | [_, _, _], _ => rfl
theorem ok_isdown {f Cr Cn : Addr} {fd : FuncData} (F : FnM K "is_down" "River.is_down" sIsDown f fd) (D : Nd P w K mg base Cr Cn) (T : Rv K mg Cr) : FnOk P w K mg base (L2.CX P w) 4 f fd ["self", "high", "low"] (spTwo K Cr Cn okDown) := by
  obtain ⟨fN, fdN, Fneed_weir, gneed_weir, Gneed_weir⟩ := D.ex
  have bneed_weir : Binds K fdN ["river", "weir"] [] := Fneed_weir.bindsN fun _ _ _ _ _ _ us hl => match us, hl with | [_, _], _ => rfl
  refine F.ok scIsDown (fun vs H Q E h => ?_) (fun cdv A outer s H vs Q E hr h => ?_)
  · obtain ⟨p, x, y, AR, rfl, _⟩ := h
    rfl
  · obtain ⟨p, x, y, AR, rfl, R, shx, shy, k1, k2, k3⟩ := h
    have hu := hu_of hr
    have hrneed_weir : Room 3 _ := hr
    refine ⟨_, (pss_cons
      (ps_expr (pe_call Gneed_weir hrneed_weir (by rfl) gneed_weir Fneed_weir.kp bneed_weir .nil (passes_call (takes_of rfl rfl rfl rfl) (fun _ _ _ _ h => h)) (pa_cons (pv 0) (pa_cons (pv 1) pa_nil))))
      (pss_cons
      (ps_expr (pe_call Gneed_weir hrneed_weir (by rfl) gneed_weir Fneed_weir.kp bneed_weir .nil (passes_call (takes_of rfl rfl rfl rfl) (fun _ _ _ _ h => h)) (pa_cons (pv 0) (pa_cons (pv 2) pa_nil))))
      (pss_one
      (ps_ret (pe_cmpR (inK (K := K)) (pv 2) (pe_dget hu (fldK (K := K) (pv 0) rfl) (pv 1) (fun _ _ => rfl)) (by rfl)))))), ?_⟩
    obtain ⟨dx, tw, tr, db, dc, da, du, o, h1, h2, h3, h4, h5, h6, h7, h8, h9⟩ := R.ex
    refine ⟨_, rfl, _, rfl, p, x, AR, rfl, R, shx, fun a ea ha v ev => ?_, k2⟩
    subst ea
    refine ⟨_, rfl, _, rfl, p, y, AR, rfl, R, shy, fun b eb hb v ev => ?_, k3 (has_yes ha)⟩
    subst eb
    obtain ⟨ta, q1, q2⟩ := h6.ex
    refine ⟨_, rfl, _, rfl, p, Cr, dx, _, _, rfl, h1, T.cl, T._courses, g7c _ _ _ _ _ _ _, _, rfl, dc, _, rfl, dget_rn (.inl q1) ha, ta a, _, rfl, .inr (.inl (q2 a ha).rd), rfl, flat_strs _, ?_⟩
    rw [inV_str]
    exact k1 a b rfl rfl ha hb
theorem ok_meeting {f Cr Cn : Addr} {fd : FuncData} (F : FnM K "meeting" "River.meeting" sMeeting f fd) (D : Nd P w K mg base Cr Cn) (T : Rv K mg Cr) (C : Gc mg tS tM tL) : FnOk P w K mg base (L2.CX P w) 4 f fd ["self", "one", "other"] (spTwo K Cr Cn okMeet) := by
  obtain ⟨fN, fdN, Fneed_weir, gneed_weir, Gneed_weir⟩ := D.ex
  have bneed_weir : Binds K fdN ["river", "weir"] [] := Fneed_weir.bindsN fun _ _ _ _ _ _ us hl => match us, hl with | [_, _], _ => rfl
  refine F.ok scMeeting (fun vs H Q E h => ?_) (fun cdv A outer s H vs Q E hr h => ?_)
  · obtain ⟨p, x, y, AR, rfl, _⟩ := h
    rfl
  · obtain ⟨p, x, y, AR, rfl, R, shx, shy, k1, k2, k3⟩ := h
    have hu := hu_of hr
    have hrneed_weir : Room 3 _ := hr
    refine ⟨_, (pss_cons
      (ps_expr (pe_call Gneed_weir hrneed_weir (by rfl) gneed_weir Fneed_weir.kp bneed_weir .nil (passes_call (takes_of rfl rfl rfl rfl) (fun _ _ _ _ h => h)) (pa_cons (pv 0) (pa_cons (pv 1) pa_nil))))
      (pss_cons
      (ps_expr (pe_call Gneed_weir hrneed_weir (by rfl) gneed_weir Fneed_weir.kp bneed_weir .nil (passes_call (takes_of rfl rfl rfl rfl) (fun _ _ _ _ h => h)) (pa_cons (pv 0) (pa_cons (pv 2) pa_nil))))
      (pss_cons
      (ps_for (passes_of rfl) rfl (pi_tup (pe_dget hu (fldK (K := K) (pv 0) rfl) (pv 1) (fun _ _ => rfl))) (pg_name (i := 3) scMeeting.nd rfl (Or.inl rfl)) (pss_one
      (ps_if (pt_cmpR (inK (K := K)) (pv 3) (pe_dget hu (fldK (K := K) (pv 0) rfl) (pv 2) (fun _ _ => rfl)) (by rfl)) (pss_one
      (ps_ret (pv 3))) pss_nil)))
      (pss_one
      (ps_ret (pe_glob (v := .str "sea") (by rfl) C.SEA ⟨_, rfl⟩)))))), ?_⟩
    obtain ⟨dx, tw, tr, db, dc, da, du, o, h1, h2, h3, h4, h5, h6, h7, h8, h9⟩ := R.ex
    refine ⟨_, rfl, _, rfl, p, x, AR, rfl, R, shx, fun a ea ha v ev => ?_, k2⟩
    subst ea
    refine ⟨_, rfl, _, rfl, p, y, AR, rfl, R, shy, fun b eb hb v ev => ?_, k3 (has_yes ha)⟩
    subst eb
    obtain ⟨ta, q1, q2⟩ := h6.ex
    have kk := k1 a b rfl rfl ha hb
    refine ⟨_, rfl, p, Cr, dx, _, _, rfl, h1, T.cl, T._courses, g7c _ _ _ _ _ _ _, _, rfl, dc, _, rfl, dget_rn (.inl q1) ha, ta a, rfl, ⟨_, .inl (q2 a ha).rd⟩, ?_⟩
    refine for_tup (K := K) (a := ta a) (xs := (course (rowsOf AR) a).map V.str) (fun i σ H2 => ∃ v, σ = [some (.ref p), some (.str a), some (.str b), v] ∧ H2 = H ∧ ((course (rowsOf AR) a).take i).filter (fun x => decide (x ∈ course (rowsOf AR) b)) = []) ⟨none, rfl, rfl, rfl⟩ (fun i σ H2 hi h => by
      obtain ⟨v, _, e, _⟩ := h
      rw [e]
      exact .inl (q2 a ha).rd) ?_ ?_
    · rintro i x σ H2 hx ⟨v, rfl, rfl, hn⟩
      rw [List.getElem?_map] at hx
      obtain ⟨z, hz, rfl⟩ := Option.map_eq_some_iff.mp hx
      refine ⟨_, rfl, _, rfl, p, Cr, dx, _, _, rfl, h1, T.cl, T._courses, g7c _ _ _ _ _ _ _, _, rfl, dc, _, rfl, dget_rn (.inl q1) hb, ta b, _, rfl, .inr (.inl (q2 b hb).rd), rfl, flat_strs _, _, rfl, ?_⟩
      rw [inV_str]
      refine ite2 (fun h => ?_) (fun h => ?_)
      · have h : decide (z ∈ course (rowsOf AR) b) = true := h
        refine ⟨_, rfl, ?_⟩
        have e := first_of hz hn h
        have e2 : okMeet (rowsOf AR) a b = .str z := by
          show V.str (meetR (rowsOf AR) a b) = _
          unfold meetR
          rw [e]
          rfl
        rw [e2] at kk
        exact kk
      · have h : ¬ decide (z ∈ course (rowsOf AR) b) = true := h
        refine ⟨_, rfl, rfl, ?_⟩
        rw [filter_take hz, hn, if_neg h]
        rfl
    · rintro σ H2 ⟨v, rfl, rfl, hn⟩
      rw [List.length_map, List.take_length] at hn
      have e2 : okMeet (rowsOf AR) a b = .str "sea" := by
        show V.str (meetR (rowsOf AR) a b) = _
        unfold meetR
        rw [hn]
        rfl
      rw [e2] at kk
      exact kk
theorem ok_way {f Cr Cn Cd fd2 : Addr} {fd fdd : FuncData} (F : FnM K "way" "River.way" sWay f fd) (D : Nd P w K mg base Cr Cn) (N : Nw2 P K mg Cd fd2 fdd) (T : Rv K mg Cr) (C : Gc mg tS tM tL) : FnOk P w K mg base (L2.CX P w) 4 f fd ["self", "intake", "last"] (spWay K Cr Cn Cd) := by
  obtain ⟨fN, fdN, Fneed_weir, gneed_weir, Gneed_weir⟩ := D.ex
  have bneed_weir : Binds K fdN ["river", "weir"] [] := Fneed_weir.bindsN fun _ _ _ _ _ _ us hl => match us, hl with | [_, _], _ => rfl
  have Gn : FnOk P w K mg base CX0 1 fd2 fdd ["self", "high", "low"] (spSup2 K Cd) := ok_notdown N
  have bn := binds_notdown N
  refine F.ok scWay (fun vs H Q E h => ?_) (fun cdv A outer s H vs Q E hr h => ?_)
  · obtain ⟨p, x, y, AR, rfl, _⟩ := h
    rfl
  · obtain ⟨p, x, y, AR, rfl, R, hG, shx, shy, k1, k2⟩ := h
    have hu := hu_of hr
    have hu64 := hr.units
    have hrneed_weir : Room 3 _ := hr
    have hr1 : Room 2 _ := hr.mono (by decide)
    refine ⟨_, (pss_cons
      (ps_expr (pe_call Gneed_weir hrneed_weir (by rfl) gneed_weir Fneed_weir.kp bneed_weir .nil (passes_call (takes_of rfl rfl rfl rfl) (fun _ _ _ _ h => h)) (pa_cons (pv 0) (pa_cons (pv 1) pa_nil))))
      (pss_cons
      (ps_set (i := 3) scWay.nd rfl (Or.inl rfl) (pe_dget hu (fldK (K := K) (pv 0) rfl) (pv 1) (fun _ _ => rfl)))
      (pss_cons
      (ps_if (pt_cmpR (op_eqD hu64) (pv 2) (pe_glob (v := .str "sea") (by rfl) C.SEA ⟨_, rfl⟩) (nomark _)) (pss_one
      (ps_ret (pv 3))) pss_nil)
      (pss_cons
      (ps_expr (pe_call Gneed_weir hrneed_weir (by rfl) gneed_weir Fneed_weir.kp bneed_weir .nil (passes_call (takes_of rfl rfl rfl rfl) (fun _ _ _ _ h => h)) (pa_cons (pv 0) (pa_cons (pv 2) pa_nil))))
      (pss_cons
      (ps_if (pt_cmpR (notInK (K := K)) (pv 2) (pv 3) (by rfl)) (pss_one
      (ps_raise rfl (takes_of rfl rfl rfl rfl) (pmk_oex N.S.exc N.iC N.tI Gn hr1 bn .nil (fun _ _ _ _ _ _ _ h => h.elim) (by rfl) N.mgN (pa_cons (pv 1) (pa_cons (pv 2) pa_nil))))) pss_nil)
      (pss_one
      (ps_ret (pe_slice sl_tupA (pv 3) po_none (po_some (pe_op op_add (k0_bmT PySem.F.slot_tuple_index PySem.F.type_tuple_index mt_tup_index (pv 3) (pa_cons (pv 2) pa_nil)) pe_int)))))))))), ?_⟩
    obtain ⟨dx, tw, tr, db, dc, da, du, o, h1, h2, h3, h4, h5, h6, h7, h8, h9⟩ := R.ex
    refine ⟨_, rfl, _, rfl, p, x, AR, rfl, R, shx, fun a ea ha v ev => ?_, k2⟩
    subst ea
    obtain ⟨ta, q1, q2⟩ := h6.ex
    obtain ⟨k3, k4, k5, k6⟩ := k1 a rfl ha
    obtain ⟨dd, d1, d2, d3⟩ := shown_dp shy
    refine ⟨_, rfl, p, Cr, dx, _, _, rfl, h1, T.cl, T._courses, g7c _ _ _ _ _ _ _, _, rfl, dc, _, rfl, dget_rn (.inl q1) ha, ?_⟩
    refine ⟨_, rfl, dd, .str "sea", d1, .str "sea", d2, shaped_str sea_plain, _, rfl, ?_⟩
    have hcase : (PyData.eqv dd (.str "sea") = true ∧ y = .str "sea") ∨ (PyData.eqv dd (.str "sea") = false ∧ y ≠ .str "sea") := by
      rcases d3 with ⟨z, rfl, rfl⟩ | ⟨no, nod⟩
      · by_cases hy : z = "sea"
        · subst hy
          exact .inl ⟨by simp only [PyData.eqv]; decide +kernel, rfl⟩
        · refine .inr ⟨?_, fun e => hy (V.str.inj e)⟩
          simp only [PyData.eqv]
          simpa using hy
      · refine .inr ⟨?_, no _⟩
        cases dd with
        | str z => exact absurd rfl (nod z)
        | _ => simp only [PyData.eqv]
    rcases hcase with ⟨e, ey⟩ | ⟨e, ey⟩
    · rw [e]
      refine iteT ?_
      exact ⟨_, rfl, k3 ey _ ⟨_, rfl, (q2 a ha).rd⟩⟩
    · rw [e]
      refine iteF ?_
      refine ⟨_, rfl, _, rfl, p, y, AR, rfl, R, shy, fun b eb hb v ev => ?_, fun nb => k6 ey nb⟩
      subst eb
      refine ⟨_, rfl, _, rfl, ta a, _, rfl, .inr (.inl (q2 a ha).rd), rfl, flat_strs _, _, rfl, ?_⟩
      rw [inV_str]
      have hmost : (course (rowsOf AR) a).length ≤ 40 := by
        obtain ⟨m, c⟩ := course_is hG ha
        rw [c.eq, List.length_map, List.length_range]
        exact Nat.le_trans c.most hG.most
      by_cases hin : b ∈ course (rowsOf AR) a
      · rw [decide_eq_true hin]
        refine iteF ?_
        have hlt := List.idxOf_lt_length_iff.mpr hin
        have hat : (course (rowsOf AR) a)[(course (rowsOf AR) a).idxOf b]? = some b := by
          rw [List.getElem?_eq_getElem hlt, List.getElem_idxOf]
        have hfst : ∀ m, m < (course (rowsOf AR) a).idxOf b → (course (rowsOf AR) a)[m]? ≠ some b := fun m hm e => by
          have q := List.not_of_lt_findIdx (p := fun z => z == b) (xs := course (rowsOf AR) a) hm
          obtain ⟨hml, e2⟩ := List.getElem?_eq_some_iff.mp e
          rw [e2, beq_self_eq_true] at q
          cases q
        have hl : ((course (rowsOf AR) a).map V.str).length = (course (rowsOf AR) a).length := List.length_map _
        have haf := q2 a ha
        obtain ⟨ot, pt, et⟩ := id haf
        refine ⟨_, rfl, ?_⟩
        refine ⟨_, rfl, ⟨ta a, ot, _, rfl, et, pt⟩, ?_⟩
        refine ⟨_, rfl, ta a, course (rowsOf AR) a, b, (course (rowsOf AR) a).idxOf b, rfl, rfl, .inl haf.rd, hat, hfst, ?_⟩
        refine ⟨_, _, rfl, rfl, ?_⟩
        have es : HT.sIx ((course (rowsOf AR) a).map V.str).length ((course (rowsOf AR) a).map V.str).length (some (((course (rowsOf AR) a).idxOf b : Int) + 1)) = (course (rowsOf AR) a).idxOf b + 1 := by
          have e := HT.sIx_nat ((course (rowsOf AR) a).map V.str).length ((course (rowsOf AR) a).map V.str).length ((course (rowsOf AR) a).idxOf b + 1)
          rw [Int.natCast_add] at e
          have e : HT.sIx ((course (rowsOf AR) a).map V.str).length ((course (rowsOf AR) a).map V.str).length (some (((course (rowsOf AR) a).idxOf b : Int) + 1)) = min ((course (rowsOf AR) a).idxOf b + 1) ((course (rowsOf AR) a).map V.str).length := e
          rw [e, hl]
          omega
        refine ⟨_, rfl, ta a, _, rfl, .inl haf.rd, fun hw => ?_, fun hw t nt => ?_⟩
        · have hw2 := hw.2
          rw [es, hl] at hw2
          refine k4 b rfl hin _ H (.refl _) ⟨ta a, rfl, ?_⟩
          rw [List.take_of_length_le (by omega)]
          exact haf.rd
        · refine k4 b rfl hin _ _ (same_upd nt) ⟨t, rfl, .inl ?_⟩
          rw [upd_same]
          unfold cutV
          rw [es, HT.sIx_none, List.drop_zero, Nat.sub_zero, List.map_take]
      · rw [decide_eq_false hin]
        refine iteT ?_
        refine ⟨_, rfl, _, rfl, by show 2 ≤ 1000; decide, fun z nz => ⟨z, .str a, .str b, rfl, upd_same, shx.same fun c o e _ => (upd_ne (ne_of_none e nz)).trans e, shy.same fun c o e _ => (upd_ne (ne_of_none e nz)).trans e, fun ex n1 n2 => ⟨rfl, ex, [(("low" : Str), .str b), (("high" : Str), .str a)], ?_, upd_same, ?_, ?_⟩⟩⟩
        · rw [upd_ne n2.symm, upd_same]
        · rw [upd_ne n2] at n1
          exact n1
        · rw [upd_ne n2] at n1
          rw [exc_end nz n2 fun c hc1 hc2 => by rw [upd_ne hc2, upd_ne hc1, upd_ne hc2, upd_ne hc1]]
          exact k5 b rfl hb hin ex n1
end
end K0
end

/-! ## K1D -/
section
set_option Elab.async false
set_option linter.all false
set_option maxRecDepth 100000
namespace K0
open PySem PySem.Spec PyProof.Rows L2
theorem iteYes {c A B : Prop} [Decidable c] (hc : ¬ c) (h : A) : if (!decide c) = true then A else B := by
  rw [decide_eq_false hc]
  exact iteT h
theorem iteNo {c A B : Prop} [Decidable c] (hc : ¬ ¬ c) (h : B) : if (!decide c) = true then A else B := by
  rw [decide_eq_true (Decidable.not_not.mp hc)]
  exact iteF h
theorem low_sea {R : List Row} (g : GoodRows R) : lowR R "sea" = "sea" := by
  unfold lowR
  cases e : R.find? (fun r => decide (r.1 = ("sea" : Str))) with
  | none => rfl
  | some r =>
    have h1 := List.mem_of_find?_eq_some e
    have h0 := List.find?_some e
    have h2 := of_decide_eq_true h0
    exact absurd h2 (g.nm.sea _ (List.mem_map.mpr ⟨r, h1, rfl⟩))
theorem itr_sea {low : Str → Str} (h : low "sea" = "sea") : ∀ n, itr low n "sea" = "sea"
  | 0 => rfl
  | n + 1 => by
    show low (itr low n "sea") = "sea"
    rw [itr_sea h n, h]
theorem crs_snoc {low : Str → Str} (h : low "sea" = "sea") : ∀ (n : Nat) (x : Str), crs low (n + 1) x = crs low n x ++ (if itr low n x = "sea" then [] else [itr low n x])
  | 0, x => rfl
  | n + 1, x => by
    show (if x = "sea" then [] else x :: crs low (n + 1) (low x)) = (if x = "sea" then [] else x :: crs low n (low x)) ++ _
    rw [itr_shift]
    by_cases hx : x = "sea"
    · subst hx
      rw [if_pos rfl, if_pos rfl, h, itr_sea h n, if_pos rfl]
      rfl
    · rw [if_neg hx, if_neg hx, crs_snoc h n (low x)]
      rfl
theorem itr_in {R : List Row} (g : GoodRows R) {x : Str} (hx : x ∈ nmsOf R) : ∀ n, itr (lowR R) n x = "sea" ∨ itr (lowR R) n x ∈ nmsOf R
  | 0 => .inr hx
  | n + 1 => by
    show lowR R (itr (lowR R) n x) = "sea" ∨ lowR R (itr (lowR R) n x) ∈ nmsOf R
    rcases itr_in g hx n with e | e
    · rw [e]
      exact .inl (low_sea g)
    · obtain ⟨r, hr, e1, e2⟩ := low_row e
      obtain ⟨rk, hk⟩ := g.rank
      rw [← e2]
      rcases hk r hr with z | ⟨z, _⟩
      · exact .inl z
      · exact .inr z
theorem merge_rows {R : List Row} : ∀ {Q : List Row} {ns : List Str}, (ns ++ Q.map (·.1)).Nodup → (∀ r ∈ Q, lowR R r.1 = r.2) → mergeK (kmap (fun y => .str (lowR R y)) ns) (Q.map fun r => ((Sum.inr r.1 : Key), V.str r.2)) = kmap (fun y => .str (lowR R y)) (ns ++ Q.map (·.1))
  | [], ns, _, _ => by
    show kmap (fun y => V.str (lowR R y)) ns = kmap (fun y => V.str (lowR R y)) (ns ++ [])
    rw [List.append_nil]
  | r :: Q, ns, hd, hl => by
    have hd2 : ((ns ++ [r.1]) ++ Q.map (·.1)).Nodup := by
      rw [List.append_assoc]
      exact hd
    have hn : r.1 ∉ ns := fun z => by
      have := List.nodup_append.mp hd
      exact this.2.2 r.1 z r.1 (by rw [List.map_cons]; exact List.mem_cons_self) rfl
    have ih := merge_rows (Q := Q) hd2 fun q hq => hl q (List.mem_cons_of_mem _ hq)
    have e1 : putK (kmap (fun y => V.str (lowR R y)) ns) (Sum.inr r.1) (V.str r.2) = kmap (fun y => V.str (lowR R y)) (ns ++ [r.1]) := by
      have := kmap_put (f := fun y => V.str (lowR R y)) hn
      rw [hl r List.mem_cons_self] at this
      exact this
    show mergeK (putK (kmap (fun y => V.str (lowR R y)) ns) (Sum.inr r.1) (V.str r.2)) (Q.map fun r => ((Sum.inr r.1 : Key), V.str r.2)) = _
    rw [e1, ih, List.append_assoc]
    rfl
theorem merge_all {R : List Row} (g : GoodRows R) : mergeK [] (R.map fun r => ((Sum.inr r.1 : Key), V.str r.2)) = belowK R :=
  merge_rows (R := R) (Q := R) (ns := []) (by simpa using g.nm.nd) fun r hr => low_at g.nm.nd hr
theorem rows_pairs {K : PySem.W.Frag} {H : Hp} : ∀ {AR : List (Addr × Row)}, (∀ q ∈ AR, H q.1 = some (.tup [.str q.2.1, .str q.2.2])) → Paired (fun p (kv : Key × V) => SqT K H p [kV kv.1, kv.2]) (AR.map (·.1)) ((rowsOf AR).map fun r => ((Sum.inr r.1 : Key), V.str r.2))
  | [], _ => .nil
  | q :: AR, h => .cons (.inl (.inl (h q List.mem_cons_self))) (rows_pairs fun z hz => h z (List.mem_cons_of_mem _ hz))
abbrev scLCourse_N : List Str := ["_law_rows", "_law_weir", "_law_below", "_law_found", "_law_k"]
theorem scLCourse : FnScope scLCourse_N ["_law_rows", "_law_weir"] (defScope sLCourse) := ⟨rfl, rfl, rfl, by decide +kernel, rfl, by decide +kernel, by decide +kernel⟩
def spLCourse : Sp := fun vs H Q _ => ∃ (l : Addr) (AR : List (Addr × Row)) (y : Str), vs = [.ref l, .str y] ∧ RowsAt H l AR ∧ GoodRows (rowsOf AR) ∧ y ∈ namesOf AR ∧
  ∀ (H' : Hp) (c : Addr), Same H H' → H c = none → H' c = some (.lst ((course (rowsOf AR) y).map V.str)) → Q (.ref c) H'
section
variable {P : Program} {w : World} {K : PySem.W.Frag} {mg : Str → Option Value} {base : Heap} {tS tM tL : Tok}
theorem ok_lcourse {f : Addr} {fd : FuncData} (F : FnP K "_law_course" sLCourse f fd) (B : Bl mg) : FnOk P w K mg base CX0 1 f fd ["_law_rows", "_law_weir"] spLCourse := by
  refine F.ok scLCourse (fun vs H Q E h => ?_) (fun cdv A outer s H vs Q E hr h => ?_)
  · obtain ⟨l, AR, y, rfl, _⟩ := h
    rfl
  · obtain ⟨l, AR, y, rfl, hR, hG, hy, k⟩ := h
    have hu := hu_of hr
    refine ⟨_, PSs.nox (pss_cons
      (ps_par (i := 2) (j := 3) (by rfl) scLCourse.nd rfl rfl (by decide) rfl rfl (pa_cons (pe_callTy (call_dictP rfl) (by rfl) B.dict (by decide +kernel) (pa_cons (pv 0) pa_nil)) (pa_cons (pe_lst pa_nil) pa_nil)) (by rfl))
      (pss_cons
      (ps_for PassesOwn.never rfl (pi_range1 (by rfl) B.range (pa_cons (pe_callB (lenK (K := K)) (by rfl) B.len PySem.boot_len (pa_cons (pv 0) pa_nil)) pa_nil)) (pg_name (i := 4) scLCourse.nd rfl (Or.inl rfl)) (pss_one
      (ps_if (pt_cmpR op_ne (pv 1) pe_str (nomark _)) (pss_cons
      (ps_expr (pe_bm PySem.F.plainAttrs_list PySem.F.slot_list_append PySem.F.type_list_append mt_append (pv 3) (pa_cons (pv 1) pa_nil)))
      (pss_one
      (ps_set (i := 1) scLCourse.nd rfl (Or.inl rfl) (pe_dget hu (pv 2) (pv 1) (fun _ _ => rfl))))) pss_nil)))
      (pss_one
      (ps_ret (pv 3))))), ?_⟩
    have hRm := hG.most
    have hAl : (rowsOf AR).length = AR.length := List.length_map _
    refine ⟨_, rfl, l, AR.map (·.1), (rowsOf AR).map fun r => ((Sum.inr r.1 : Key), V.str r.2), rfl, ?_, rows_pairs hR.tup, fun d nd => ?_⟩
    · rw [List.map_map]
      exact .inl (.inl hR.lst)
    rw [merge_all hG]
    refine ⟨Nat.zero_le _, fun c nc => ⟨_, _, rfl, ?_⟩⟩
    have ndc : d ≠ c := ne_of_none upd_same nc
    have nc0 : H c = none := by
      rw [upd_ne ndc.symm] at nc
      exact nc
    have s1 : Same H (upd (upd H d (.dK (belowK (rowsOf AR)))) c (.lst [])) := (same_upd nd).trans (same_upd nc)
    refine ⟨_, rfl, l, _, rfl, .inl (.inl (.inl (s1 _ _ hR.lst))), ((AR.map fun q => V.ref q.1).length : Int), rfl, by omega, by rw [List.length_map]; omega, ?_⟩
    refine for_range (n := (AR.map fun q => V.ref q.1).length) (lo := 0) (fun i σ H2 => ∃ v, σ = [some (.ref l), some (.str (itr (lowR (rowsOf AR)) i y)), some (.ref d), some (.ref c), v] ∧ Same H H2 ∧ H2 d = some (.dK (belowK (rowsOf AR))) ∧ H2 c = some (.lst ((crs (lowR (rowsOf AR)) i y).map V.str)) ∧ (crs (lowR (rowsOf AR)) i y).length ≤ i)
      ⟨none, rfl, s1, by rw [upd_ne ndc, upd_same], upd_same, Nat.le_refl _⟩ ?_ ?_
    · rintro i σ H2 hi ⟨v, rfl, s2, hd2, hc2, hl2⟩
      have hls := low_sea hG
      refine ⟨_, rfl, rfl, ?_⟩
      have hcz := crs_snoc hls i y
      rcases itr_in hG hy i with e | e
      · have ec : crs (lowR (rowsOf AR)) (i + 1) y = crs (lowR (rowsOf AR)) i y := by rw [hcz, if_pos e, List.append_nil]
        have ei : itr (lowR (rowsOf AR)) (i + 1) y = itr (lowR (rowsOf AR)) i y := by
          show lowR (rowsOf AR) (itr (lowR (rowsOf AR)) i y) = _
          rw [e, hls]
        refine ⟨_, rfl, ?_⟩
        refine iteNo (fun z => z (congrArg V.str e)) ?_
        exact ⟨_, by rw [ei]; rfl, s2, hd2, by rw [ec]; exact hc2, by rw [ec]; omega⟩
      · have en : itr (lowR (rowsOf AR)) i y ≠ "sea" := hG.nm.sea _ e
        have ec : crs (lowR (rowsOf AR)) (i + 1) y = crs (lowR (rowsOf AR)) i y ++ [itr (lowR (rowsOf AR)) i y] := by rw [hcz, if_neg en]
        refine ⟨_, rfl, ?_⟩
        refine iteYes (fun z => en (V.str.inj z)) ?_
        have hi40 : i ≤ 40 := by rw [List.length_map] at hi; omega
        have dc : d ≠ c := ne_of hd2 hc2 (fun z => by cases z)
        refine ⟨_, rfl, .inl ⟨rfl, _, .inl (.inl hc2)⟩, _, rfl, c, _, _, rfl, rfl, hc2, by rw [List.length_map]; exact small1000 (by omega), ?_⟩
        refine ⟨_, rfl, _, rfl, d, _, rfl, dget_rn (.inl ((upd_ne dc).trans hd2)) e, ?_⟩
        refine ⟨_, rfl, fun b o hb => ?_, (upd_ne dc).trans hd2, ?_, ?_⟩
        · rw [upd_ne (ne_of_none hb nc0)]
          exact s2 b o hb
        · rw [upd_same, ec, List.map_append]
          rfl
        · rw [ec, List.length_append]
          show _ + 1 ≤ i + 1
          omega
    · rintro σ H2 ⟨v, rfl, s2, hd2, hc2, hl2⟩
      have en : (AR.map fun q => V.ref q.1).length = (rowsOf AR).length := by rw [List.length_map, hAl]
      rw [en] at hc2
      exact ⟨_, rfl, k H2 c s2 nc0 hc2⟩
end
end K0
end

/-! ## K1J -/
section
set_option Elab.async false
set_option linter.all false
set_option maxRecDepth 100000
set_option maxHeartbeats 4000000
namespace L2
open PySem PySem.Spec PyProof.Rows
/-- isinstance of a caught error that has a dict -/
theorem k0_kitx {K : PySem.W.Frag} {x D : Addr} {ox : Obj} (C : ExcC K D) : PySem.W.KitX K (.ref x) (.ref D) (fun h => ∃ od, PySem.W.InstAt h x ox D od) where
  ty := fun _ _ _ I => by
    obtain ⟨od, I⟩ := I
    exact I.type
  it := fun _ _ X _ => by
    obtain ⟨cdD, hcD, _⟩ := PySem.W.any_some C.hd
    unfold PySem.W.clsIn at hcD
    split at hcD
    · rename_i c' d' cd' sl' ho
      intro A' Q' E' s' k q
      unfold isType loadHead
      exact wpAny_bind (wpAny_loadPart (k _ _ (X _ _ ho)) (wpAny_pure q))
    · cases hcD
  ne := fun h tp dd its n sl X htp => (PySem.W.handS_kitx_exc (x := x) (ox := ox) C.hg C.hk C.hs C.hd C.ha C.hn C.ht C.hm).ne h tp dd its n sl X htp
  ca := fun X ⟨od, I⟩ k => PySem.W.kx_classE X I C.hg C.hk C.hs (PySem.W.findObj_dataE (by obtain ⟨cd, hc, _⟩ := PySem.W.any_some C.hd; rw [hc]; rfl) C.ha C.hn C.ht) C.hm k
def rIsED (K : PySem.W.Frag) (a : Addr) (cls : Value) (d : Option Addr) : List V → Hp → VK → Prop := fun xs H Q => ∃ (c : V) (cv : Value) (b : Bool) (D dd : Addr) (fs : List (Str × V)), xs = [.ref a, c] ∧ cls = .ref D ∧ d = some dd ∧ ExcC K D ∧ H dd = some (.xd fs) ∧ (∀ u, RelV c u → u = cv) ∧ PySem.W.kitOne K (.ref D) cv = some b ∧ Q (.bl b) H
theorem k0_isE {X : Cx} {a : Addr} {oe : Obj} {cls : Value} {d : Option Addr} {pn : List (Addr × Obj)} (hz : Zc cls d oe) (hf : ∃ vs, oe.data = .fields vs) : CallR (X.suite a ((a, oe) :: pn)) (.builtin "isinstance") (rIsED X.K a cls d) := by
  intro pins s σ H xs us Q I r h
  obtain ⟨c, cv, b, D, dd, fs, rfl, rfl, rfl, C, ea, hcv, e, q⟩ := h
  cases r with
  | cons rx rr =>
    cases rr with
    | cons rt rr =>
      cases rr
      cases rx
      have ec := hcv _ rt
      subst ec
      obtain ⟨hget, _⟩ := I.pin (a, oe) (List.mem_append.mpr (.inl List.mem_cons_self))
      obtain ⟨vs, hv⟩ := hf
      have hx : ObjOk X.prog X.w H s.heap dd (.xd fs) := I.hok dd _ ea
      obtain ⟨mA, hns, hr⟩ := hx
      obtain ⟨od, ho, hl⟩ := lookIn_ns hns
      have J : PySem.W.InstAt s.heap a oe D (some od) := ⟨hget, hz.1, by unfold PySem.W.notCls; rw [hv], by rw [hz.2]; exact ho⟩
      exact PySem.W.kia_one (k0_kitx C) I.kIn ⟨_, J⟩ e (fun z => nomatch z) fun tk => ⟨.bl b, H, I.kept (t' := tk) fun _ _ z => z, rfl, q⟩
end L2
namespace LamX
open PySem PySem.Spec PyProof.Rows L2
/-! ### x(lambda: body, b) -/
section
variable {X : Cx} {pins : List (Addr × Obj)} {σ : L2.St} {H : Hp} {s : Shared}
/-- x(), in the def that got the lambda; what may be let out is wished for the slots as they stand at the call -/
theorem pe_act2 {CXg : CXT} {Eg : XK} {Ng : List Str} {qg : Str} {sg : Scope} {g f c' : Addr} {cdg pm ctv : Value} {params : Arguments} {body : Expr} {scope : Scope} {k i : Nat} {a : Str} {pn : List (Addr × Obj)} {xe : Value → Shared → Prop} {W : WX} {tb : XK → TE} {p1 p2 : Pos}
    (I : Inv X pins σ H s) (L : LamS X.env.scope scope) (hf : s.heap.get? f = some (PySem.W.kla_obj "<lambda>" (X.env.qual ++ "<lambda>") params body scope (cloFrom X.env.cells scope.names []) pm c' ctv)) (hfn : H f = none) (hfr : f ∉ frs X.stack)
    (hbind : bindArgs (PySem.W.kla_fn "<lambda>" (X.env.qual ++ "<lambda>") params body scope (cloFrom X.env.cells scope.names []) pm (.ref c') ctv) ⟨[], []⟩ = pure [])
    (tk : Takes ((cxOf CXg X.prog X.w X.K X.mg X.base Ng qg sg g cdg X.A X.stack s H Eg).tr pn xe) W) (hr : Room (k + 1) (X.A.deeper (envOfC qg sg s.heap.objs.size g cdg)))
    (hbody : ∀ (E : XK) (A : Around) (outer : List Env) (s : Shared) (H : Hp), Room k (A.deeper (lamEnv X scope s.heap.objs.size f c')) → PE (lamCx X A outer s H E scope f c') body (tb E))
    (hN : Ng[i]? = some a) (hv : Vis sg a) (hd : (a == ("__debug__" : Str)) = false := by decide) (hcd : (a == ("__classdict__" : Str)) = false := by decide) :
    PE ((cxOf CXg X.prog X.w X.K X.mg X.base Ng qg sg g cdg X.A X.stack s H Eg).tr pn xe) (.Call (.Name a p1) [] [] p2)
      (fun σZ HZ Q => σZ[i]? = some (some (.ref f)) ∧ HZ c' = some (CodeO c' (X.env.qual ++ "<lambda>")) ∧ ∃ E : XK, (∀ cls d H', E cls d H' → W cls d σZ H') ∧ tb E σ HZ Q) := by
  refine ⟨fun pinsZ sZ σZ HZ Q IZ h => ?_⟩
  obtain ⟨hs, hc, E, hW, ht⟩ := h
  refine wpAny_Call_Name_kw (thn ((pe_var (pos := p1) (i := i) hN hv hd hcd).run pinsZ sZ σZ HZ (fun v H1 => v = .ref f ∧ H1 = HZ) IZ ⟨.ref f, hs, rfl, rfl⟩) fun u s1 ⟨v, H1, I1, r1, ev, eH⟩ => ?_)
  subst ev
  rw [eH] at I1
  obtain rfl : u = Value.ref f := r1
  have of1 := I1.base.keep f _ hf hfn hfr (fun z => nomatch (show f ∈ ([] : List Addr) from z))
  have un : Un (frs X.stack) [] H HZ s.heap s1.heap := I1.base
  obtain ⟨⟨oc, vs, t, hoc, hdc, hvc⟩, _, _⟩ := I1.hok c' _ hc
  refine PySem.W.callWith_F0 ⟨_, _, _, _, of1⟩ (wpAny_call (codeAny_mono (R := CR (L2.CX X.prog X.w) (envOfC qg sg s.heap.objs.size g cdg :: X.stack) X.prog X.w HZ s1 Q E) ?_ fun r s' hq => ?_))
  · refine PySem.W.kla_callFunE hr.depth of1 rfl L.co L.gen rfl ⟨c', oc, vs, t, rfl, hoc, hdc, hvc⟩ ?_
    refine wpAny_of_eq (a := []) hbind (wpAny_newFunctionEnv (fun y hy => (L.own y hy).2) (fun y hy => nomatch hy) (fun h₁ hns hsb => ⟨I1.nolimit.fresh _ hsb, ?_⟩) L.kind)
    have J := lam_start2 (f := f) (c' := c') (E := E) (tk := s1.toks) I L I1.env0 hr.hd un hns fun b o e => hsb.extBut b o (Nat.ne_of_lt (Heap.lt_size e)) (Heap.get?_push_of_some _ e)
    refine PySem.W.kla_codeExpr (wpAny_mono ((hbody E _ _ s1 HZ (hr.deeper _)).run [] _ _ HZ Q J ht) (fun v s' hq => ?_) fun e s' hq => hq)
    obtain ⟨v', H', J', rv, q⟩ := hq
    exact ⟨v', H', J'.os, J'.bare, J'.base, J'.hok, rv, q⟩
  · cases r with
    | error e => exact tk e s' (XE.of_call I1 (fun cls d H' h => hW cls d H' h) hq)
    | ok fl =>
      cases fl with
      | ret u => exact I1.after hq
      | next => exact False.elim hq
      | brk => exact False.elim hq
      | cont => exact False.elim hq
end
def GivesTo1 (X : Cx) (Ng : List Str) (x : Str) (sg : Scope) (g : Addr) (cdg : Value) (bg : List Stmt) (a : Str) (q : Str) (TT : (XK → Hp → VK → Prop) → Hp → VK → Prop) : Prop :=
  ∀ (f c' : Addr) (s : Shared) (H : Hp) (Q : VK) (tl : XK → Hp → VK → Prop), Room 0 ((cxOf C8.CX0 X.prog X.w X.K X.mg X.base Ng x sg g cdg X.A X.stack s H C8.E0).A) →
    (∀ (W : WX) (pn : List (Addr × Obj)) (xe : Value → Shared → Prop) (p1 p2 : Pos), Takes ((cxOf C8.CX0 X.prog X.w X.K X.mg X.base Ng x sg g cdg X.A X.stack s H C8.E0).tr pn xe) W →
      PE ((cxOf C8.CX0 X.prog X.w X.K X.mg X.base Ng x sg g cdg X.A X.stack s H C8.E0).tr pn xe) (.Call (.Name a p1) [] [] p2) (fun σZ HZ Q => σZ[0]? = some (some (.ref f)) ∧ HZ c' = some (CodeO c' q) ∧ ∃ E : XK, (∀ cls d H', E cls d H' → W cls d σZ H') ∧ tl E HZ Q)) →
    H c' = some (CodeO c' q) → TT tl H Q →
    ∃ t, PSs (cxOf C8.CX0 X.prog X.w X.K X.mg X.base Ng x sg g cdg X.A X.stack s H C8.E0).nox bg t ∧ t { nx := fun _ H' => Q .non H', rt := Q } (L2.start Ng [.ref f]) H
def tLam1 (T : List (Addr × Str)) (TT : (XK → Hp → VK → Prop) → Hp → VK → Prop) (t : XK → TE) : TE := fun σ H Q => Tabs T H ∧ ∀ H1, ExtN H H1 → Tabs T H1 → TT (fun E H' Q' => t E σ H' Q') H1 Q
section
variable {X : Cx}
theorem pe_lamcall1 {T : List (Addr × Str)} {TT : (XK → Hp → VK → Prop) → Hp → VK → Prop} {x a : Str} {g c P : Addr} {k : Nat} {pg : Arguments} {bg : List Stmt} {sg : Scope} {dV kV doc pm cdv ct oc : Value} {an od : Option Addr} {osl : Array (Option Value)} {Ng : List Str}
    {params : Arguments} {body : Expr} {scope : Scope} {t : XK → TE} {p lpos pos : Pos} (hg : Gl X x) (hm : X.mg x = some (.ref g)) (hk : PySem.W.keepIn X.K (.ref g) = true)
    (lk : X.K.lookup g = some ⟨oc, od, .func (PySem.W.fnOf x x pg bg sg dV kV doc pm an cdv ct), osl⟩) (hcg : PySem.W.codeIn X.K cdv x = true) (hb : L2.Binds X.K (PySem.W.fnOf x x pg bg sg dV kV doc pm an cdv ct) [a] []) (Sg : FnScope Ng [a] sg) (hNg : Ng[0]? = some a) (hva : Vis sg a)
    (hG : GivesTo1 X Ng x sg g cdv bg a (X.env.qual ++ "<lambda>") TT)
    (TB : TabB X.base X.mg c P) (hcode : X.env.code = .ref c) (hmT : (P, X.env.qual ++ "<lambda>") ∈ T) (hu : ∀ p ∈ T, p.1 = P → p.2 = X.env.qual ++ "<lambda>") (hr : Room (k + 2) X.A) (L : LamS X.env.scope scope) (hdef : defaultsOf params X.env = ([], []))
    (hs : X.stack = X.env :: X.outer) (hfr : X.env.frame = some X.env.locals)
    (hbind : ∀ (q : Str) (cl : List (Str × Addr)) (pm cv ctv : Value), bindArgs (PySem.W.kla_fn "<lambda>" q params body scope cl pm cv ctv) ⟨[], []⟩ = pure [])
    (hbody : ∀ (A : Around) (outer : List Env) (s : Shared) (H : Hp) (E : XK) (f c' : Addr), Room k (A.deeper (lamEnv X scope s.heap.objs.size f c')) → PE (lamCx X A outer s H E scope f c') body (t E))
    (hst : starEach [.Lambda params body scope lpos] X.env = (false, eval (.Lambda params body scope lpos) X.env) :: starEach [] X.env := by rfl)
    (hdb : (x == ("__debug__" : Str)) = false := by decide) (hd : (a == ("__debug__" : Str)) = false := by decide) (hcd : (a == ("__classdict__" : Str)) = false := by decide) :
    PE X (.Call (.Name x p) [.Lambda params body scope lpos] [] pos) (tLam1 T TT t) := by
  refine ⟨fun pins s σ H Q I h => ?_⟩
  obtain ⟨hT, h⟩ := h
  refine wpAny_Call_Name_kw (ld_glob I hg hm ?_ hdb)
  refine PySem.W.callWith_K (h₀ := X.base) I.ok.mod.kin hk ?_ hst rfl
  rw [hst]
  show wpAny _ _ (spliced ((false, eval (.Lambda params body scope lpos) X.env) :: backTo pos (starEach [] X.env))) _ _ s
  refine Calls.spliced_cons (lam_make2 I TB hcode hmT hu hT hdef (L.has I.ok) fun f c' pm' ctv H1 s' I1 eN T1 hf hfn hfr' hco => ?_)
  show wpAny _ _ (spliced []) _ _ _
  have nloc : f ≠ X.env.locals := fun z => hfr' (by
    rw [hs, z]
    exact List.mem_filterMap.mpr ⟨X.env, List.mem_cons_self, hfr⟩)
  have nfs : f ∉ X.fs := fun z => hfr' (by
    rw [hs]
    obtain ⟨e, he, q⟩ := List.mem_filterMap.mp z
    exact List.mem_filterMap.mpr ⟨e, List.mem_cons_of_mem _ he, q⟩)
  refine Calls.spliced_nil ⟨I1.kIn, ?_⟩
  have rc : codeAny (model X.prog X.w) X.A (.call (.ref g) ⟨[.ref f], []⟩) (CR C8.CX0 X.stack X.prog X.w H1 s' Q C8.E0) s' := by
    refine run_ofS (N := Ng) (ps := [a]) (us := [.ref f]) (vs := [.ref f]) lk hcg Sg hr I1.env0 (hb s' [.ref f] I1.kIn rfl) (.cons rfl .nil) rfl fun hr' => ?_
    obtain ⟨t', ht', hq'⟩ := hG f c' s' H1 Q (fun E H' Q' => t E σ H' Q') (hr'.mono (Nat.zero_le _)) (fun W pn xe p1 p2 tk => pe_act2 (i := 0) I1 L hf hfn hfr' (hbind _ _ _ _ _) tk hr' (fun E A outer s H hr2 => hbody A outer s H E f c' hr2) hNg hva hd hcd) hco (h H1 eN T1)
    exact ⟨t', ht'.nox, hq'⟩
  refine wpAny_call (codeAny_mono rc fun r s3 hq => ?_)
  cases r with
  | error e => exact (show False from hq).elim
  | ok fl =>
    cases fl with
    | ret u => exact I1.after hq
    | next => exact False.elim hq
    | brk => exact False.elim hq
    | cont => exact False.elim hq
end
end LamX
end

/-! ## K1K -/
section
set_option Elab.async false
set_option linter.all false
set_option maxRecDepth 100000
set_option maxHeartbeats 4000000
namespace L2
open PySem PySem.Spec PyProof.Rows
/-! ### several except clauses, each with a name for the error or without -/
/-- a clause: its class, the slot of its name, its suite's reading -/
structure Clause where
  cls : Value
  slot : Option Nat
  ts : Addr → Value → Option Addr → TS
/-- what is wanted behind a clause's suite: its name is gone -/
def endsC (D : Ends) : Option Nat → Ends
  | none => D
  | some i => { nx := fun σ H => D.nx (σ.set i none) H, rt := D.rt, bk := fun σ H => D.bk (σ.set i none) H, ct := fun σ H => D.ct (σ.set i none) H }
def inC (σ : St) (a : Addr) : Option Nat → St
  | none => σ
  | some i => σ.set i (some (.ref a))
def wCl (K : PySem.W.Frag) (Wout : WX) (D : Ends) : List Clause → WX
  | [] => Wout
  | c :: r => fun cls d σ H => ∃ b, PySem.W.exmOne K cls c.cls = some b ∧ (b = true → ∀ a, H a = none → c.ts a cls d (endsC D c.slot) (inC σ a c.slot) H) ∧ (b = false → wCl K Wout D r cls d σ H)
/-- the name of a clause and its slot go together -/
def NameC (X : Cx) : Option Str → Option Nat → Prop
  | none, none => True
  | some n, some i => X.N.Nodup ∧ X.N[i]? = some n ∧ X.env.kindOf n = some .local
  | _, _ => False
inductive Clauses (X : Cx) : List ExceptHandler → List Clause → Prop
  | done : Clauses X [] []
  | more {x : Str} {nm : Option Str} {c : Clause} {b₀ : Stmt} {suite : List Stmt} {np p' : Pos} {hds : List ExceptHandler} {l : List Clause} (hc : Names X x c.cls) (hn : NameC X nm c.slot)
      (hsu : ∀ (a : Addr) (oe : Obj) (cls : Value) (d : Option Addr) (pn : List (Addr × Obj)), Zc cls d oe → (∃ vs, oe.data = .fields vs) → PSs (X.suite a ((a, oe) :: pn)) (b₀ :: suite) (c.ts a cls d)) (r : Clauses X hds l) :
      Clauses X (.ExceptHandler (some (.Name x np)) nm (b₀ :: suite) p' :: hds) (c :: l)
section
variable {X : Cx} {body : List Stmt} {h₀ : ExceptHandler} {hds : List ExceptHandler} {l : List Clause} {pos : Pos} {tb : WX → TS} {Wout : WX}
theorem k0_try_named (hs : X.stack = X.env :: X.outer) (hf : X.env.frame = some X.env.locals) (tk : Takes X Wout)
    (hb : ∀ (W : WX) (pn : List (Addr × Obj)) (xe : Value → Shared → Prop), Takes (X.tr pn xe) W → PassesOwn (model X.prog X.w) X.A X.env xe → PSs (X.tr pn xe) body (tb W))
    (hh : Clauses X (h₀ :: hds) l) : PS X (.Try body (h₀ :: hds) [] [] pos) (fun D σ H => tb (wCl X.K Wout D l) D σ H) := by
  refine ⟨fun pins s σ H D I h => wpAny_Try_except ?_⟩
  have ok := I.ok
  have hfr : X.A.frames = some (X.env :: X.outer) := ok.frames.trans (by rw [hs])
  -- an exception comes to the clauses
  have caught : ∀ (xe0 : Value → Shared → Prop) (u : Value) (s1 : Shared), XE (X.tr (X.pn ++ pins) xe0) (wCl X.K Wout D l) u s1 →
      wpAny (model X.prog X.w) X.A (noteFrame u X.env) (fun _ s2 => wpAny (model X.prog X.w) X.A (setFlight u none) (fun _ s3 => wpAny (model X.prog X.w) X.A (handleBy u X.env (h₀ :: hds)) (SP X pins D) X.xe s3) X.xe s2) X.xe s1 := by
    rintro xe0 u s1 ⟨a, B, sI, q0, σ1, H1, cls, d, rfl, J0, nb, up, sky, na, os, ag, w⟩
    have J : Inv X pins σ1 H1 sI := J0.ofTry ok
    have sky' : Sky B (X.env :: X.outer) a (Zc cls d) X.env.locals s1.heap := hs ▸ sky
    refine Sky.land Zc.steady hfr hf sky' fun h3 fl up3 => ?_
    obtain ⟨oe, vs, he, hz, hd⟩ := fl.there
    have Jh : Inv X pins σ1 H1 { s1 with heap := h3 } := J.landed nb fl.1 (up.trans up3) os ag
    have away : a ∉ frs (X.env :: X.outer) := fun hm => by
      obtain ⟨_, o2, e2, n2⟩ := fl.2.2.1.mem hm
      rw [he] at e2
      cases e2
      exact n2 _ hd
    have nL : a ≠ X.env.locals := fun z => away (List.mem_filterMap.mpr ⟨X.env, List.mem_cons_self, hf.trans (by rw [z])⟩)
    have nF : a ∉ X.fs := fun hm => by
      obtain ⟨e, he2, q⟩ := List.mem_filterMap.mp hm
      exact away (List.mem_filterMap.mpr ⟨e, List.mem_cons_of_mem _ he2, q⟩)
    have Sh := Jh.suite he hd na nL nF
    have LT : PySem.W.Looks (model X.prog X.w) h3 (typeOf (.ref a)) cls := fun A Q E s k q => wpAny_typeOf_ref (k _ _ he) (hz.1 ▸ q)
    suffices key : ∀ (hds : List ExceptHandler) (l : List Clause), Clauses X hds l → wCl X.K Wout D l cls d σ1 H1 → wpAny (model X.prog X.w) X.A (handleBy (.ref a) X.env hds) (SP X pins D) X.xe { s1 with heap := h3 } from key _ _ hh w
    intro hds l hk
    induction hk with
    | done =>
      -- no clause takes it: it goes on
      intro wo
      refine wpAny_handleBy_nil ?_
      obtain ⟨_, _, _, oe', vs', T, _, _, he', _, hd', hf1, _⟩ := id fl
      have out : wpAny (model X.prog X.w) X.A (setFlight (.ref a) X.env.frame) (fun _ s4 => wpAny (model X.prog X.w) X.A (throw (.ref a) : Sem Flow) (SP X pins D) X.xe s4) X.xe { s1 with heap := h3 } := by
        rw [hf]
        exact HandSPX.setFlight_upZ fl fun h4 held up4 => wpAny_throw (tk _ _ ⟨a, B, sI, pins, σ1, H1, cls, d, rfl, J, nb, (up.trans up3).trans up4, .inr (.inr (hs ▸ held)), na, os, ag, wo⟩)
      unfold PySem.passOn
      refine wpAny_bind (wpAny_field he' hd' hf1 ?_)
      rw [if_neg (fun z => by cases z)]
      first
        | exact wpAny_bind out
        | exact wpAny_bind (wpAny_pure (wpAny_bind out))
    | @more x nm c b₀ suite np p' hds l hc hn hsu r ih =>
      rintro ⟨b, hb1, yes, no⟩
      have named : ∀ {Q : Value → Shared → Prop} {E : Value → Shared → Prop}, Q c.cls { s1 with heap := h3 } → wpAny (model X.prog X.w) (X.A.mark (some (.ref a))) (eval (.Name x np) X.env) Q E { s1 with heap := h3 } := fun {Q E} q => by
        rcases hc with ⟨hg, hdb, hm | ⟨hm, hv, hnn⟩⟩
        · exact ld_glob (X := X.suite a ((a, oe) :: (X.pn ++ pins))) Sh hg hm q hdb
        · exact ld_blt (X := X.suite a ((a, oe) :: (X.pn ++ pins))) Sh hg hm hv q hnn hdb
      refine wpAny_handleBy_cons (codeAny_handlers_test (named ((PySem.W.exm_one (M := model X.prog X.w) Jh.kIn LT hb1).here ?_))) (fun z => by cases z)
      cases b with
      | false => exact (show wpAny _ X.A (handleBy (.ref a) X.env hds) _ _ _ from ih (no rfl))
      | true =>
        have ys := yes rfl a na
        match nm, hcs : c.slot, hn with
        | none, none, _ =>
          rw [hcs] at ys
          refine codeAny_handlers_suite (HandSPX.lands_againZ fl fun h4 fl4 up4 => ?_)
          obtain ⟨oe4, vs4, he4, hz4, hd4⟩ := fl4.there
          have J4 : Inv X pins σ1 H1 { s1 with heap := h4 } := J.landed nb fl4.1 ((up.trans up3).trans up4) os ag
          have S4 := J4.suite he4 hd4 na nL nF
          refine wpAny_mono ((hsu a oe4 cls d (X.pn ++ pins) hz4 ⟨_, hd4⟩).run [] _ _ H1 _ S4 ys) (fun f s6 q => ?_) (fun _ _ z => False.elim z)
          cases f with
          | ret u => exact let ⟨v6, σ6, H6, S6, r6, q6⟩ := q; ⟨v6, σ6, H6, S6.unsuite ok, r6, q6⟩
          | next => exact let ⟨σ6, H6, S6, q6⟩ := q; ⟨σ6, H6, S6.unsuite ok, q6⟩
          | brk => exact let ⟨σ6, H6, S6, q6⟩ := q; ⟨σ6, H6, S6.unsuite ok, q6⟩
          | cont => exact let ⟨σ6, H6, S6, q6⟩ := q; ⟨σ6, H6, S6.unsuite ok, q6⟩
        | some n, some i, ⟨hN, hi, hln⟩ =>
          rw [hcs] at ys
          refine codeAny_handlers_suite_as (HandSPX.lands_againZ fl fun h4 fl4 up4 => ?_)
          obtain ⟨oe4, vs4, he4, hz4, hd4⟩ := fl4.there
          have J4 : Inv X pins σ1 H1 { s1 with heap := h4 } := J.landed nb fl4.1 ((up.trans up3).trans up4) os ag
          have S4 := J4.suite he4 hd4 na nL nF
          refine store_ok (X := X.suite a ((a, oe4) :: (X.pn ++ pins))) (v := .ref a) S4 hN hi (.inl hln) rfl (fun s5 S5 => ?_) (.inr hln)
          refine wpAny_mono ((hsu a oe4 cls d (X.pn ++ pins) hz4 ⟨_, hd4⟩).run [] s5 _ H1 _ S5 ys) (fun f s6 q => ?_) (fun _ _ z => False.elim z)
          have gone : ∀ {σ6 : St} {H6 : Hp} {Q : Shared → Prop}, Inv (X.suite a ((a, oe4) :: (X.pn ++ pins))) [] σ6 H6 s6 → (∀ s7, Inv X pins (σ6.set i none) H6 s7 → Q s7) → wpAny (model X.prog X.w) X.A (do bindName X.env n .none; unbindBehindTheSuite X.env n p') (fun _ s7 => Q s7) X.xe s6 := fun S6 k => gone_ok (S6.unsuite ok) hN hi hln k
          cases f with
          | ret u => exact let ⟨v6, σ6, H6, S6, r6, q6⟩ := q; gone S6 fun s7 J7 => ⟨_, _, _, J7, r6, q6⟩
          | next => exact let ⟨σ6, H6, S6, q6⟩ := q; gone S6 fun s7 J7 => ⟨_, _, J7, q6⟩
          | brk => exact let ⟨σ6, H6, S6, q6⟩ := q; gone S6 fun s7 J7 => ⟨_, _, J7, q6⟩
          | cont => exact let ⟨σ6, H6, S6, q6⟩ := q; gone S6 fun s7 J7 => ⟨_, _, J7, q6⟩
  refine wpAny_mono ((hb (wCl X.K Wout D l) (X.pn ++ pins) (fun u s1 => wpAny (model X.prog X.w) X.A (noteFrame u X.env) (fun _ s2 => wpAny (model X.prog X.w) X.A (setFlight u none) (fun _ s3 => wpAny (model X.prog X.w) X.A (handleBy u X.env (h₀ :: hds)) (SP X pins D) X.xe s3) X.xe s2) X.xe s1)
    (fun u s1 x => caught _ u s1 x) PassesOwn.looking).run [] s σ H D (I.toTry _) h) (fun f s1 q => ?_) fun _ _ z => z
  · cases f with
    | ret u => exact let ⟨v, σ1, H1, J1, r1, q1⟩ := q; ⟨v, σ1, H1, J1.ofTry ok, r1, q1⟩
    | next => exact let ⟨σ1, H1, J1, q1⟩ := q; wpAny_execs_nil ⟨σ1, H1, J1.ofTry ok, q1⟩
    | brk => exact let ⟨σ1, H1, J1, q1⟩ := q; ⟨σ1, H1, J1.ofTry ok, q1⟩
    | cont => exact let ⟨σ1, H1, J1, q1⟩ := q; ⟨σ1, H1, J1.ofTry ok, q1⟩
end
end L2
end

/-! ## K1L -/
section
set_option Elab.async false
set_option linter.all false
set_option maxRecDepth 100000
set_option maxHeartbeats 4000000
namespace K0
open PySem PySem.Spec PyProof.Rows L2 LamX
abbrev scRefusal_N : List Str := ["_law_ask", "e"]
theorem scRefusal : FnScope scRefusal_N ["_law_ask"] (defScope sRefusal) := ⟨rfl, rfl, rfl, by decide +kernel, rfl, by decide +kernel, by decide +kernel⟩
/-- what the classes of errors say -/
structure Er (K : PySem.W.Frag) (mg : Str → Option Value) (Cn Cd Cw : Addr) : Prop where
  ec : ExcC K Cd
  xn : XfC K Cn
  xd : XfC K Cd
  hname : PySem.W.findIn K (.ref Cn) "name" = some none
  hhigh : PySem.W.findIn K (.ref Cd) "high" = some none
  hlow : PySem.W.findIn K (.ref Cd) "low" = some none
  mW : mg "WeirError" = some (.ref Cw)
  mD : mg "NotDown" = some (.ref Cd)
  mN : mg "NoWeir" = some (.ref Cn)
  dd : PySem.W.exmOne K (.ref Cd) (.ref Cd) = some true
  nd : PySem.W.exmOne K (.ref Cn) (.ref Cd) = some false
  nn : PySem.W.exmOne K (.ref Cn) (.ref Cn) = some true
  kN : PySem.W.kitOne K (.ref Cd) (.ref Cn) = some false
/-- what is told of the error that the lambda lets out -/
def Told (Cn Cd : Addr) (Q : VK) : XK := fun cls d H =>
  (cls = .ref Cd ∧ ∃ dd x y, d = some dd ∧ H dd = some (.xd [(("low" : Str), y), (("high" : Str), x)]) ∧ ∀ t, H t = none → Q (.ref t) (upd H t (.tup [.str "down", x, y]))) ∨
  (cls = .ref Cn ∧ ∃ dd x, d = some dd ∧ H dd = some (.xd [(("name" : Str), x)]) ∧ ∀ t, H t = none → Q (.ref t) (upd H t (.tup [.str "weir", x])))
def TRef (Cn Cd : Addr) : (XK → Hp → VK → Prop) → Hp → VK → Prop := fun tl H Q => ∀ Q', tl (Told Cn Cd Q) H Q'
section
variable {P : Program} {w : World} {K : PySem.W.Frag} {mg : Str → Option Value} {base : Heap} {tS tM tL : Tok}
theorem refusal_gives {X : Cx} {g : Addr} {cdg : Value} {q : Str} {Cn Cd Cw : Addr} (R : Er X.K X.mg Cn Cd Cw) (B : Bl X.mg) : GivesTo1 X scRefusal_N "_law_refusal" (defScope sRefusal) g cdg (defBody sRefusal) "_law_ask" q (TRef Cn Cd) := by
  intro f c' s H Q tl hr act hc h
  have hu64 := hr.units
  refine ⟨_, pss_cons (k0_try_named (X := (cxOf C8.CX0 X.prog X.w X.K X.mg X.base scRefusal_N "_law_refusal" (defScope sRefusal) g cdg X.A X.stack s H C8.E0).nox)
      (l := [⟨.ref Cd, some 1, fun a cls d => tRet (tIf (tNot (tB (tCB (rIsED X.K a cls d) (tCons (tVar 1) (tCons (tC (V.ref Cn)) tNil))))) (tTup (tCons (tC (V.str "down")) (tCons (tXf a cls d Cd "high" (tVar 1)) (tCons (tXf a cls d Cd "low" (tVar 1)) tNil)))) (tC (V.str "both")))⟩,
        ⟨.ref Cn, some 1, fun a cls d => tRet (tTup (tCons (tC (V.str "weir")) (tCons (tXf a cls d Cn "name" (tVar 1)) tNil)))⟩, ⟨.ref Cw, none, fun _ _ _ => tRet (tC (V.str "other"))⟩])
      (tb := fun W D σ H => σ[0]? = some (some (.ref f)) ∧ H c' = some (CodeO c' q) ∧ ∃ Ech : XK, (∀ cls d H', Ech cls d H' → W cls d σ H') ∧ ∀ Q', tl Ech H Q')
      rfl rfl LamX.takes0 (fun W pn xe tk _ => ?_)
      (.more ⟨rfl, by decide, .inl R.mD⟩ ⟨scRefusal.nd, rfl, rfl⟩ (fun a oe cls d pn hz hf => by
          dsimp only
          refine pss_one (ps_ret (pe_ifExp ?_ ?_ pe_str))
          · exact pt_not (pt_val (pe_callB (k0_isE hz hf) (by rfl) B.isinstance (by decide +kernel) (pa_cons (pv 1) (pa_cons (pe_glob (v := .ref Cn) (by rfl) R.mN rfl) pa_nil))))
          · refine pe_tup (pa_cons pe_str (pa_cons ?_ (pa_cons ?_ pa_nil)))
            · exact pe_xf R.xd R.hhigh hz hf (pv 1)
            · exact pe_xf R.xd R.hlow hz hf (pv 1))
      (.more ⟨rfl, by decide, .inl R.mN⟩ ⟨scRefusal.nd, rfl, rfl⟩ (fun a oe cls d pn hz hf => by
          dsimp only
          refine pss_one (ps_ret (pe_tup (pa_cons pe_str (pa_cons ?_ pa_nil))))
          exact pe_xf R.xn R.hname hz hf (pv 1))
      (.more ⟨rfl, by decide, .inl R.mW⟩ trivial (fun a oe cls d pn hz hf => pss_one (ps_ret pe_str)) .done)))) (pss_one (ps_ret pe_non)), ?_⟩
  · refine ⟨fun pins s' σ H' D I h' => ?_⟩
    obtain ⟨h1, h2, Ech, hW, h3⟩ := h'
    refine (pss_one (ps_expr (act W pn xe _ _ tk))).run pins s' σ H' D I ?_
    exact ⟨h1, h2, Ech, hW, h3 _⟩
  · refine ⟨rfl, hc, Told Cn Cd Q, fun cls d H' ht => ?_, h⟩
    rcases ht with ⟨rfl, dd, x, y, rfl, hdd, k⟩ | ⟨rfl, dd, x, rfl, hdd, k⟩
    · refine ⟨true, R.dd, fun _ a na => ?_, fun z => by cases z⟩
      refine ⟨_, rfl, .ref Cn, .ref Cn, false, Cd, dd, _, rfl, rfl, rfl, R.ec, hdd, fun u hu => hu, R.kN, _, rfl, ?_⟩
      refine iteT ?_
      refine ⟨_, rfl, rfl, rfl, dd, _, x, rfl, hdd, rfl, _, rfl, rfl, rfl, dd, _, y, rfl, hdd, rfl, by show 3 ≤ sizeLine; decide, fun t nt => k t nt⟩
    · refine ⟨false, R.nd, (fun z => by cases z), fun _ => ⟨true, R.nn, fun _ a na => ?_, fun z => by cases z⟩⟩
      exact ⟨_, rfl, rfl, rfl, dd, _, x, rfl, hdd, rfl, by show 2 ≤ sizeLine; decide, fun t nt => k t nt⟩
end
end K0
end

/-! ## K1M -/
section
set_option Elab.async false
set_option linter.all false
set_option maxRecDepth 100000
set_option maxHeartbeats 4000000
namespace K0
open PySem PySem.Spec PyProof.Rows L2
abbrev scPairs_N : List Str := ["_law_bag_here", "_law_weirs", "_law_found", "_law_k", "_law_high", "_law_low"]
abbrev scPairs_S : Stmt := sPairs
theorem scPairs : FnScope scPairs_N ["_law_bag_here", "_law_weirs"] (defScope sPairs) := ⟨rfl, rfl, rfl, by decide +kernel, rfl, by decide +kernel, by decide +kernel⟩
/-- a list of pairs of these names -/
structure PairsAt (H : Hp) (l : Addr) (ns : List Str) (AP : List (Addr × Row)) : Prop where
  rows : RowsAt H l AP
  ok : ∀ q ∈ AP, q.2.1 ∈ ns ∧ q.2.2 ∈ ns
def spPairs : Sp := fun vs H Q _ => ∃ (p wl : Addr) (ns : List Str), vs = [.ref p, .ref wl] ∧ BagAt H p ∧ H wl = some (.lst (ns.map V.str)) ∧ wl ≠ p ∧ 1 ≤ ns.length ∧ ns.length ≤ 40 ∧
  ∀ (H' : Hp) (l : Addr) (AP : List (Addr × Row)), Upto p H H' → BagAt H' p → l ≠ p → H l = none → PairsAt H' l ns AP → AP.length ≤ 40 → Q (.ref l) H'
theorem rows_snoc {H : Hp} {l t : Addr} {AP : List (Addr × Row)} {x y : Str} (r : RowsAt H l AP) (nt : H t = none) : RowsAt (upd (upd H t (.tup [.str x, .str y])) l (.lst (AP.map (fun q => V.ref q.1) ++ [.ref t]))) l (AP ++ [(t, (x, y))]) := by
  refine ⟨by rw [upd_same, List.map_append]; rfl, fun q hq => ?_⟩
  have ltl : l ≠ t := ne_of_none r.lst nt
  rcases List.mem_append.mp hq with h | h
  · have e := r.tup q h
    rw [upd_ne (ne_of e r.lst (fun z => by cases z)), upd_ne (ne_of_none e nt)]
    exact e
  · rw [List.mem_singleton.mp h]
    show upd _ l _ t = _
    rw [upd_ne ltl.symm, upd_same]
section
variable {P : Program} {w : World} {K : PySem.W.Frag} {mg : Str → Option Value} {base : Heap} {tS tM tL : Tok}
theorem ok_pairs {f fT fO : Addr} {fd fdT fdO : FuncData} (F : FnP K "_law_pairs" sPairs f fd) (F_law_take : FnP K "_law_take" sTake fT fdT) (F_law_of : FnP K "_law_of" sOf fO fdO) (B : Bl mg) (g_law_take : mg "_law_take" = some (.ref fT)) (g_law_of : mg "_law_of" = some (.ref fO)) :
    FnOk P w K mg base CX0 3 f fd ["_law_bag_here", "_law_weirs"] spPairs := by
  have G_law_of : FnOk P w K mg base CX0 2 fO fdO ["_law_bag_here", "_law_some"] (spOf K) := ok_of F_law_of F_law_take B g_law_take
  have b_law_of : Binds K fdO ["_law_bag_here", "_law_some"] [] := F_law_of.bindsN fun _ _ _ _ _ _ us hl => match us, hl with | [_, _], _ => rfl
  refine F.ok scPairs (fun vs H Q E h => ?_) (fun cdv A outer s H vs Q E hr h => ?_)
  · obtain ⟨p, wl, ns, rfl, _⟩ := h
    rfl
  · obtain ⟨p, wl, ns, rfl, hB, hw, hwp, h1, h40, k⟩ := h
    have hr_law_of : Room 2 _ := hr
    refine ⟨_, PSs.nox (pss_cons
      (ps_if (pt_cmpR op_gt (pe_callB (lenK (K := K)) (by rfl) B.len PySem.boot_len (pa_cons (pv 1) pa_nil)) pe_int (nomark _)) (pss_one
      (ps_ret (pe_lc (own := [("_law_k", 3)]) (g := gName 3) (tt := tYes) (by rfl) scPairs.nd (pi_range1 (by rfl) B.range (pa_cons pe_int pa_nil)) (blkOk_by (own := [("_law_k", 3)]) (N := scPairs_N) (sc := defScope scPairs_S) (by decide +kernel)) (fun _ _ _ _ _ => (pg_name (i := 3) scPairs.nd rfl (Or.inl rfl))) (fun _ _ _ _ _ => pts_nil) (fun _ _ _ _ _ => (pe_tup (pa_cons (pe_call G_law_of hr_law_of (by rfl) g_law_of F_law_of.kp b_law_of .nil pass0 (pa_cons (pv 0) (pa_cons (pv 1) pa_nil))) (pa_cons (pe_call G_law_of hr_law_of (by rfl) g_law_of F_law_of.kp b_law_of .nil pass0 (pa_cons (pv 0) (pa_cons (pv 1) pa_nil))) pa_nil))))))) pss_nil)
      (pss_cons
      (ps_set (i := 2) scPairs.nd rfl (Or.inl rfl) (pe_lst pa_nil))
      (pss_cons
      (ps_for PassesOwn.never rfl (pi_list (pv 1)) (pg_name (i := 4) scPairs.nd rfl (Or.inr rfl)) (pss_one
      (ps_set (i := 2) scPairs.nd rfl (Or.inl rfl) (pe_op op_cat (pv 2) (pe_lc (own := [("_law_low", 5)]) (g := gName 5) (tt := tYes) (by rfl) scPairs.nd (pi_list (pv 1)) (blkOk_by (own := [("_law_low", 5)]) (N := scPairs_N) (sc := defScope scPairs_S) (by decide +kernel)) (fun _ _ _ _ _ => (pg_name (i := 5) scPairs.nd rfl (Or.inl rfl))) (fun _ _ _ _ _ => pts_nil) (fun _ _ _ _ _ => (pe_tup (pa_cons (pv 4) (pa_cons (pv 5) pa_nil)))))))))
      (pss_one
      (ps_ret (pv 2)))))), ?_⟩
    obtain ⟨b0, hb0, hv0⟩ := id hB
    refine ⟨_, rfl, wl, _, rfl, .inl (.inl (.inl hw)), _, 6, rfl, rfl, _, rfl, ?_⟩
    refine ite2 (fun hbig => ?_) (fun hsm => ?_)
    · refine ⟨12, rfl, by decide, by decide, fun D hD => ?_⟩
      have npD : p ≠ D := ne_of_none hb0 hD
      refine lc_range (lo := 0) (n := 12) (fun i H2 => Upto p H H2 ∧ BagAt H2 p ∧ ∃ AP, PairsAt H2 D ns AP ∧ AP.length = i) ?_ ?_ ?_
      · exact ⟨Upto.of (same_upd hD), ⟨b0, by rw [upd_ne npD]; exact hb0, hv0⟩, [], ⟨⟨upd_same, fun q hq => nomatch hq⟩, fun q hq => nomatch hq⟩, rfl⟩
      · rintro i H2 hi ⟨u2, B2, AP, hP, hl⟩
        refine ⟨rfl, ?_⟩
        unfold tYes
        refine iteT ?_
        have hw2 := u2 _ _ hw hwp
        refine ⟨_, rfl, _, rfl, p, wl, _, rfl, B2, hwp, .inl (.inl hw2), by rw [List.length_map]; omega, by rw [List.length_map]; omega, fun i1 v1 x1 hv1 hx1 => ?_⟩
        rw [List.getElem?_map] at hv1
        obtain ⟨y1, hy1, rfl⟩ := Option.map_eq_some_iff.mp hv1
        have u3 : Upto p H2 (upd H2 p (.lst x1)) := Upto.at_
        have B3 : BagAt (upd H2 p (.lst x1)) p := ⟨x1, upd_same, hx1⟩
        generalize upd H2 p (.lst x1) = H3 at u3 B3
        refine ⟨_, rfl, _, rfl, p, wl, _, rfl, B3, hwp, .inl (.inl (u3 _ _ hw2 hwp)), by rw [List.length_map]; omega, by rw [List.length_map]; omega, fun i2 v2 x2 hv2 hx2 => ?_⟩
        rw [List.getElem?_map] at hv2
        obtain ⟨y2, hy2, rfl⟩ := Option.map_eq_some_iff.mp hv2
        have u4 : Upto p H3 (upd H3 p (.lst x2)) := Upto.at_
        have B4 : BagAt (upd H3 p (.lst x2)) p := ⟨x2, upd_same, hx2⟩
        generalize upd H3 p (.lst x2) = H4 at u4 B4
        have u24 := u3.trans u4
        have P4 : PairsAt H4 D ns AP := ⟨⟨u24 _ _ hP.rows.lst npD.symm, fun q hq => u24 _ _ (hP.rows.tup q hq) (bag_ne B2 (hP.rows.tup q hq))⟩, hP.ok⟩
        refine ⟨by show 2 ≤ sizeLine; decide, fun t nt => ?_⟩
        have Dt : D ≠ t := ne_of_none P4.rows.lst nt
        have s5 := same_upd nt (o := .tup [.str y1, .str y2])
        refine ⟨_, s5 _ _ P4.rows.lst, small1000 (by rw [List.length_map]; omega), ?_, ?_, AP ++ [(t, (y1, y2))], ⟨rows_snoc P4.rows nt, fun q hq => ?_⟩, by rw [List.length_append, hl]; rfl⟩
        · intro b o hb hn
          have q4 := u24 _ _ (u2 _ _ hb hn) hn
          rw [upd_ne (ne_of_none hb hD)]
          exact s5 _ _ q4
        · obtain ⟨b4, hb4, hv4⟩ := B4
          exact ⟨b4, by rw [upd_ne npD]; exact s5 _ _ hb4, hv4⟩
        · rcases List.mem_append.mp hq with z | z
          · exact hP.ok q z
          · rw [List.mem_singleton.mp z]
            exact ⟨List.mem_of_getElem? hy1, List.mem_of_getElem? hy2⟩
      · rintro H2 ⟨u2, B2, AP, hP, hl⟩
        exact k H2 D AP u2 B2 npD.symm hD hP (by omega)
    · have hsm : ns.length ≤ 6 := by
        rcases Nat.lt_or_ge 6 ns.length with z | z
        · exact absurd (decide_eq_true (by rw [List.length_map]; omega)) hsm
        · exact z
      refine ⟨Nat.zero_le _, fun l0 nl0 => ?_⟩
      have npl : p ≠ l0 := ne_of_none hb0 nl0
      refine ⟨_, rfl, wl, rfl, ⟨_, .inl (.inl (same_upd nl0 _ _ hw))⟩, ?_⟩
      refine for_list (K := K) (a := wl) (xs := ns.map V.str) (fun i σ H2 => ∃ (l : Addr) (v : Option V) (AP : List (Addr × Row)), σ = [some (.ref p), some (.ref wl), some (.ref l), none, v, none] ∧ Same H H2 ∧ H l = none ∧ PairsAt H2 l ns AP ∧ AP.length = i * ns.length)
        ⟨l0, none, [], rfl, same_upd nl0, nl0, ⟨⟨upd_same, fun q hq => nomatch hq⟩, fun q hq => nomatch hq⟩, by rw [Nat.zero_mul]; rfl⟩ (fun i σ H2 hi h => by
          obtain ⟨_, _, _, _, s, _⟩ := h
          exact .inl (.inl (s _ _ hw))) ?_ ?_
      · rintro i x σ H2 hx ⟨l, v, AP, rfl, s2, nl, hP, hlen⟩
        rw [List.getElem?_map] at hx
        obtain ⟨y, hy, rfl⟩ := Option.map_eq_some_iff.mp hx
        have hi : i < ns.length := (List.getElem?_eq_some_iff.mp hy).1
        have hAP : AP.length ≤ 36 := by
          rw [hlen]
          exact Nat.le_trans (Nat.mul_le_mul (by omega : i ≤ 6) hsm) (by omega)
        refine ⟨_, rfl, _, rfl, wl, rfl, ⟨_, .inl (.inl (s2 _ _ hw))⟩, fun D hD => ?_⟩
        refine lc_list (K := K) (a := wl) (xs := ns.map V.str) (fun j H3 => Same H2 H3 ∧ ∃ BP, PairsAt H3 D ns BP ∧ BP.length = j) ⟨same_upd hD, [], ⟨⟨upd_same, fun q hq => nomatch hq⟩, fun q hq => nomatch hq⟩, rfl⟩ (fun j H3 hj h => .inl (.inl (h.1 _ _ (s2 _ _ hw)))) ?_ ?_
        · rintro j x H3 hx ⟨s3, BP, hB3, hBl⟩
          rw [List.getElem?_map] at hx
          obtain ⟨z, hz, rfl⟩ := Option.map_eq_some_iff.mp hx
          have hj : j < ns.length := (List.getElem?_eq_some_iff.mp hz).1
          refine ⟨rfl, ?_⟩
          unfold tYes
          refine iteT ?_
          refine ⟨_, rfl, _, rfl, by show 2 ≤ sizeLine; decide, fun t nt => ?_⟩
          have s5 := same_upd nt (o := .tup [.str y, .str z])
          refine ⟨_, s5 _ _ hB3.rows.lst, small1000 (by rw [List.length_map]; omega), fun b o hb => ?_, BP ++ [(t, (y, z))], ⟨rows_snoc hB3.rows nt, fun q hq => ?_⟩, by rw [List.length_append, hBl]; rfl⟩
          · rw [upd_ne (ne_of_none hb hD)]
            exact s5 _ _ (s3 _ _ hb)
          · rcases List.mem_append.mp hq with e | e
            · exact hB3.ok q e
            · rw [List.mem_singleton.mp e]
              exact ⟨List.mem_of_getElem? hy, List.mem_of_getElem? hz⟩
        · rintro H3 ⟨s3, BP, hB3, hBl⟩
          rw [List.length_map] at hBl
          have hz := sizeLine_eq
          have hl3 := s3 _ _ hP.rows.lst
          refine ⟨l, D, _, _, rfl, rfl, hl3, hB3.rows.lst, by rw [List.length_map, List.length_map]; omega, fun q nq => ?_⟩
          have s4 : Same H3 (upd H3 q (.lst (AP.map (fun q => V.ref q.1) ++ BP.map fun q => V.ref q.1))) := same_upd nq
          refine ⟨q, _, AP ++ BP, rfl, (s2.trans s3).trans s4, (s2.trans s3).free nq, ⟨⟨by rw [upd_same, List.map_append], fun r hr => ?_⟩, fun r hr => ?_⟩, by rw [List.length_append, hlen, hBl, Nat.succ_mul]⟩
          · rcases List.mem_append.mp hr with e | e
            · exact s4 _ _ (s3 _ _ (hP.rows.tup r e))
            · exact s4 _ _ (hB3.rows.tup r e)
          · exact (List.mem_append.mp hr).elim (hP.ok r) (hB3.ok r)
      · rintro σ H2 ⟨l, v, AP, rfl, s2, nl, hP, hlen⟩
        have hAP : AP.length ≤ 36 := by
          rw [hlen, List.length_map]
          exact Nat.le_trans (Nat.mul_le_mul hsm hsm) (by omega)
        refine ⟨_, rfl, k H2 l AP (Upto.of s2) ⟨b0, s2 _ _ hb0, hv0⟩ (fun e => ?_) nl hP (by omega)⟩
        rw [e, hb0] at nl
        cases nl
end
end K0
end

/-! ## K1N -/
section
set_option Elab.async false
set_option linter.all false
set_option maxRecDepth 100000
set_option maxHeartbeats 4000000
namespace K0
open PySem PySem.Spec PyProof.Rows L2 LamX
theorem rivK {Cr : Addr} {H H' : Hp} {p : Addr} {AR : List (Addr × Row)} (k : ∀ a o, H a = some o → (∀ xs, o ≠ .lst xs) → (∀ ps, o ≠ .tbl ps) → H' a = some o) (r : RivAt Cr H p AR) : RivAt Cr H' p AR := by
  obtain ⟨dx, tw, tr, db, dc, da, du, o, h1, h2, h3, h4, h5, h6, h7, h8, h9⟩ := r.ex
  have tp : ∀ {c : Addr} {ns : List Str} {g : Str → List Str}, TupsAt H c ns g → TupsAt H' c ns g := fun t => by
    obtain ⟨ta, q1, q2⟩ := t.ex
    exact ⟨ta, k _ _ q1 (fun _ z => by cases z) (fun _ z => by cases z), fun x hx => (q2 x hx).to fun u e n1 _ _ _ n5 => k _ _ e n1 n5⟩
  exact ⟨dx, tw, tr, db, dc, da, du, o, k _ _ h1 (fun _ z => by cases z) (fun _ z => by cases z), k _ _ h2 (fun _ z => by cases z) (fun _ z => by cases z), k _ _ h3 (fun _ z => by cases z) (fun _ z => by cases z),
    fun q hq => k _ _ (h4 q hq) (fun _ z => by cases z) (fun _ z => by cases z), k _ _ h5 (fun _ z => by cases z) (fun _ z => by cases z), tp h6, tp h7, tp h8, h9.to fun _ e => k _ _ e (fun _ z => by cases z) (fun _ z => by cases z)⟩
theorem rivE {Cr : Addr} {H H' : Hp} {p : Addr} {AR : List (Addr × Row)} (s : ExtN H H') (r : RivAt Cr H p AR) : RivAt Cr H' p AR := rivK (fun _ _ e _ n => s _ _ e n) r
theorem rivUp {Cr : Addr} {H1 H2 : Hp} {p o : Addr} {A1 : List (Addr × Row)} (hB : BagAt H1 p) (u : Upto p H1 H2) (r : RivAt Cr H1 o A1) : RivAt Cr H2 o A1 := by
  obtain ⟨b, hb, _⟩ := hB
  exact rivK (fun _ _ e n _ => u _ _ e (ne_of e hb (n b))) r
theorem rowsE {H H' : Hp} {l : Addr} {AR : List (Addr × Row)} (s : ExtN H H') (r : RowsAt H l AR) : RowsAt H' l AR := ⟨s _ _ r.lst (fun _ z => by cases z), fun q hq => s _ _ (r.tup q hq) (fun _ z => by cases z)⟩
theorem shownE {K : PySem.W.Frag} {H H' : Hp} {x : V} (s : ExtN H H') (h : Shown K H x) : Shown K H' x := by
  cases h with
  | str y h z => exact .str y h z
  | non => exact .non
  | bl b => exact .bl b
  | int i h z => exact .int i h z
  | lst e h z => exact .lst (s _ _ e (fun _ z => by cases z)) h z
  | tup e h z => exact .tup (s _ _ e (fun _ z => by cases z)) h z
theorem bagE {H H' : Hp} {p : Addr} (s : ExtN H H') (h : BagAt H p) : BagAt H' p := by
  obtain ⟨b, hb, hv⟩ := h
  exact ⟨b, s _ _ hb (fun _ z => by cases z), hv⟩
theorem tabs_upto {T : List (Addr × Str)} {H H' : Hp} {p : Addr} (B : BagAt H p) (u : Upto p H H') (t : Tabs T H) : Tabs T H' := fun z hz => by
  obtain ⟨ps, h1, h2, h3⟩ := t z hz
  obtain ⟨b, hb, _⟩ := B
  refine ⟨ps, u _ _ h1 (ne_of h1 hb (fun z => by cases z)), h2, fun pos cv hc => ?_⟩
  obtain ⟨c, e1, e2⟩ := h3 pos cv hc
  exact ⟨c, e1, u _ _ e2 (ne_of e2 hb (fun z => by unfold CodeO at z; cases z))⟩
/-- all but what stands at p, and the tables -/
def UptoT (p : Addr) (H H' : Hp) : Prop := ∀ b o, H b = some o → b ≠ p → (∀ ps, o ≠ .tbl ps) → H' b = some o
theorem eqv_strs : ∀ l : List Str, PyData.eqvAll (l.map PyData.str) (l.map PyData.str) = true
  | [] => by simp only [List.map_nil, PyData.eqvAll]
  | y :: l => by simp only [List.map_cons, PyData.eqvAll, PyData.eqv, eqv_strs l, beq_self_eq_true, Bool.and_self]
theorem eqv_tups (l : List Str) : PyData.eqv (.tuple (l.map PyData.str)) (.tuple (l.map PyData.str)) = true := by
  simp only [PyData.eqv]
  exact eqv_strs _
theorem eqv_lsts (l : List Str) : PyData.eqv (.list (l.map PyData.str)) (.list (l.map PyData.str)) = true := by
  simp only [PyData.eqv]
  exact eqv_strs _
theorem g7m {a b c d e g h : V} {m : Str} (h1 : (["weirs", "_rows", "_below", "_courses", "_above", "_upstream", "_deepest_first"] : List Str).contains m = false) : (f7 a b c d e g h).lookup m = none := by
  simp only [List.contains_cons, List.contains_nil, Bool.or_false, Bool.or_eq_false_iff, beq_eq_false_iff_ne] at h1
  exact g7no _ _ _ _ _ _ _ h1.1 h1.2.1 h1.2.2.1 h1.2.2.2.1 h1.2.2.2.2.1 h1.2.2.2.2.2.1 h1.2.2.2.2.2.2
theorem name_plain {x : Str} (h : NameOk x) : Plain x := fun c hc => by
  have := (h.low c hc).2
  omega
theorem plain_down : Plain ("down" : Str) := fun c hc => by
  have : c = 100 ∨ c = 111 ∨ c = 119 ∨ c = 110 := by simpa using (show c ∈ [100, 111, 119, 110] from hc)
  omega
theorem course_sub {R : List Row} (g : GoodRows R) {y : Str} (hy : y ∈ nmsOf R) : ∀ z ∈ course R y, z ∈ nmsOf R := fun z hz => by
  obtain ⟨m, c⟩ := course_is g hy
  rw [c.eq] at hz
  obtain ⟨i, hi, e⟩ := List.mem_map.mp hz
  rw [← e]
  exact c.mem i (List.mem_range.mp hi)
theorem course_len {R : List Row} (g : GoodRows R) {y : Str} (hy : y ∈ nmsOf R) : (course R y).length ≤ 40 := by
  obtain ⟨m, c⟩ := course_is g hy
  rw [c.eq, List.length_map, List.length_range]
  exact Nat.le_trans c.most g.most
theorem shown_name {K : PySem.W.Frag} {R : List Row} (g : GoodRows R) {y : Str} (hy : y ∈ nmsOf R) (H : Hp) : Shown K H (.str y) := .str y (name_plain (g.nm.ok y hy)) (by
  have := (g.nm.ok y hy).most
  rw [len_list]
  omega)
theorem plain_name {R : List Row} (g : GoodRows R) {y : Str} (hy : y ∈ nmsOf R) : Plain y := name_plain (g.nm.ok y hy)
/-! ### the junction is the same from both sides -/
theorem course_dec {R : List Row} (g : GoodRows R) : ∃ rk : Str → Nat, ∀ x ∈ nmsOf R, (course R x).Pairwise fun u v => rk v < rk u := by
  obtain ⟨rk, hr⟩ := g.rank
  refine ⟨rk, fun x hx => ?_⟩
  obtain ⟨m, h1, h2, h3, h4⟩ := reach hr (rk x) x (Nat.le_refl _) hx
  obtain ⟨k, c⟩ := course_is g hx
  have e : k = m := by
    rcases Nat.lt_trichotomy k m with z | z | z
    · exact absurd c.sea (g.nm.sea _ (h2 k z))
    · exact z
    · exact absurd h4 (g.nm.sea _ (c.mem m z))
  subst e
  rw [c.eq, List.pairwise_map]
  refine List.Pairwise.imp_of_mem (fun {i j} hi hj hij => ?_) (List.pairwise_lt_range (n := k))
  exact h3 i j hij (List.mem_range.mp hj)
theorem meet_sym {R : List Row} (g : GoodRows R) {a b : Str} (ha : a ∈ nmsOf R) (hb : b ∈ nmsOf R) : meetR R a b = meetR R b a := by
  obtain ⟨rk, hd⟩ := course_dec g
  have p1 : ((course R a).filter fun x => decide (x ∈ course R b)).Pairwise fun u v => rk v < rk u := (hd a ha).filter _
  have p2 : ((course R b).filter fun x => decide (x ∈ course R a)).Pairwise fun u v => rk v < rk u := (hd b hb).filter _
  have m1 : ∀ z, z ∈ ((course R a).filter fun x => decide (x ∈ course R b)) ↔ z ∈ ((course R b).filter fun x => decide (x ∈ course R a)) := fun z => by
    rw [List.mem_filter, List.mem_filter, decide_eq_true_eq, decide_eq_true_eq]
    exact And.comm
  unfold meetR
  generalize ((course R a).filter fun x => decide (x ∈ course R b)) = F at p1 m1
  generalize ((course R b).filter fun x => decide (x ∈ course R a)) = G at p2 m1
  match F, G, p1, p2, m1 with
  | [], [], _, _, _ => rfl
  | [], y :: G, _, _, m => exact nomatch (m y).mpr List.mem_cons_self
  | x :: F, [], _, _, m => exact nomatch (m x).mp List.mem_cons_self
  | x :: F, y :: G, q1, q2, m =>
    have hx := (m x).mp List.mem_cons_self
    have hy := (m y).mpr List.mem_cons_self
    have e : x = y := by
      rcases List.mem_cons.mp hx with e | e
      · exact e
      · rcases List.mem_cons.mp hy with e2 | e2
        · exact e2.symm
        · have h1 := (List.pairwise_cons.mp q1).1 y e2
          have h2 := (List.pairwise_cons.mp q2).1 x e
          omega
    rw [e]
    rfl
theorem both_first (R : List Row) (a b : Str) : atI (((course R a).filter fun x => decide (x ∈ course R b)).map V.str ++ [.str "sea"]) 0 = some (.str (meetR R a b)) := by
  unfold meetR
  cases (course R a).filter fun x => decide (x ∈ course R b) with
  | nil => exact atI_nat (j := 0) rfl
  | cons x F => exact atI_nat (j := 0) rfl
/-- River's methods, as attributes -/
structure Ms (K : PySem.W.Frag) (Cr : Addr) : Prop where
  rows : ∃ f fd, FnM K "rows" "River.rows" sRows f fd ∧ Meth K Cr "rows" f
  is_down : ∃ f fd, FnM K "is_down" "River.is_down" sIsDown f fd ∧ Meth K Cr "is_down" f
  meeting : ∃ f fd, FnM K "meeting" "River.meeting" sMeeting f fd ∧ Meth K Cr "meeting" f
  way : ∃ f fd, FnM K "way" "River.way" sWay f fd ∧ Meth K Cr "way" f
abbrev scPair_N : List Str := ["_law_river_here", "_law_rows", "_law_high", "_law_low", "_law_course_here", "_law_other", "_law_both", "_law_told", "_law_weir"]
abbrev scPair_S : Stmt := sPair
theorem scPair : FnScope scPair_N ["_law_river_here", "_law_rows", "_law_high", "_law_low"] (defScope sPair) := ⟨rfl, rfl, rfl, by decide +kernel, rfl, by decide +kernel, by decide +kernel⟩
abbrev lamP : Str := ("_law_pair_right" : Str) ++ ".<locals>." ++ "<lambda>"
def spPair (Cr : Addr) (T : List (Addr × Str)) : Sp := fun vs H Q _ => ∃ (q l : Addr) (AR : List (Addr × Row)) (a b : Str), vs = [.ref q, .ref l, .str a, .str b] ∧ RivAt Cr H q AR ∧ RowsAt H l AR ∧ GoodRows (rowsOf AR) ∧ a ∈ namesOf AR ∧ b ∈ namesOf AR ∧ Tabs T H ∧
  ∀ H', ExtN H H' → Tabs T H' → Q (.bl true) H'
section
variable {P : Program} {w : World} {K : PySem.W.Frag} {mg : Str → Option Value} {base : Heap} {tS tM tL : Tok}
theorem okC_of {CX : CXT} {x qual : Str} {st : Stmt} {f c : Addr} {fd : FuncData} {N ps : List Str} {k : Nat} {sp : Sp} (F : FnM K x qual st f fd) (hc : fd.code = .ref c) (S : FnScope N ps (defScope st)) (len : ∀ vs H Q E, sp vs H Q E → vs.length = ps.length)
    (hbody : ∀ (A : Around) (outer : List Env) (s : Shared) (H : Hp) (vs : List V) (Q : VK) (E : XK), Room k (A.deeper (envOfC qual (defScope st) s.heap.objs.size f (.ref c))) → sp vs H Q E →
      ∃ t, PSs (cxOf CX P w K mg base N qual (defScope st) f (.ref c) A outer s H E) (defBody st) t ∧ t { nx := fun _ H' => Q .non H', rt := Q } (start N vs) H) : FnOk P w K mg base CX (k + 1) f fd ps sp := by
  obtain ⟨oc, od, dV, kV, doc, pm, an, cdv, ct, osl, rfl, lk, hcd, _, _⟩ := F.ex
  have e : cdv = .ref c := hc
  subst e
  exact fn_of lk hcd S len fun A outer s H vs Q E hr hsp => hbody A outer s H vs Q E hr hsp
theorem ok_pair {f fC fR fd2 Cr Cn Cd Cw c Pt : Addr} {fd fdC fdR fdd : FuncData} {TT : List (Addr × Str)} (F : FnP K "_law_pair_right" sPair f fd) (hcode : fd.code = .ref c) (TB : TabB base mg c Pt) (hmT : (Pt, lamP) ∈ TT) (huT : ∀ z ∈ TT, z.1 = Pt → z.2 = lamP)
    (F_law_course : FnP K "_law_course" sLCourse fC fdC) (F_law_refusal : FnP K "_law_refusal" sRefusal fR fdR) (g_law_course : mg "_law_course" = some (.ref fC)) (g_law_refusal : mg "_law_refusal" = some (.ref fR))
    (R : Er K mg Cn Cd Cw) (D : Nd P w K mg base Cr Cn) (N : Nw2 P K mg Cd fd2 fdd) (S : Ms K Cr) (T : Rv K mg Cr) (B : Bl mg) (C : Gc mg tS tM tL) :
    FnOk P w K mg base CX0 8 f fd ["_law_river_here", "_law_rows", "_law_high", "_law_low"] (spPair Cr TT) := by
  obtain ⟨f1, fd1, F1, Mis_down⟩ := S.is_down
  obtain ⟨f2, fdm, F2, Mmeeting⟩ := S.meeting
  obtain ⟨f3, fd3, F3, Mway⟩ := S.way
  have Gis_down : FnOk P w K mg base (L2.CX P w) 4 f1 fd1 ["self", "high", "low"] (spTwo K Cr Cn okDown) := ok_isdown F1 D T
  have Gmeeting : FnOk P w K mg base (L2.CX P w) 4 f2 fdm ["self", "one", "other"] (spTwo K Cr Cn okMeet) := ok_meeting F2 D T C
  have bmeeting : Binds K fdm ["self", "one", "other"] [] := F2.bindsN fun _ _ _ _ _ _ us hl => match us, hl with | [_, _, _], _ => rfl
  have Gway : FnOk P w K mg base (L2.CX P w) 4 f3 fd3 ["self", "intake", "last"] (spWay K Cr Cn Cd) := ok_way F3 D N T C
  have bway : Binds K fd3 ["self", "intake", "last"] [] := F3.bindsN fun _ _ _ _ _ _ us hl => match us, hl with | [_, _, _], _ => rfl
  have k1 := kbn_isdown F1
  have k2 := kbn_meeting F2
  have k3 := kbn_way F3
  have G_law_course : FnOk P w K mg base CX0 1 fC fdC ["_law_rows", "_law_weir"] spLCourse := ok_lcourse F_law_course B
  have b_law_course : Binds K fdC ["_law_rows", "_law_weir"] [] := F_law_course.bindsN fun _ _ _ _ _ _ us hl => match us, hl with | [_, _], _ => rfl
  have bR : Binds K fdR ["_law_ask"] [] := F_law_refusal.bindsN fun _ _ _ _ _ _ us hl => match us, hl with | [_], _ => rfl
  have kR := F_law_refusal.kp
  obtain ⟨oc, od, dV, kV, doc, pm, an, cdvR, ct, osl, rfl, lkR, hcR, _, _⟩ := F_law_refusal.ex
  refine okC_of F hcode scPair (fun vs H Q E h => ?_) (fun A outer s H vs Q E hr h => ?_)
  · obtain ⟨q, l, AR, a, b, rfl, _⟩ := h
    rfl
  · obtain ⟨q, l, AR, a, b, rfl, Rv0, hR, hG, ha, hb, hT, k⟩ := h
    have hu64 := hr.units
    have hr7 : Room (5 + 2) _ := hr
    have hr4 : Room 4 _ := hr.mono (by decide)
    have hrmeeting : Room 4 _ := hr4
    have hr_law_course : Room 1 _ := hr.mono (by decide)
    refine ⟨_, PSs.nox (pss_cons
      (ps_asg (pe_tup (pa_cons (pe_call G_law_course hr_law_course (by rfl) g_law_course F_law_course.kp b_law_course .nil pass0 (pa_cons (pv 1) (pa_cons (pv 2) pa_nil))) (pa_cons (pe_call G_law_course hr_law_course (by rfl) g_law_course F_law_course.kp b_law_course .nil pass0 (pa_cons (pv 1) (pa_cons (pv 3) pa_nil))) pa_nil))) (tgK (K := K) (n := 2) (by rfl) (pgs_cons (pg_name (i := 4) scPair.nd rfl (Or.inl rfl)) (pgs_cons (pg_name (i := 5) scPair.nd rfl (Or.inr rfl)) pgs_nil))))
      (pss_cons
      (ps_set (i := 6) scPair.nd rfl (Or.inl rfl) (pe_op op_cat (pe_lc (own := [("_law_weir", 8)]) (g := gName 8)  (by rfl) scPair.nd (pi_list (pv 4)) (blkOk_by (own := [("_law_weir", 8)]) (N := scPair_N) (sc := defScope scPair_S) (by decide +kernel)) (fun _ _ _ _ _ => (pg_name (i := 8) scPair.nd rfl (Or.inl rfl))) (fun _ _ _ _ _ => (pts_one (pt_cmpR (inK (K := K)) (pv 8) (pv 5) (by rfl)))) (fun _ _ _ _ _ => (pv 8))) (pe_lst (pa_cons pe_str pa_nil))))
      (pss_cons
      (ps_if (PW.pt (pw_or (pt_cmpR op_ne (pe_meth (pv 0) T.cl Mmeeting Gmeeting hrmeeting bmeeting .nil passF (pa_cons (pv 2) (pa_cons (pv 3) pa_nil))) (pe_ix (ixLK (K := K)) (pv 6) pe_int (fun _ _ => rfl)) (nomark _)) (pw_or1 (pt_cmpR op_ne (k0_meth_kw (pv 0) T.cl Mmeeting Gmeeting hr4 k2 passF (pk_cons (pv 2) (pk_cons (pv 3) pk_nil))) (pe_ix (ixLK (K := K)) (pv 6) pe_int (fun _ _ => rfl)) (nomark _))))) (pss_one
      (ps_ret pe_bl)) pss_nil)
      (pss_cons
      (ps_set (i := 7) scPair.nd rfl (Or.inl rfl) (k0_meth_kw (pv 0) T.cl Mis_down Gis_down hr4 k1 passF (pk_cons (pv 3) (pk_cons (pv 2) pk_nil))))
      (pss_cons
      (ps_if (PW.pt (pw_or (pt_not (pt_val (pe_callB call_isi (by rfl) B.isinstance (by decide +kernel) (pa_cons (pv 7) (pa_cons (pe_bltn (v := .ty "bool") (by rfl) B.bool (by decide +kernel) rfl) pa_nil))))) (pw_or1 (pt_cmpR op_ne (pv 7) (pe_cmpR (inK (K := K)) (pv 3) (pv 4) (by rfl)) (nomark _))))) (pss_one
      (ps_ret pe_bl)) pss_nil)
      (pss_cons
      (ps_if (pt_not (pt_val (pv 7))) (pss_one
      (ps_ret (pe_cmpR (op_eqD hu64) (pe_lamcall1 (k := 5) (T := TT) (TT := TRef Cn Cd) (t := fun E => tMeth Cr "way" (spWay K Cr Cn Cd) [] E (tVar 0) (tCons (tVar 2) (tCons (tVar 3) tNil))) (by rfl) g_law_refusal kR lkR hcR bR scRefusal rfl (Or.inl rfl) (refusal_gives R B) TB rfl hmT huT hr7 (lamS_by (sc := defScope sPair) (by decide +kernel)) rfl rfl rfl (fun _ _ _ _ _ => rfl) (fun A1 o1 s1 H1 E1 fl c1 hr5 => (pe_meth (pv 0) T.cl Mway Gway (hr5.mono (by decide)) bway .nil (passes_call (takes_of rfl rfl rfl rfl) (fun _ _ _ _ h => h)) (pa_cons (pv 2) (pa_cons (pv 3) pa_nil))))) (pe_tup (pa_cons pe_str (pa_cons (pv 2) (pa_cons (pv 3) pa_nil)))) (nomark _)))) pss_nil)
      (pss_one
      (ps_ret (pe_cmpR (op_eqD hu64) (k0_meth_kw (pv 0) T.cl Mway Gway hr4 k3 passF (pk_cons (pv 3) (pk_cons (pv 2) pk_nil))) (pe_callTy (tupleK (K := K)) (by rfl) B.tuple (by decide +kernel) (pa_cons (pe_slice sl_list (pv 4) po_none (po_some (pe_op op_add (pe_bm PySem.F.plainAttrs_list PySem.F.slot_list_index PySem.F.type_list_index mt_index (pv 4) (pa_cons (pv 3) pa_nil)) pe_int))) pa_nil)) (nomark _)))))))))), ?_⟩
    have aB : ∀ {Z : Prop}, hasV AR (.str a) = false → Z := fun z => has_no ha z
    have bB : ∀ {Z : Prop}, hasV AR (.str b) = false → Z := fun z => has_no hb z
    have hca := course_len hG ha
    refine ⟨_, rfl, _, rfl, l, AR, a, rfl, hR, hG, ha, fun H1 c1 s1 nc1 hc1 => ?_⟩
    refine ⟨_, rfl, _, rfl, l, AR, b, rfl, hR.same s1, hG, hb, fun H2 c2 s2 nc2 hc2 => ?_⟩
    refine ⟨by show 2 ≤ sizeLine; decide, fun tp ntp => ?_⟩
    refine ⟨tp, _, rfl, .inl (.inl upd_same), rfl, _, _, rfl, _, _, rfl, rfl, ?_⟩
    have s3 : Same H (upd H2 tp (.tup [.ref c1, .ref c2])) := (s1.trans s2).trans (same_upd ntp)
    have hc13 := same_upd ntp (o := .tup [.ref c1, .ref c2]) _ _ (s2 _ _ hc1)
    have hc23 := same_upd ntp (o := .tup [.ref c1, .ref c2]) _ _ hc2
    generalize upd H2 tp (.tup [.ref c1, .ref c2]) = H3 at s3 hc13 hc23
    -- both
    refine ⟨_, rfl, c1, rfl, ⟨_, .inl (.inl hc13)⟩, fun D hD => ?_⟩
    refine lc_list (K := K) (a := c1) (xs := (course (rowsOf AR) a).map V.str) (fun i H4 => Same H3 H4 ∧ H4 D = some (.lst ((((course (rowsOf AR) a).take i).filter fun x => decide (x ∈ course (rowsOf AR) b)).map V.str))) ⟨same_upd hD, by rw [upd_same, List.take_zero]; rfl⟩ (fun i H4 hi h => .inl (.inl (h.1 _ _ hc13))) ?_ ?_
    · rintro i x H4 hx ⟨s4, hl⟩
      rw [List.getElem?_map] at hx
      obtain ⟨z, hz, rfl⟩ := Option.map_eq_some_iff.mp hx
      refine ⟨rfl, ?_⟩
      refine ⟨_, rfl, _, rfl, c2, _, rfl, .inl (.inl (.inl (s4 _ _ hc23))), rfl, flat_strs _, _, rfl, ?_⟩
      have hft := filter_take (p := fun x => decide (x ∈ course (rowsOf AR) b)) hz
      rw [inV_str]
      refine ite2 (fun h => ?_) (fun h => ?_)
      · have h : decide (z ∈ course (rowsOf AR) b) = true := h
        rw [if_pos h] at hft
        refine ⟨_, rfl, _, hl, ?_, fun b o hb => ?_, ?_⟩
        · rw [List.length_map]
          have := List.length_filter_le (fun x => decide (x ∈ course (rowsOf AR) b)) ((course (rowsOf AR) a).take i)
          rw [List.length_take] at this
          exact small1000 (by omega)
        · rw [upd_ne (ne_of_none hb hD)]
          exact s4 b o hb
        · rw [upd_same, hft, List.map_append]
          rfl
      · have h : ¬ decide (z ∈ course (rowsOf AR) b) = true := h
        rw [if_neg h, List.append_nil] at hft
        refine ⟨s4, ?_⟩
        rw [hft]
        exact hl
    rintro H4 ⟨s4, hl⟩
    rw [List.length_map, List.take_length] at hl
    have hFl := List.length_filter_le (fun x => decide (x ∈ course (rowsOf AR) b)) (course (rowsOf AR) a)
    refine ⟨by show 1 ≤ sizeLine; decide, fun q2 nq2 => ?_⟩
    have s5 := same_upd nq2 (o := .lst [.str "sea"])
    have hz := sizeLine_eq
    refine ⟨D, q2, _, _, rfl, rfl, s5 _ _ hl, upd_same, by rw [List.length_map]; show _ + 1 ≤ _; omega, fun r nr => ?_⟩
    have s6 : Same H3 (upd (upd H4 q2 (.lst [.str "sea"])) r (.lst (((course (rowsOf AR) a).filter fun x => decide (x ∈ course (rowsOf AR) b)).map V.str ++ [.str "sea"]))) := (s4.trans s5).trans (same_upd nr)
    have hrr : (upd (upd H4 q2 (.lst [.str "sea"])) r (.lst (((course (rowsOf AR) a).filter fun x => decide (x ∈ course (rowsOf AR) b)).map V.str ++ [.str "sea"]))) r = _ := upd_same
    have hc16 := s6 _ _ hc13
    have s06 := s3.trans s6
    generalize upd (upd H4 q2 (.lst [.str "sea"])) r (.lst (((course (rowsOf AR) a).filter fun x => decide (x ∈ course (rowsOf AR) b)).map V.str ++ [.str "sea"])) = H6 at hrr hc16 s06
    clear s6 s5 s4 hl hc13 hc23 s3
    have R6 := Same.riv s06 Rv0
    obtain ⟨dx, tw, tr, db, dc, da, du, o, h1, _⟩ := id R6.ex
    have sa := fun H' => shown_name (K := K) hG ha H'
    have sb := fun H' => shown_name (K := K) hG hb H'
    -- meeting(high, low)
    refine ⟨_, rfl, q, dx, _, rfl, h1, g7m (by decide +kernel), _, rfl, _, rfl, q, .str a, .str b, AR, rfl, R6, sa _, sb _, fun a' b' ea eb _ _ => ?_, fun z => aB z, fun _ z => bB z⟩
    cases ea
    cases eb
    refine ⟨_, rfl, r, _, 0, _, rfl, rfl, .inl (.inl hrr), both_first _ _ _, rfl, _, rfl, ?_⟩
    refine iteNo (fun z => z rfl) ?_
    refine ⟨_, rfl, q, dx, _, rfl, h1, g7m (by decide +kernel), _, rfl, _, rfl, rfl, q, .str b, .str a, AR, rfl, R6, sb _, sa _, fun a' b' ea eb _ _ => ?_, fun z => bB z, fun _ z => aB z⟩
    cases ea
    cases eb
    refine ⟨_, rfl, r, _, 0, _, rfl, rfl, .inl (.inl hrr), both_first _ _ _, rfl, _, rfl, ?_⟩
    refine iteNo (fun z => z (congrArg V.str (meet_sym hG hb ha))) ?_
    -- is_down
    refine ⟨_, rfl, q, dx, _, rfl, h1, g7m (by decide +kernel), _, rfl, _, rfl, rfl, q, .str a, .str b, AR, rfl, R6, sa _, sb _, fun a' b' ea eb _ _ => ?_, fun z => aB z, fun _ z => bB z⟩
    cases ea
    cases eb
    refine ⟨_, rfl, .bl _, .ty "bool", _, _, true, rfl, .ty "bool", .base (.bl _), kit_ty (by decide +kernel), _, rfl, ?_⟩
    refine iteF ?_
    refine ⟨_, rfl, _, rfl, _, rfl, c1, _, rfl, .inl (.inl (.inl hc16)), rfl, flat_strs _, rfl, _, rfl, ?_⟩
    refine iteNo (fun z => z (by rw [inV_str]; rfl)) ?_
    refine ⟨_, rfl, _, rfl, ?_⟩
    by_cases hin : b ∈ course (rowsOf AR) a
    · rw [decide_eq_true hin]
      refine iteF ?_
      have hlt := List.idxOf_lt_length_iff.mpr hin
      have hat : ((course (rowsOf AR) a).map V.str)[(course (rowsOf AR) a).idxOf b]? = some (.str b) := by
        rw [List.getElem?_map, List.getElem?_eq_getElem hlt, List.getElem_idxOf]
        rfl
      have hfst : ∀ (m : Nat) (z' : V), m < (course (rowsOf AR) a).idxOf b → ((course (rowsOf AR) a).map V.str)[m]? = some z' → eqV z' (.str b) = false := fun m z' hm e => by
        rw [List.getElem?_map] at e
        obtain ⟨y, hy, rfl⟩ := Option.map_eq_some_iff.mp e
        have q := List.not_of_lt_findIdx (p := fun z => z == b) (xs := course (rowsOf AR) a) hm
        obtain ⟨hml, e2⟩ := List.getElem?_eq_some_iff.mp hy
        rw [e2] at q
        exact q
      have hl : ((course (rowsOf AR) a).map V.str).length = (course (rowsOf AR) a).length := List.length_map _
      refine ⟨_, rfl, q, dx, _, rfl, h1, g7m (by decide +kernel), _, rfl, _, rfl, rfl, q, .str a, .str b, AR, rfl, R6, hG, sa _, sb _, fun a' ea _ => ⟨fun e => absurd (V.str.inj e) (hG.nm.sea _ hb), fun b' eb hb' v H7 s7 tx => ?_, fun b' eb _ hn => absurd (by rw [← V.str.inj eb, ← V.str.inj ea]; exact hin) hn, fun _ z => bB z⟩, fun z => aB z⟩
      cases ea
      cases eb
      obtain ⟨t7, rfl, ht7⟩ := tx
      have hc17 := s7 _ _ hc16
      refine ⟨_, rfl, ?_⟩
      refine ⟨_, rfl, .inl ⟨rfl, _, .inl (.inl hc17)⟩, ?_⟩
      refine ⟨_, rfl, c1, _, .str b, (course (rowsOf AR) a).idxOf b, .str b, rfl, rfl, .inl (.inl hc17), rfl, flat_strs _, hat, beq_self_eq_true b, hfst, ?_⟩
      refine ⟨_, _, rfl, rfl, ?_⟩
      refine ⟨_, rfl, c1, _, rfl, .inl (.inl hc17), fun p8 np8 => ?_⟩
      have es : HT.sIx ((course (rowsOf AR) a).map V.str).length ((course (rowsOf AR) a).map V.str).length (some (((course (rowsOf AR) a).idxOf b : Int) + 1)) = (course (rowsOf AR) a).idxOf b + 1 := by
        have e : HT.sIx ((course (rowsOf AR) a).map V.str).length ((course (rowsOf AR) a).map V.str).length (some (((course (rowsOf AR) a).idxOf b : Int) + 1)) = min ((course (rowsOf AR) a).idxOf b + 1) ((course (rowsOf AR) a).map V.str).length := HT.sIx_nat ((course (rowsOf AR) a).map V.str).length ((course (rowsOf AR) a).map V.str).length ((course (rowsOf AR) a).idxOf b + 1)
        rw [e, hl]
        omega
      have ecut : cutV ((course (rowsOf AR) a).map V.str) none (some (((course (rowsOf AR) a).idxOf b : Int) + 1)) = ((course (rowsOf AR) a).take ((course (rowsOf AR) a).idxOf b + 1)).map V.str := by
        unfold cutV
        rw [es, HT.sIx_none, List.drop_zero, Nat.sub_zero, List.map_take]
      rw [ecut]
      have s8 := same_upd np8 (o := .lst (((course (rowsOf AR) a).take ((course (rowsOf AR) a).idxOf b + 1)).map V.str))
      refine ⟨p8, _, rfl, .inl ⟨.inl (.inl upd_same), fun t9 nt9 => ?_⟩⟩
      have s9 := same_upd nt9 (o := .tup (((course (rowsOf AR) a).take ((course (rowsOf AR) a).idxOf b + 1)).map V.str))
      have plt : ∀ z ∈ (course (rowsOf AR) a).take ((course (rowsOf AR) a).idxOf b + 1), Plain z := fun z hz => plain_name hG (course_sub hG ha z (List.mem_of_mem_take hz))
      refine ⟨_, _, .tup (.inl (same_rd (s8.trans s9) ht7)) (dp_strs _), .tup (.inl (.inl upd_same)) (dp_strs _), shaped_tup plt, shaped_tup plt, ?_⟩
      rw [eqv_tups]
      have s09 := ((s06.trans s7).trans s8).trans s9
      exact k _ (ExtN.of s09) (hT.ext s09)
    · rw [decide_eq_false hin]
      refine iteT ?_
      have T6 := hT.ext s06
      refine ⟨T6, fun H7 e7 t7 Q' => ⟨_, rfl, q, dx, _, rfl, e7 _ _ h1 (fun _ z => by cases z), g7m (by decide +kernel), _, rfl, _, rfl, q, .str a, .str b, AR, rfl, rivE e7 R6, hG, sa _, sb _, fun a' ea _ =>
        ⟨fun e => absurd (V.str.inj e) (hG.nm.sea _ hb), fun b' eb hb' v H8 s8 tx => absurd (by rw [V.str.inj eb, V.str.inj ea]; exact hb') hin, fun b' eb _ hn d nd => .inl ⟨rfl, d, .str a, .str b, rfl, upd_same, fun t nt => ?_⟩, fun _ z => bB z⟩, fun z => aB z⟩⟩
      have e8 : ExtN H6 (upd (upd H7 d (.xd [(("low" : Str), .str b), (("high" : Str), .str a)])) t (.tup [.str "down", .str a, .str b])) := (e7.trans (ExtN.of (same_upd nd))).trans (ExtN.of (same_upd nt))
      have t8 := (t7.ext (same_upd nd (o := .xd [(("low" : Str), .str b), (("high" : Str), .str a)]))).ext (same_upd nt (o := .tup [.str "down", .str a, .str b]))
      have w8 : (upd (upd H7 d (.xd [(("low" : Str), .str b), (("high" : Str), .str a)])) t (.tup [.str "down", .str a, .str b])) t = some (.tup [.str "down", .str a, .str b]) := upd_same
      generalize upd (upd H7 d (.xd [(("low" : Str), .str b), (("high" : Str), .str a)])) t (.tup [.str "down", .str a, .str b]) = H8 at e8 t8 w8
      refine ⟨_, rfl, _, rfl, by show 3 ≤ sizeLine; decide, fun u nu => ?_⟩
      have s9 := same_upd nu (o := .tup [.str "down", .str a, .str b])
      have plt : ∀ z ∈ [("down" : Str), a, b], Plain z := fun z hz => by
        rcases List.mem_cons.mp hz with e | hz
        · rw [e]
          exact plain_down
        · rcases List.mem_cons.mp hz with e | hz
          · rw [e]
            exact plain_name hG ha
          · rw [List.mem_singleton.mp hz]
            exact plain_name hG hb
      refine ⟨_, _, .tup (.inl (.inl (s9 _ _ w8))) (dp_strs ["down", a, b]), .tup (.inl (.inl upd_same)) (dp_strs ["down", a, b]), shaped_tup plt, shaped_tup plt, ?_⟩
      rw [eqv_tups]
      exact k _ (((ExtN.of s06).trans e8).trans (ExtN.of s9)) (t8.ext s9)
end
end K0
end

/-! ## K1R -/
section
set_option Elab.async false
set_option linter.all false
set_option maxRecDepth 100000
set_option maxHeartbeats 8000000
namespace K0
open PySem PySem.Spec PyProof.Rows L2 LamX
theorem plain_app {x y : Str} (hx : Plain x) (hy : Plain y) : Plain (x ++ y) := fun c hc => by
  rw [app_list] at hc
  exact (List.mem_append.mp hc).elim (hx c) (hy c)
theorem plain_x : Plain ("x" : Str) := fun c hc => by
  have : c = 120 := by simpa using (show c ∈ [120] from hc)
  omega
theorem plain_y : Plain ("y" : Str) := fun c hc => by
  have : c = 121 := by simpa using (show c ∈ [121] from hc)
  omega
theorem plain_yy : Plain ("yy" : Str) := plain_app (x := "y") (y := "y") plain_y plain_y
theorem plain_q : Plain ("q" : Str) := fun c hc => by
  have : c = 113 := by simpa using (show c ∈ [113] from hc)
  omega
theorem plain_e : Plain ("" : Str) := fun c hc => nomatch (show c ∈ ([] : List Nat) from hc)
theorem plain_weir : Plain ("weir" : Str) := fun c hc => by
  have : c = 119 ∨ c = 101 ∨ c = 105 ∨ c = 114 := by simpa using (show c ∈ [119, 101, 105, 114] from hc)
  omega
theorem not_e {AR : List (Addr × Row)} (g : GoodRows (rowsOf AR)) : hasV AR (.str "") = false := by
  refine decide_eq_false fun h => ?_
  have := (g.nm.ok _ h).one
  exact absurd this (by decide +kernel)
theorem not_on {AR : List (Addr × Row)} (g : GoodRows (rowsOf AR)) {x t : Str} (hx : x ∈ namesOf AR) (h1 : t.cps.toList ≠ []) (h2 : t.cps.toList.getLast? ≠ some 115) : hasV AR (.str (x ++ t)) = false := decide_eq_false (g.nm.on x hx t h1 h2)
theorem not_dd {AR : List (Addr × Row)} (g : GoodRows (rowsOf AR)) {x : Str} (hx : x ∈ namesOf AR) : hasV AR (.str (x ++ x)) = false := decide_eq_false (g.nm.dd x hx)
theorem not_sea {AR : List (Addr × Row)} (g : GoodRows (rowsOf AR)) : hasV AR (.str "sea") = false := decide_eq_false fun h => g.nm.sea _ h rfl
theorem app_sea {x t : Str} (h : t.cps.toList.getLast? ≠ some 97) (h0 : t.cps.toList ≠ []) : x ++ t ≠ ("sea" : Str) := fun e => by
  have e2 := congrArg (fun z : Str => z.cps.toList.getLast?) e
  have e2 : (x ++ t).cps.toList.getLast? = some 97 := e2
  rw [app_list, List.getLast?_append] at e2
  cases q : t.cps.toList.getLast? with
  | none => exact h0 (List.getLast?_eq_none_iff.mp q)
  | some c =>
    rw [q] at e2 h
    exact h e2
theorem dd_sea {x : Str} : x ++ x ≠ ("sea" : Str) := fun e => by
  have e2 := congrArg (fun z : Str => z.cps.toList.length) e
  have e2 : (x ++ x).cps.toList.length = 3 := e2
  rw [app_list, List.length_append] at e2
  omega
theorem shown_pair {K : PySem.W.Frag} {H : Hp} {x : V} (h : Shown K H x) : ∃ d, Dp K H x d ∧ SeqAt.shaped (.tuple [.str "weir", d]) = true ∧ PyData.eqv (.tuple [.str "weir", d]) (.tuple [.str "weir", d]) = true := by
  have two : ∀ {y : Str}, Plain y → ∀ z ∈ [("weir" : Str), y], Plain z := fun hy z hz => by
    rcases List.mem_cons.mp hz with e | hz
    · rw [e]
      exact plain_weir
    · rw [List.mem_singleton.mp hz]
      exact hy
  have pw := plain_ok plain_weir
  cases h with
  | str y hp _ => exact ⟨_, .str y, shaped_tup (two hp), eqv_tups ["weir", y]⟩
  | non => exact ⟨_, .non, by decide +kernel, by simp only [PyData.eqv, PyData.eqvAll, beq_self_eq_true, Bool.and_self]⟩
  | bl b => exact ⟨.bool b, .bl b, by cases b <;> decide +kernel, by simp only [PyData.eqv, PyData.eqvAll, beq_self_eq_true, Bool.and_self]⟩
  | int i _ _ => exact ⟨.int i, .int i, by
      unfold SeqAt.shaped
      simp only [PyData.canLay0, PyData.canLayAll0, PyData.depth, PyData.depthAll, pw]
      rfl, by simp only [PyData.eqv, PyData.eqvAll, beq_self_eq_true, Bool.and_self]⟩
  | @lst a l e hp _ => exact ⟨_, .lst (.of e) (dp_strs l), by
      unfold SeqAt.shaped
      simp only [PyData.canLay0, PyData.canLayAll0, PyData.depth, PyData.depthAll, pw, canLay_strs hp, depth_strs]
      decide, by simp only [PyData.eqv, PyData.eqvAll, beq_self_eq_true, Bool.and_self, eqv_strs]⟩
  | @tup a l e hp _ => exact ⟨_, .tup (.inl (.inl e)) (dp_strs l), by
      unfold SeqAt.shaped
      simp only [PyData.canLay0, PyData.canLayAll0, PyData.depth, PyData.depthAll, pw, canLay_strs hp, depth_strs]
      decide, by simp only [PyData.eqv, PyData.eqvAll, beq_self_eq_true, Bool.and_self, eqv_strs]⟩
theorem app2 {α β : Type} {F : α → β → Prop} {C : α → Prop} {x : α} {y : β} (h : C x) (e : C = fun c => F c y) : F x y := by
  rw [e] at h
  exact h
theorem split_q {α : Type} {R C : α → Prop} {G : Prop} (use : (∀ c, R c → C c) → G) (key : ∀ c, R c → C c) : G := use key
/-! ### a refused question -/
theorem told_bad {Cn Cd : Addr} {H : Hp} {z : V} {Q : VK} (k : ∀ d t, H d = none → (upd H d (.xd [(("name" : Str), z)])) t = none → Q (.ref t) (upd (upd H d (.xd [(("name" : Str), z)])) t (.tup [.str "weir", z]))) : bad (Told Cn Cd Q) Cn H z :=
  fun d nd => .inr ⟨rfl, d, z, rfl, upd_same, fun t nt => k d t nd nt⟩
theorem two_bad {K : PySem.W.Frag} {Cr Cn : Addr} {ok : List Row → Str → Str → V} {H : Hp} {q : Addr} {AR : List (Addr × Row)} {x y z : V} {Q : VK} {E : XK} (R : RivAt Cr H q AR) (sx : Shown K H x) (sy : Shown K H y)
    (h : (hasV AR x = false ∧ z = x) ∨ (hasV AR x = true ∧ hasV AR y = false ∧ z = y)) (k : bad E Cn H z) : spTwo K Cr Cn ok [.ref q, x, y] H Q E := by
  refine ⟨q, x, y, AR, rfl, R, sx, sy, fun a b ea eb ha hb => ?_, fun nx => ?_, fun hx ny => ?_⟩
  · rcases h with ⟨n, _⟩ | ⟨_, n, _⟩
    · rw [ea] at n
      exact has_no ha n
    · rw [eb] at n
      exact has_no hb n
  · rcases h with ⟨_, e⟩ | ⟨p, _⟩
    · rw [e] at k
      exact k
    · rw [p] at nx
      cases nx
  · rcases h with ⟨n, _⟩ | ⟨_, _, e⟩
    · rw [n] at hx
      cases hx
    · rw [e] at k
      exact k
theorem way_bad {K : PySem.W.Frag} {Cr Cn Cd : Addr} {H : Hp} {q : Addr} {AR : List (Addr × Row)} {x y z : V} {Q : VK} {E : XK} (R : RivAt Cr H q AR) (g : GoodRows (rowsOf AR)) (sx : Shown K H x) (sy : Shown K H y)
    (h : (hasV AR x = false ∧ z = x) ∨ (hasV AR x = true ∧ hasV AR y = false ∧ y ≠ .str "sea" ∧ z = y)) (k : bad E Cn H z) : spWay K Cr Cn Cd [.ref q, x, y] H Q E := by
  refine ⟨q, x, y, AR, rfl, R, g, sx, sy, fun a ea ha => ⟨fun e => ?_, fun b eb hb v H2 _ _ => ?_, fun b eb hb _ => ?_, fun _ ny => ?_⟩, fun nx => ?_⟩
  · rcases h with ⟨n, _⟩ | ⟨_, _, n, _⟩
    · rw [ea] at n
      exact has_no ha n
    · exact absurd e n
  · rcases h with ⟨n, _⟩ | ⟨_, n, _, _⟩
    · rw [ea] at n
      exact has_no ha n
    · rw [eb] at n
      exact has_no (course_sub g ha b hb) n
  · rcases h with ⟨n, _⟩ | ⟨_, n, _, _⟩
    · rw [ea] at n
      exact has_no ha n
    · rw [eb] at n
      exact has_no hb n
  · rcases h with ⟨n, _⟩ | ⟨_, _, _, e⟩
    · rw [ea] at n
      exact has_no ha n
    · rw [e] at k
      exact k
  · rcases h with ⟨_, e⟩ | ⟨p, _⟩
    · rw [e] at k
      exact k
    · rw [p] at nx
      cases nx
abbrev scRefuses_N : List Str := ["_law_bag_here", "_law_river_here", "_law_rows", "_law_good", "_law_other", "_law_odd", "_law_late"]
theorem scRefuses : FnScope scRefuses_N ["_law_bag_here", "_law_river_here", "_law_rows"] (defScope sRefuses) := ⟨rfl, rfl, rfl, by decide +kernel, rfl, by decide +kernel, by decide +kernel⟩
abbrev lamQ : Str := ("_law_refuses_right" : Str) ++ ".<locals>." ++ "<lambda>"
def spRefuses (Cr : Addr) (T : List (Addr × Str)) : Sp := fun vs H Q _ => ∃ (p q l : Addr) (AR : List (Addr × Row)), vs = [.ref p, .ref q, .ref l] ∧ BagAt H p ∧ RivAt Cr H q AR ∧ RowsAt H l AR ∧ GoodRows (rowsOf AR) ∧ l ≠ p ∧ Tabs T H ∧
  ∀ H', UptoT p H H' → BagAt H' p → Tabs T H' → Q (.bl true) H'
section
variable {P : Program} {w : World} {K : PySem.W.Frag} {mg : Str → Option Value} {base : Heap} {tS tM tL : Tok}
theorem ok_refuses {f fT fO fR fd2 Cr Cn Cd Cw c Pt : Addr} {fd fdT fdO fdR fdd : FuncData} {TT : List (Addr × Str)} (F : FnP K "_law_refuses_right" sRefuses f fd) (hcode : fd.code = .ref c) (TB : TabB base mg c Pt) (hmT : (Pt, lamQ) ∈ TT) (huT : ∀ z ∈ TT, z.1 = Pt → z.2 = lamQ)
    (F_law_take : FnP K "_law_take" sTake fT fdT) (F_law_of : FnP K "_law_of" sOf fO fdO) (F_law_refusal : FnP K "_law_refusal" sRefusal fR fdR) (g_law_take : mg "_law_take" = some (.ref fT)) (g_law_of : mg "_law_of" = some (.ref fO)) (g_law_refusal : mg "_law_refusal" = some (.ref fR))
    (R : Er K mg Cn Cd Cw) (D : Nd P w K mg base Cr Cn) (N : Nw2 P K mg Cd fd2 fdd) (S : Ms K Cr) (T : Rv K mg Cr) (B : Bl mg) (C : Gc mg tS tM tL) :
    FnOk P w K mg base CX0 8 f fd ["_law_bag_here", "_law_river_here", "_law_rows"] (spRefuses Cr TT) := by
  obtain ⟨f1, fd1, F1, Mis_down⟩ := S.is_down
  obtain ⟨f2, fdm, F2, Mmeeting⟩ := S.meeting
  obtain ⟨f3, fd3, F3, Mway⟩ := S.way
  have Gis_down : FnOk P w K mg base (L2.CX P w) 4 f1 fd1 ["self", "high", "low"] (spTwo K Cr Cn okDown) := ok_isdown F1 D T
  have bis_down : Binds K fd1 ["self", "high", "low"] [] := F1.bindsN fun _ _ _ _ _ _ us hl => match us, hl with | [_, _, _], _ => rfl
  have Gmeeting : FnOk P w K mg base (L2.CX P w) 4 f2 fdm ["self", "one", "other"] (spTwo K Cr Cn okMeet) := ok_meeting F2 D T C
  have bmeeting : Binds K fdm ["self", "one", "other"] [] := F2.bindsN fun _ _ _ _ _ _ us hl => match us, hl with | [_, _, _], _ => rfl
  have Gway : FnOk P w K mg base (L2.CX P w) 4 f3 fd3 ["self", "intake", "last"] (spWay K Cr Cn Cd) := ok_way F3 D N T C
  have bway : Binds K fd3 ["self", "intake", "last"] [] := F3.bindsN fun _ _ _ _ _ _ us hl => match us, hl with | [_, _, _], _ => rfl
  have G_law_of : FnOk P w K mg base CX0 2 fO fdO ["_law_bag_here", "_law_some"] (spOf K) := ok_of F_law_of F_law_take B g_law_take
  have b_law_of : Binds K fdO ["_law_bag_here", "_law_some"] [] := F_law_of.bindsN fun _ _ _ _ _ _ us hl => match us, hl with | [_, _], _ => rfl
  have bR : Binds K fdR ["_law_ask"] [] := F_law_refusal.bindsN fun _ _ _ _ _ _ us hl => match us, hl with | [_], _ => rfl
  have kR := F_law_refusal.kp
  obtain ⟨oc, od, dV, kV, doc, pm, an, cdvR, ct, osl, rfl, lkR, hcR, _, _⟩ := F_law_refusal.ex
  refine okC_of F hcode scRefuses (fun vs H Q E h => ?_) (fun A outer s H vs Q E hr h => ?_)
  · obtain ⟨p, q, l, AR, rfl, _⟩ := h
    rfl
  · obtain ⟨p, q, l, AR, rfl, hB, Rv0, hR, hG, hlp, hT, k⟩ := h
    have hu64 := hr.units
    have hr7 : Room (5 + 2) _ := hr
    have hr_law_of : Room 2 _ := hr.mono (by decide)
    refine ⟨_, PSs.nox (pss_cons
      (ps_asg (pe_tup (pa_cons (pe_ix (ixTK (K := K)) (pe_call G_law_of hr_law_of (by rfl) g_law_of F_law_of.kp b_law_of .nil pass0 (pa_cons (pv 0) (pa_cons (pv 2) pa_nil))) pe_int (fun _ _ => rfl)) (pa_cons (pe_ix (ixTK (K := K)) (pe_call G_law_of hr_law_of (by rfl) g_law_of F_law_of.kp b_law_of .nil pass0 (pa_cons (pv 0) (pa_cons (pv 2) pa_nil))) pe_int (fun _ _ => rfl)) pa_nil))) (tgK (K := K) (n := 2) (by rfl) (pgs_cons (pg_name (i := 3) scRefuses.nd rfl (Or.inr rfl)) (pgs_cons (pg_name (i := 4) scRefuses.nd rfl (Or.inr rfl)) pgs_nil))))
      (pss_cons
      (ps_set (i := 5) scRefuses.nd rfl (Or.inr rfl) (pe_call G_law_of hr_law_of (by rfl) g_law_of F_law_of.kp b_law_of .nil pass0 (pa_cons (pv 0) (pa_cons (pe_lst (pa_cons (pe_op op_add_str (pv 3) pe_str) (pa_cons (pe_op op_add_str (pv 3) (pv 3)) (pa_cons pe_str (pa_cons pe_non (pa_cons pe_int (pa_cons (pe_lst (pa_cons (pv 3) pa_nil)) (pa_cons (pe_tup (pa_cons pe_str pa_nil)) pa_nil)))))))) pa_nil))))
      (pss_cons
      (ps_set (i := 6) scRefuses.nd rfl (Or.inr rfl) (pe_call G_law_of hr_law_of (by rfl) g_law_of F_law_of.kp b_law_of .nil pass0 (pa_cons (pv 0) (pa_cons (pe_lst (pa_cons (pe_op op_add_str (pv 4) pe_str) (pa_cons (pe_op op_add_str (pv 4) (pv 4)) (pa_cons pe_str (pa_cons pe_bl (pa_cons pe_int (pa_cons (pe_tup (pa_cons (pv 4) pa_nil)) (pa_cons (pe_lst (pa_cons pe_str pa_nil)) pa_nil)))))))) pa_nil))))
      (pss_cons
      (ps_set (i := 6) scRefuses.nd rfl (Or.inr rfl) (pe_ifExp (pt_cmpR (op_eqD hu64) (pv 6) pe_str (nomark _)) (pe_op op_add_str (pv 4) pe_str) (pv 6)))
      (pss_cons
      (ps_if (pt_cmpR (op_neD hu64) (pe_lamcall1 (k := 5) (T := TT) (TT := TRef Cn Cd) (t := fun E => tMeth Cr "is_down" (spTwo K Cr Cn okDown) [] E (tVar 1) (tCons (tVar 5) (tCons (tVar 6) tNil))) (by rfl) g_law_refusal kR lkR hcR bR scRefusal rfl (Or.inl rfl) (refusal_gives R B) TB rfl hmT huT hr7 (lamS_by (sc := defScope sRefuses) (by decide +kernel)) rfl rfl rfl (fun _ _ _ _ _ => rfl) (fun A1 o1 s1 H1 E1 fl c1 hr5 => (pe_meth (pv 1) T.cl Mis_down Gis_down (hr5.mono (by decide)) bis_down .nil (passes_call (takes_of rfl rfl rfl rfl) (fun _ _ _ _ h => h)) (pa_cons (pv 5) (pa_cons (pv 6) pa_nil))))) (pe_tup (pa_cons pe_str (pa_cons (pv 5) pa_nil))) (nomark _)) (pss_one
      (ps_ret pe_bl)) pss_nil)
      (pss_cons
      (ps_if (pt_cmpR (op_neD hu64) (pe_lamcall1 (k := 5) (T := TT) (TT := TRef Cn Cd) (t := fun E => tMeth Cr "is_down" (spTwo K Cr Cn okDown) [] E (tVar 1) (tCons (tVar 3) (tCons (tVar 6) tNil))) (by rfl) g_law_refusal kR lkR hcR bR scRefusal rfl (Or.inl rfl) (refusal_gives R B) TB rfl hmT huT hr7 (lamS_by (sc := defScope sRefuses) (by decide +kernel)) rfl rfl rfl (fun _ _ _ _ _ => rfl) (fun A1 o1 s1 H1 E1 fl c1 hr5 => (pe_meth (pv 1) T.cl Mis_down Gis_down (hr5.mono (by decide)) bis_down .nil (passes_call (takes_of rfl rfl rfl rfl) (fun _ _ _ _ h => h)) (pa_cons (pv 3) (pa_cons (pv 6) pa_nil))))) (pe_tup (pa_cons pe_str (pa_cons (pv 6) pa_nil))) (nomark _)) (pss_one
      (ps_ret pe_bl)) pss_nil)
      (pss_cons
      (ps_if (pt_cmpR (op_neD hu64) (pe_lamcall1 (k := 5) (T := TT) (TT := TRef Cn Cd) (t := fun E => tMeth Cr "meeting" (spTwo K Cr Cn okMeet) [] E (tVar 1) (tCons (tVar 5) (tCons (tVar 6) tNil))) (by rfl) g_law_refusal kR lkR hcR bR scRefusal rfl (Or.inl rfl) (refusal_gives R B) TB rfl hmT huT hr7 (lamS_by (sc := defScope sRefuses) (by decide +kernel)) rfl rfl rfl (fun _ _ _ _ _ => rfl) (fun A1 o1 s1 H1 E1 fl c1 hr5 => (pe_meth (pv 1) T.cl Mmeeting Gmeeting (hr5.mono (by decide)) bmeeting .nil (passes_call (takes_of rfl rfl rfl rfl) (fun _ _ _ _ h => h)) (pa_cons (pv 5) (pa_cons (pv 6) pa_nil))))) (pe_tup (pa_cons pe_str (pa_cons (pv 5) pa_nil))) (nomark _)) (pss_one
      (ps_ret pe_bl)) pss_nil)
      (pss_cons
      (ps_if (pt_cmpR (op_neD hu64) (pe_lamcall1 (k := 5) (T := TT) (TT := TRef Cn Cd) (t := fun E => tMeth Cr "meeting" (spTwo K Cr Cn okMeet) [] E (tVar 1) (tCons (tVar 4) (tCons (tVar 6) tNil))) (by rfl) g_law_refusal kR lkR hcR bR scRefusal rfl (Or.inl rfl) (refusal_gives R B) TB rfl hmT huT hr7 (lamS_by (sc := defScope sRefuses) (by decide +kernel)) rfl rfl rfl (fun _ _ _ _ _ => rfl) (fun A1 o1 s1 H1 E1 fl c1 hr5 => (pe_meth (pv 1) T.cl Mmeeting Gmeeting (hr5.mono (by decide)) bmeeting .nil (passes_call (takes_of rfl rfl rfl rfl) (fun _ _ _ _ h => h)) (pa_cons (pv 4) (pa_cons (pv 6) pa_nil))))) (pe_tup (pa_cons pe_str (pa_cons (pv 6) pa_nil))) (nomark _)) (pss_one
      (ps_ret pe_bl)) pss_nil)
      (pss_cons
      (ps_if (pt_cmpR (op_neD hu64) (pe_lamcall1 (k := 5) (T := TT) (TT := TRef Cn Cd) (t := fun E => tMeth Cr "meeting" (spTwo K Cr Cn okMeet) [] E (tVar 1) (tCons (tC (V.str "sea")) (tCons (tVar 4) tNil))) (by rfl) g_law_refusal kR lkR hcR bR scRefusal rfl (Or.inl rfl) (refusal_gives R B) TB rfl hmT huT hr7 (lamS_by (sc := defScope sRefuses) (by decide +kernel)) rfl rfl rfl (fun _ _ _ _ _ => rfl) (fun A1 o1 s1 H1 E1 fl c1 hr5 => (pe_meth (pv 1) T.cl Mmeeting Gmeeting (hr5.mono (by decide)) bmeeting .nil (passes_call (takes_of rfl rfl rfl rfl) (fun _ _ _ _ h => h)) (pa_cons pe_str (pa_cons (pv 4) pa_nil))))) (pe_tup (pa_cons pe_str (pa_cons pe_str pa_nil))) (nomark _)) (pss_one
      (ps_ret pe_bl)) pss_nil)
      (pss_cons
      (ps_if (pt_cmpR (op_neD hu64) (pe_lamcall1 (k := 5) (T := TT) (TT := TRef Cn Cd) (t := fun E => tMeth Cr "is_down" (spTwo K Cr Cn okDown) [] E (tVar 1) (tCons (tVar 4) (tCons (tC (V.str "sea")) tNil))) (by rfl) g_law_refusal kR lkR hcR bR scRefusal rfl (Or.inl rfl) (refusal_gives R B) TB rfl hmT huT hr7 (lamS_by (sc := defScope sRefuses) (by decide +kernel)) rfl rfl rfl (fun _ _ _ _ _ => rfl) (fun A1 o1 s1 H1 E1 fl c1 hr5 => (pe_meth (pv 1) T.cl Mis_down Gis_down (hr5.mono (by decide)) bis_down .nil (passes_call (takes_of rfl rfl rfl rfl) (fun _ _ _ _ h => h)) (pa_cons (pv 4) (pa_cons pe_str pa_nil))))) (pe_tup (pa_cons pe_str (pa_cons pe_str pa_nil))) (nomark _)) (pss_one
      (ps_ret pe_bl)) pss_nil)
      (pss_cons
      (ps_if (pt_cmpR (op_neD hu64) (pe_lamcall1 (k := 5) (T := TT) (TT := TRef Cn Cd) (t := fun E => tMeth Cr "meeting" (spTwo K Cr Cn okMeet) [] E (tVar 1) (tCons (tVar 4) (tCons (tC (V.str "sea")) tNil))) (by rfl) g_law_refusal kR lkR hcR bR scRefusal rfl (Or.inl rfl) (refusal_gives R B) TB rfl hmT huT hr7 (lamS_by (sc := defScope sRefuses) (by decide +kernel)) rfl rfl rfl (fun _ _ _ _ _ => rfl) (fun A1 o1 s1 H1 E1 fl c1 hr5 => (pe_meth (pv 1) T.cl Mmeeting Gmeeting (hr5.mono (by decide)) bmeeting .nil (passes_call (takes_of rfl rfl rfl rfl) (fun _ _ _ _ h => h)) (pa_cons (pv 4) (pa_cons pe_str pa_nil))))) (pe_tup (pa_cons pe_str (pa_cons pe_str pa_nil))) (nomark _)) (pss_one
      (ps_ret pe_bl)) pss_nil)
      (pss_cons
      (ps_if (pt_cmpR (op_neD hu64) (pe_lamcall1 (k := 5) (T := TT) (TT := TRef Cn Cd) (t := fun E => tMeth Cr "is_down" (spTwo K Cr Cn okDown) [] E (tVar 1) (tCons (tC (V.str "sea")) (tCons (tVar 4) tNil))) (by rfl) g_law_refusal kR lkR hcR bR scRefusal rfl (Or.inl rfl) (refusal_gives R B) TB rfl hmT huT hr7 (lamS_by (sc := defScope sRefuses) (by decide +kernel)) rfl rfl rfl (fun _ _ _ _ _ => rfl) (fun A1 o1 s1 H1 E1 fl c1 hr5 => (pe_meth (pv 1) T.cl Mis_down Gis_down (hr5.mono (by decide)) bis_down .nil (passes_call (takes_of rfl rfl rfl rfl) (fun _ _ _ _ h => h)) (pa_cons pe_str (pa_cons (pv 4) pa_nil))))) (pe_tup (pa_cons pe_str (pa_cons pe_str pa_nil))) (nomark _)) (pss_one
      (ps_ret pe_bl)) pss_nil)
      (pss_cons
      (ps_if (pt_cmpR (op_neD hu64) (pe_lamcall1 (k := 5) (T := TT) (TT := TRef Cn Cd) (t := fun E => tMeth Cr "way" (spWay K Cr Cn Cd) [] E (tVar 1) (tCons (tC (V.str "sea")) (tCons (tVar 3) tNil))) (by rfl) g_law_refusal kR lkR hcR bR scRefusal rfl (Or.inl rfl) (refusal_gives R B) TB rfl hmT huT hr7 (lamS_by (sc := defScope sRefuses) (by decide +kernel)) rfl rfl rfl (fun _ _ _ _ _ => rfl) (fun A1 o1 s1 H1 E1 fl c1 hr5 => (pe_meth (pv 1) T.cl Mway Gway (hr5.mono (by decide)) bway .nil (passes_call (takes_of rfl rfl rfl rfl) (fun _ _ _ _ h => h)) (pa_cons pe_str (pa_cons (pv 3) pa_nil))))) (pe_tup (pa_cons pe_str (pa_cons pe_str pa_nil))) (nomark _)) (pss_one
      (ps_ret pe_bl)) pss_nil)
      (pss_cons
      (ps_if (pt_cmpR (op_neD hu64) (pe_lamcall1 (k := 5) (T := TT) (TT := TRef Cn Cd) (t := fun E => tMeth Cr "way" (spWay K Cr Cn Cd) [] E (tVar 1) (tCons (tC (V.str "sea")) (tCons (tC (V.str "sea")) tNil))) (by rfl) g_law_refusal kR lkR hcR bR scRefusal rfl (Or.inl rfl) (refusal_gives R B) TB rfl hmT huT hr7 (lamS_by (sc := defScope sRefuses) (by decide +kernel)) rfl rfl rfl (fun _ _ _ _ _ => rfl) (fun A1 o1 s1 H1 E1 fl c1 hr5 => (pe_meth (pv 1) T.cl Mway Gway (hr5.mono (by decide)) bway .nil (passes_call (takes_of rfl rfl rfl rfl) (fun _ _ _ _ h => h)) (pa_cons pe_str (pa_cons pe_str pa_nil))))) (pe_tup (pa_cons pe_str (pa_cons pe_str pa_nil))) (nomark _)) (pss_one
      (ps_ret pe_bl)) pss_nil)
      (pss_cons
      (ps_if (pt_cmpR (op_neD hu64) (pe_lamcall1 (k := 5) (T := TT) (TT := TRef Cn Cd) (t := fun E => tMeth Cr "way" (spWay K Cr Cn Cd) [] E (tVar 1) (tCons (tVar 5) (tCons (tC (V.str "sea")) tNil))) (by rfl) g_law_refusal kR lkR hcR bR scRefusal rfl (Or.inl rfl) (refusal_gives R B) TB rfl hmT huT hr7 (lamS_by (sc := defScope sRefuses) (by decide +kernel)) rfl rfl rfl (fun _ _ _ _ _ => rfl) (fun A1 o1 s1 H1 E1 fl c1 hr5 => (pe_meth (pv 1) T.cl Mway Gway (hr5.mono (by decide)) bway .nil (passes_call (takes_of rfl rfl rfl rfl) (fun _ _ _ _ h => h)) (pa_cons (pv 5) (pa_cons pe_str pa_nil))))) (pe_tup (pa_cons pe_str (pa_cons (pv 5) pa_nil))) (nomark _)) (pss_one
      (ps_ret pe_bl)) pss_nil)
      (pss_cons
      (ps_if (pt_cmpR (op_neD hu64) (pe_lamcall1 (k := 5) (T := TT) (TT := TRef Cn Cd) (t := fun E => tMeth Cr "way" (spWay K Cr Cn Cd) [] E (tVar 1) (tCons (tVar 5) (tCons (tVar 6) tNil))) (by rfl) g_law_refusal kR lkR hcR bR scRefusal rfl (Or.inl rfl) (refusal_gives R B) TB rfl hmT huT hr7 (lamS_by (sc := defScope sRefuses) (by decide +kernel)) rfl rfl rfl (fun _ _ _ _ _ => rfl) (fun A1 o1 s1 H1 E1 fl c1 hr5 => (pe_meth (pv 1) T.cl Mway Gway (hr5.mono (by decide)) bway .nil (passes_call (takes_of rfl rfl rfl rfl) (fun _ _ _ _ h => h)) (pa_cons (pv 5) (pa_cons (pv 6) pa_nil))))) (pe_tup (pa_cons pe_str (pa_cons (pv 5) pa_nil))) (nomark _)) (pss_one
      (ps_ret pe_bl)) pss_nil)
      (pss_one
      (ps_ret (pe_cmpR (op_eqD hu64) (pe_lamcall1 (k := 5) (T := TT) (TT := TRef Cn Cd) (t := fun E => tMeth Cr "way" (spWay K Cr Cn Cd) [] E (tVar 1) (tCons (tVar 3) (tCons (tVar 6) tNil))) (by rfl) g_law_refusal kR lkR hcR bR scRefusal rfl (Or.inl rfl) (refusal_gives R B) TB rfl hmT huT hr7 (lamS_by (sc := defScope sRefuses) (by decide +kernel)) rfl rfl rfl (fun _ _ _ _ _ => rfl) (fun A1 o1 s1 H1 E1 fl c1 hr5 => (pe_meth (pv 1) T.cl Mway Gway (hr5.mono (by decide)) bway .nil (passes_call (takes_of rfl rfl rfl rfl) (fun _ _ _ _ h => h)) (pa_cons (pv 3) (pa_cons (pv 6) pa_nil))))) (pe_tup (pa_cons pe_str (pa_cons (pv 6) pa_nil))) (nomark _)))))))))))))))))))), ?_⟩
    have hRm := hG.most
    have hR1 := hG.one
    have hAl : (rowsOf AR).length = AR.length := List.length_map _
    have z40 : 40000 ≤ sizeLine := by rw [sizeLine_eq]; omega
    -- good
    refine ⟨_, rfl, _, rfl, p, l, AR.map (fun q => V.ref q.1), rfl, hB, hlp, .inl (.inl hR.lst), by rw [List.length_map]; omega, by rw [List.length_map]; omega, fun i1 v1 x1 hv1 hx1 => ?_⟩
    have hi1 : i1 < AR.length := by
      have := (List.getElem?_eq_some_iff.mp hv1).1
      rw [List.length_map] at this
      exact this
    have ev := row_at hv1 hi1
    subst ev
    have B1 : BagAt (upd H p (.lst x1)) p := ⟨x1, upd_same, hx1⟩
    have u1 : Upto p H (upd H p (.lst x1)) := Upto.at_
    have T1 := tabs_upto hB u1 hT
    have R1 := rivUp hB u1 Rv0
    have L1 := hR.upto hB hlp u1
    generalize upd H p (.lst x1) = H1 at u1 B1 T1 R1 L1
    refine ⟨AR[i1].1, _, 0, _, rfl, rfl, .inl (.inl (L1.tup _ (List.getElem_mem hi1))), atI_nat (j := 0) rfl, ?_⟩
    have hg : AR[i1].2.1 ∈ namesOf AR := List.mem_map.mpr ⟨_, List.mem_map.mpr ⟨_, List.getElem_mem hi1, rfl⟩, rfl⟩
    generalize AR[i1].2.1 = good at hg ⊢
    -- other
    refine ⟨_, rfl, _, rfl, p, l, AR.map (fun q => V.ref q.1), rfl, B1, hlp, .inl (.inl L1.lst), by rw [List.length_map]; omega, by rw [List.length_map]; omega, fun i2 v2 x2 hv2 hx2 => ?_⟩
    have hi2 : i2 < AR.length := by
      have := (List.getElem?_eq_some_iff.mp hv2).1
      rw [List.length_map] at this
      exact this
    have ev := row_at hv2 hi2
    subst ev
    have B2 : BagAt (upd H1 p (.lst x2)) p := ⟨x2, upd_same, hx2⟩
    have u2 : Upto p H1 (upd H1 p (.lst x2)) := Upto.at_
    have T2 := tabs_upto B1 u2 T1
    have R2 := rivUp B1 u2 R1
    have L2 := L1.upto B1 hlp u2
    have u02 := u1.trans u2
    generalize upd H1 p (.lst x2) = H2 at u02 B2 T2 R2 L2
    refine ⟨AR[i2].1, _, 0, _, rfl, rfl, .inl (.inl (L2.tup _ (List.getElem_mem hi2))), atI_nat (j := 0) rfl, ?_⟩
    have ho : AR[i2].2.1 ∈ namesOf AR := List.mem_map.mpr ⟨_, List.mem_map.mpr ⟨_, List.getElem_mem hi2, rfl⟩, rfl⟩
    generalize AR[i2].2.1 = other at ho ⊢
    clear u2 u1 T1 R1 L1 B1
    refine ⟨by show 2 ≤ sizeLine; decide, fun tp ntp => ?_⟩
    refine ⟨tp, _, rfl, .inl (.inl upd_same), rfl, _, _, rfl, _, _, rfl, rfl, ?_⟩
    have s3 : Same H2 (upd H2 tp (.tup [.str good, .str other])) := same_upd ntp
    generalize upd H2 tp (.tup [.str good, .str other]) = H3 at s3 ⊢
    have pg := plain_name hG hg
    have po := plain_name hG ho
    have lg : good.length ≤ 8 := by
      have := (hG.nm.ok good hg).most
      rw [len_list]
      exact this
    have lo : other.length ≤ 8 := by
      have := (hG.nm.ok other ho).most
      rw [len_list]
      exact this
    -- odd
    refine ⟨_, rfl, _, rfl, good, "x", rfl, rfl, by show _ + 1 ≤ _; omega, _, rfl, _, rfl, good, good, rfl, rfl, by omega, _, rfl, by show 1 ≤ _; omega, fun c1 n1 => ⟨by show 1 ≤ _; omega, fun t1 n2 => ⟨by show 7 ≤ _; omega, fun L n4 => ?_⟩⟩⟩
    have s4 : Same H3 (upd H3 c1 (.lst [.str good])) := same_upd n1
    have w4 : (upd H3 c1 (.lst [.str good])) c1 = some (.lst [.str good]) := upd_same
    generalize upd H3 c1 (.lst [.str good]) = H4 at s4 w4 n2 n4 ⊢
    have s5 : Same H4 (upd H4 t1 (.tup [.str "sea"])) := same_upd n2
    have w5 : (upd H4 t1 (.tup [.str "sea"])) t1 = some (.tup [.str "sea"]) := upd_same
    generalize upd H4 t1 (.tup [.str "sea"]) = H5 at s5 w5 n4 ⊢
    have s6 := same_upd n4 (o := .lst [.str (good ++ ("x" : Str)), .str (good ++ good), .str "", .non, .int 1, .ref c1, .ref t1])
    have w6 : (upd H5 L (.lst [.str (good ++ ("x" : Str)), .str (good ++ good), .str "", .non, .int 1, .ref c1, .ref t1])) L = _ := upd_same
    have s26 := ((s3.trans s4).trans s5).trans s6
    have w46 := s6 _ _ (s5 _ _ w4)
    have w56 := s6 _ _ w5
    obtain ⟨b2, hb2, hv2'⟩ := B2
    have pL : p ≠ L := ne_of_none (s5 _ _ (s4 _ _ (s3 _ _ hb2))) n4
    have pc1 : p ≠ c1 := ne_of_none (s3 _ _ hb2) n1
    have pt1 : p ≠ t1 := ne_of_none (s4 _ _ (s3 _ _ hb2)) n2
    have hb6 := s26 _ _ hb2
    refine ⟨p, L, _, rfl, ⟨b2, hb6, hv2'⟩, pL.symm, .inl (.inl w6), by show 0 < 7; decide, by show 7 ≤ 1000; decide, fun j odd x7 hv7 hx7 => ?_⟩
    have R6 := Same.riv s26 R2
    have T6 := T2.ext s26
    have u06 : Upto p H _ := u02.trans (Upto.of s26)
    clear s26 s6 s5 s4 s3 w5 w4 n1 n2 n4 R2 T2 u02 L2 ntp
    generalize upd H5 L (.lst [.str (good ++ ("x" : Str)), .str (good ++ good), .str "", .non, .int 1, .ref c1, .ref t1]) = H6 at w6 w46 w56 hb6 R6 T6 u06 ⊢
    have B6 : BagAt H6 p := ⟨b2, hb6, hv2'⟩
    have u7 : Upto p H6 (upd H6 p (.lst x7)) := Upto.at_
    have B7 : BagAt (upd H6 p (.lst x7)) p := ⟨x7, upd_same, hx7⟩
    have R7 := rivUp B6 u7 R6
    have T7 := tabs_upto B6 u7 T6
    have w47 := u7 _ _ w46 pc1.symm
    have w57 := u7 _ _ w56 pt1.symm
    have u07 := u06.trans u7
    generalize upd H6 p (.lst x7) = H7 at B7 R7 T7 w47 w57 u07 ⊢
    clear u7 u06 R6 T6 w46 w56 w6 hb6 B6
    have gx : ∀ y ∈ [good], Plain y := fun y hy => by rw [List.mem_singleton.mp hy]; exact pg
    have ox : ∀ y ∈ [other], Plain y := fun y hy => by rw [List.mem_singleton.mp hy]; exact po
    have sx : ∀ y ∈ [("sea" : Str)], Plain y := fun y hy => by rw [List.mem_singleton.mp hy]; exact sea_plain
    have fo : Shown K H7 odd ∧ hasV AR odd = false ∧ odd ≠ .ref p := by
      have hm : odd ∈ ([.str (good ++ ("x" : Str)), .str (good ++ good), .str "", .non, .int 1, .ref c1, .ref t1] : List V) := List.mem_of_getElem? hv7
      simp only [List.mem_cons, List.not_mem_nil, or_false] at hm
      rcases hm with rfl | rfl | rfl | rfl | rfl | rfl | rfl
      · exact ⟨.str _ (plain_app pg plain_x) (by rw [strLen_append]; show _ + 1 ≤ _; omega), not_on hG hg (by decide +kernel) (by decide +kernel), (fun z => by cases z)⟩
      · exact ⟨.str _ (plain_app pg pg) (by rw [strLen_append]; omega), not_dd hG hg, (fun z => by cases z)⟩
      · exact ⟨.str _ plain_e (by decide +kernel), not_e hG, (fun z => by cases z)⟩
      · exact ⟨.non, rfl, (fun z => by cases z)⟩
      · exact ⟨.int 1 (by decide) (by decide +kernel), rfl, (fun z => by cases z)⟩
      · exact ⟨.lst (l := [good]) w47 gx (by rw [fmtCost_cons]; show 10 * good.length + 4 + 0 ≤ 20000; omega), rfl, fun z => pc1 (V.ref.inj z).symm⟩
      · exact ⟨.tup (l := ["sea"]) w57 sx (by decide +kernel), rfl, fun z => pt1 (V.ref.inj z).symm⟩
    clear w47 w57 hv7
    -- late
    refine ⟨_, rfl, _, rfl, other, "y", rfl, rfl, by show _ + 1 ≤ _; omega, _, rfl, _, rfl, other, other, rfl, rfl, by omega, _, rfl, by show 1 ≤ _; omega, fun t2 n5 => ⟨by show 1 ≤ _; omega, fun c2 n6 => ⟨by show 7 ≤ _; omega, fun M n7 => ?_⟩⟩⟩
    have s8 : Same H7 (upd H7 t2 (.tup [.str other])) := same_upd n5
    have w8 : (upd H7 t2 (.tup [.str other])) t2 = some (.tup [.str other]) := upd_same
    generalize upd H7 t2 (.tup [.str other]) = H8 at s8 w8 n6 n7 ⊢
    have s9 : Same H8 (upd H8 c2 (.lst [.str "sea"])) := same_upd n6
    have w9 : (upd H8 c2 (.lst [.str "sea"])) c2 = some (.lst [.str "sea"]) := upd_same
    generalize upd H8 c2 (.lst [.str "sea"]) = H9 at s9 w9 n7 ⊢
    have s10 := same_upd n7 (o := .lst [.str (other ++ ("y" : Str)), .str (other ++ other), .str "q", .bl false, .int 0, .ref t2, .ref c2])
    have w10 : (upd H9 M (.lst [.str (other ++ ("y" : Str)), .str (other ++ other), .str "q", .bl false, .int 0, .ref t2, .ref c2])) M = _ := upd_same
    have s70 := (s8.trans s9).trans s10
    have w80 := s10 _ _ (s9 _ _ w8)
    have w90 := s10 _ _ w9
    obtain ⟨b7, hb7, hv7⟩ := B7
    have pM : p ≠ M := ne_of_none (s9 _ _ (s8 _ _ hb7)) n7
    have pc2 : p ≠ c2 := ne_of_none (s8 _ _ hb7) n6
    have pt2 : p ≠ t2 := ne_of_none hb7 n5
    have hb10 := s70 _ _ hb7
    refine ⟨p, M, _, rfl, ⟨b7, hb10, hv7⟩, pM.symm, .inl (.inl w10), by show 0 < 7; decide, by show 7 ≤ 1000; decide, fun j2 late0 x11 hv11 hx11 => ?_⟩
    have R10 := Same.riv s70 R7
    have T10 := T7.ext s70
    have u010 : Upto p H _ := u07.trans (Upto.of s70)
    have fo10 := shownE (ExtN.of s70) fo.1
    clear s70 s10 s9 s8 w9 w8 n5 n6 n7 R7 T7 u07
    generalize upd H9 M (.lst [.str (other ++ ("y" : Str)), .str (other ++ other), .str "q", .bl false, .int 0, .ref t2, .ref c2]) = H10 at w10 w80 w90 hb10 R10 T10 u010 fo10 ⊢
    have B10 : BagAt H10 p := ⟨b7, hb10, hv7⟩
    have u11 : Upto p H10 (upd H10 p (.lst x11)) := Upto.at_
    have Bs : BagAt (upd H10 p (.lst x11)) p := ⟨x11, upd_same, hx11⟩
    have Rs := rivUp B10 u11 R10
    have Ts := tabs_upto B10 u11 T10
    have w81 := u11 _ _ w80 pt2.symm
    have w91 := u11 _ _ w90 pc2.symm
    have us := u010.trans u11
    have sd0 : Shown K (upd H10 p (.lst x11)) odd := by
      have hno := fo.2.2
      cases fo10 with
      | str y h z => exact .str y h z
      | non => exact .non
      | bl b => exact .bl b
      | int i h z => exact .int i h z
      | lst e h z => exact .lst (u11 _ _ e (fun z => hno (congrArg V.ref z))) h z
      | tup e h z => exact .tup (u11 _ _ e (fun z => hno (congrArg V.ref z))) h z
    have nd := fo.2.1
    generalize upd H10 p (.lst x11) = Hs at Bs Rs Ts w81 w91 us sd0 ⊢
    clear u11 B10 w10 w80 w90 hb10 R10 T10 u010 fo10 fo hb7 hb2
    have fl : Shown K Hs late0 ∧ (late0 ≠ .str "q" → hasV AR late0 = false) ∧ late0 ≠ .str "sea" := by
      have hm : late0 ∈ ([.str (other ++ ("y" : Str)), .str (other ++ other), .str "q", .bl false, .int 0, .ref t2, .ref c2] : List V) := List.mem_of_getElem? hv11
      simp only [List.mem_cons, List.not_mem_nil, or_false] at hm
      rcases hm with rfl | rfl | rfl | rfl | rfl | rfl | rfl
      · exact ⟨.str _ (plain_app po plain_y) (by rw [strLen_append]; show _ + 1 ≤ _; omega), fun _ => not_on hG ho (by decide +kernel) (by decide +kernel), fun z => app_sea (t := "y") (by decide +kernel) (by decide +kernel) (V.str.inj z)⟩
      · exact ⟨.str _ (plain_app po po) (by rw [strLen_append]; omega), fun _ => not_dd hG ho, fun z => dd_sea (V.str.inj z)⟩
      · exact ⟨.str _ plain_q (by decide +kernel), fun z => absurd rfl z, fun z => absurd (V.str.inj z) (by decide +kernel)⟩
      · exact ⟨.bl false, fun _ => rfl, fun z => by cases z⟩
      · exact ⟨.int 0 (by decide) (by decide +kernel), fun _ => rfl, fun z => by cases z⟩
      · exact ⟨.tup (l := [other]) w81 ox (by rw [fmtCost_cons]; show 10 * other.length + 4 + 0 ≤ 20000; omega), fun _ => rfl, fun z => by cases z⟩
      · exact ⟨.lst (l := ["sea"]) w91 sx (by decide +kernel), fun _ => rfl, fun z => by cases z⟩
    clear w81 w91 hv11
    obtain ⟨dd, d1, d2, d3⟩ := shown_dp fl.1
    refine ⟨_, rfl, dd, .str "q", d1, .str "q", d2, shaped_str plain_q, _, rfl, ?_⟩
    have hcase : (PyData.eqv dd (.str "q") = true ∧ late0 = .str "q") ∨ (PyData.eqv dd (.str "q") = false ∧ late0 ≠ .str "q") := by
      rcases d3 with ⟨z, rfl, rfl⟩ | ⟨no, nod⟩
      · by_cases hy : z = "q"
        · subst hy
          exact .inl ⟨by simp only [PyData.eqv]; decide +kernel, rfl⟩
        · refine .inr ⟨?_, fun e => hy (V.str.inj e)⟩
          simp only [PyData.eqv]
          simpa using hy
      · refine .inr ⟨?_, no _⟩
        cases dd with
        | str z => exact absurd rfl (nod z)
        | _ => simp only [PyData.eqv]
    refine split_if' (α := V) (R := fun late => Shown K Hs late ∧ hasV AR late = false ∧ late ≠ .str "sea") (C := ?C) ?use ?key
    case use =>
      intro rest
      refine hcase.elim (fun h => ?_) (fun h => ?_)
      · rw [h.1]
        refine iteT ⟨_, rfl, other, "yy", rfl, rfl, by show _ + 2 ≤ _; omega, ?_⟩
        have ok2 : Shown K Hs (.str (other ++ ("yy" : Str))) ∧ hasV AR (.str (other ++ ("yy" : Str))) = false ∧ (.str (other ++ ("yy" : Str)) : V) ≠ .str "sea" := ⟨.str _ (plain_app po plain_yy) (by rw [strLen_append]; show _ + 2 ≤ _; omega), not_on hG ho (by decide +kernel) (by decide +kernel), fun z => app_sea (t := "yy") (by decide +kernel) (by decide +kernel) (V.str.inj z)⟩
        generalize V.str (other ++ ("yy" : Str)) = v at ok2 ⊢
        exact rest v ok2
      · rw [h.1]
        refine iteF ⟨_, rfl, ?_⟩
        exact rest late0 ⟨fl.1, fl.2.1 h.2, fl.2.2⟩
    intro late ok
    clear hcase d1 d2 d3 fl dd
    obtain ⟨sl0, nl, lse⟩ := ok
    obtain ⟨dx, tw, tr, db, dc, da, du, oo, h1, _⟩ := id Rs.ex
    have ns := not_sea hG
    have sg : ∀ H', ExtN Hs H' → Shown K H' (.str good) := fun H' _ => shown_name hG hg H'
    have so : ∀ H', ExtN Hs H' → Shown K H' (.str other) := fun H' _ => shown_name hG ho H'
    have sd : ∀ H', ExtN Hs H' → Shown K H' odd := fun H' e => shownE e sd0
    have sl : ∀ H', ExtN Hs H' → Shown K H' late := fun H' e => shownE e sl0
    have ss : ∀ H', ExtN Hs H' → Shown K H' (.str "sea") := fun H' _ => .str _ sea_plain (by decide +kernel)
    have ask : ∀ {m : Str} {sp : Sp} {args : TA} {x y z : V} {Hk : Hp} {Q : VK}, (["weirs", "_rows", "_below", "_courses", "_above", "_upstream", "_deepest_first"] : List Str).contains m = false →
        (∀ (H5 : Hp) (Q5 : List V → Hp → Prop), Q5 [x, y] H5 → args [some (.ref p), some (.ref q), some (.ref l), some (.str good), some (.str other), some odd, some late] H5 Q5) →
        (∀ (H5 : Hp) (E5 : XK) (Q5 : VK), ExtN Hs H5 → bad E5 Cn H5 z → sp [.ref q, x, y] H5 Q5 E5) → ExtN Hs Hk → Tabs TT Hk →
        (∀ H' t, ExtN Hs H' → Tabs TT H' → H' t = some (.tup [.str "weir", z]) → Q (.ref t) H') →
        tLam1 TT (TRef Cn Cd) (fun E => tMeth Cr m sp [] E (tVar 1) args) [some (.ref p), some (.ref q), some (.ref l), some (.str good), some (.str other), some odd, some late] Hk Q := fun hm ha hs e t kk =>
      ⟨t, fun H5 e5 t5 Q' => ⟨_, rfl, q, dx, _, rfl, (e.trans e5) _ _ h1 (fun _ z => by cases z), g7m hm, ha _ _ (hs _ _ _ (e.trans e5) (told_bad fun d u nd' nu => kk _ u (((e.trans e5).trans (ExtN.of (same_upd nd'))).trans (ExtN.of (same_upd nu))) ((t5.ext (same_upd nd')).ext (same_upd nu)) upd_same))⟩⟩
    have e0 : ExtN Hs Hs := ExtN.refl _
    have t0 := Ts
    refine ask (x := odd) (y := late) (z := odd) (by decide +kernel) (fun _ _ h => ⟨_, rfl, _, rfl, h⟩) (fun H5 E5 Q5 e5 b5 => two_bad (rivE e5 Rs) (sd _ e5) (sl _ e5) (.inl ⟨nd, rfl⟩) b5) e0 t0 fun Hi ti ei Ti hti => ?_
    refine ⟨_, rfl, by show 2 ≤ sizeLine; decide, fun ui nui => ?_⟩
    obtain ⟨di, hdi, hsi, hei⟩ := shown_pair (K := K) (sd _ (ei.trans (ExtN.of (same_upd nui (o := .tup [.str "weir", odd])))))
    refine ⟨_, _, .tup (.inl (.inl (same_upd nui _ _ hti))) (.cons (.str "weir") (.cons hdi .nil)), .tup (.inl (.inl upd_same)) (.cons (.str "weir") (.cons hdi .nil)), hsi, hsi, _, rfl, ?_⟩
    rw [hei]
    clear hdi hsi hei
    refine iteF ?_
    have e1 := ei.trans (ExtN.of (same_upd nui (o := .tup [.str "weir", odd])))
    have t1 := Ti.ext (same_upd nui (o := .tup [.str "weir", odd]))
    generalize upd Hi ui (.tup [.str "weir", odd]) = H1x at e1 t1 ⊢
    clear hti Ti ei nui ti di ui e0 t0 Hi
    refine ask (x := (.str good)) (y := late) (z := late) (by decide +kernel) (fun _ _ h => ⟨_, rfl, _, rfl, h⟩) (fun H5 E5 Q5 e5 b5 => two_bad (rivE e5 Rs) (sg _ e5) (sl _ e5) (.inr ⟨has_yes hg, nl, rfl⟩) b5) e1 t1 fun Hi ti ei Ti hti => ?_
    refine ⟨_, rfl, by show 2 ≤ sizeLine; decide, fun ui nui => ?_⟩
    obtain ⟨di, hdi, hsi, hei⟩ := shown_pair (K := K) (sl _ (ei.trans (ExtN.of (same_upd nui (o := .tup [.str "weir", late])))))
    refine ⟨_, _, .tup (.inl (.inl (same_upd nui _ _ hti))) (.cons (.str "weir") (.cons hdi .nil)), .tup (.inl (.inl upd_same)) (.cons (.str "weir") (.cons hdi .nil)), hsi, hsi, _, rfl, ?_⟩
    rw [hei]
    clear hdi hsi hei
    refine iteF ?_
    have e2 := ei.trans (ExtN.of (same_upd nui (o := .tup [.str "weir", late])))
    have t2 := Ti.ext (same_upd nui (o := .tup [.str "weir", late]))
    generalize upd Hi ui (.tup [.str "weir", late]) = H2x at e2 t2 ⊢
    clear hti Ti ei nui ti di ui e1 t1 Hi
    refine ask (x := odd) (y := late) (z := odd) (by decide +kernel) (fun _ _ h => ⟨_, rfl, _, rfl, h⟩) (fun H5 E5 Q5 e5 b5 => two_bad (rivE e5 Rs) (sd _ e5) (sl _ e5) (.inl ⟨nd, rfl⟩) b5) e2 t2 fun Hi ti ei Ti hti => ?_
    refine ⟨_, rfl, by show 2 ≤ sizeLine; decide, fun ui nui => ?_⟩
    obtain ⟨di, hdi, hsi, hei⟩ := shown_pair (K := K) (sd _ (ei.trans (ExtN.of (same_upd nui (o := .tup [.str "weir", odd])))))
    refine ⟨_, _, .tup (.inl (.inl (same_upd nui _ _ hti))) (.cons (.str "weir") (.cons hdi .nil)), .tup (.inl (.inl upd_same)) (.cons (.str "weir") (.cons hdi .nil)), hsi, hsi, _, rfl, ?_⟩
    rw [hei]
    clear hdi hsi hei
    refine iteF ?_
    have e3 := ei.trans (ExtN.of (same_upd nui (o := .tup [.str "weir", odd])))
    have t3 := Ti.ext (same_upd nui (o := .tup [.str "weir", odd]))
    generalize upd Hi ui (.tup [.str "weir", odd]) = H3x at e3 t3 ⊢
    clear hti Ti ei nui ti di ui e2 t2 Hi
    refine ask (x := (.str other)) (y := late) (z := late) (by decide +kernel) (fun _ _ h => ⟨_, rfl, _, rfl, h⟩) (fun H5 E5 Q5 e5 b5 => two_bad (rivE e5 Rs) (so _ e5) (sl _ e5) (.inr ⟨has_yes ho, nl, rfl⟩) b5) e3 t3 fun Hi ti ei Ti hti => ?_
    refine ⟨_, rfl, by show 2 ≤ sizeLine; decide, fun ui nui => ?_⟩
    obtain ⟨di, hdi, hsi, hei⟩ := shown_pair (K := K) (sl _ (ei.trans (ExtN.of (same_upd nui (o := .tup [.str "weir", late])))))
    refine ⟨_, _, .tup (.inl (.inl (same_upd nui _ _ hti))) (.cons (.str "weir") (.cons hdi .nil)), .tup (.inl (.inl upd_same)) (.cons (.str "weir") (.cons hdi .nil)), hsi, hsi, _, rfl, ?_⟩
    rw [hei]
    clear hdi hsi hei
    refine iteF ?_
    have e4 := ei.trans (ExtN.of (same_upd nui (o := .tup [.str "weir", late])))
    have t4 := Ti.ext (same_upd nui (o := .tup [.str "weir", late]))
    generalize upd Hi ui (.tup [.str "weir", late]) = H4x at e4 t4 ⊢
    clear hti Ti ei nui ti di ui e3 t3 Hi
    refine ask (x := (.str "sea")) (y := (.str other)) (z := (.str "sea")) (by decide +kernel) (fun _ _ h => ⟨_, rfl, h⟩) (fun H5 E5 Q5 e5 b5 => two_bad (rivE e5 Rs) (ss _ e5) (so _ e5) (.inl ⟨ns, rfl⟩) b5) e4 t4 fun Hi ti ei Ti hti => ?_
    refine ⟨by show 2 ≤ sizeLine; decide, fun ui nui => ?_⟩
    obtain ⟨di, hdi, hsi, hei⟩ := shown_pair (K := K) (ss _ (ei.trans (ExtN.of (same_upd nui (o := .tup [.str "weir", (.str "sea")])))))
    refine ⟨_, _, .tup (.inl (.inl (same_upd nui _ _ hti))) (.cons (.str "weir") (.cons hdi .nil)), .tup (.inl (.inl upd_same)) (.cons (.str "weir") (.cons hdi .nil)), hsi, hsi, _, rfl, ?_⟩
    rw [hei]
    clear hdi hsi hei
    refine iteF ?_
    have e5 := ei.trans (ExtN.of (same_upd nui (o := .tup [.str "weir", (.str "sea")])))
    have t5 := Ti.ext (same_upd nui (o := .tup [.str "weir", (.str "sea")]))
    generalize upd Hi ui (.tup [.str "weir", (.str "sea")]) = H5x at e5 t5 ⊢
    clear hti Ti ei nui ti di ui e4 t4 Hi
    refine ask (x := (.str other)) (y := (.str "sea")) (z := (.str "sea")) (by decide +kernel) (fun _ _ h => ⟨_, rfl, h⟩) (fun H5 E5 Q5 e5 b5 => two_bad (rivE e5 Rs) (so _ e5) (ss _ e5) (.inr ⟨has_yes ho, ns, rfl⟩) b5) e5 t5 fun Hi ti ei Ti hti => ?_
    refine ⟨by show 2 ≤ sizeLine; decide, fun ui nui => ?_⟩
    obtain ⟨di, hdi, hsi, hei⟩ := shown_pair (K := K) (ss _ (ei.trans (ExtN.of (same_upd nui (o := .tup [.str "weir", (.str "sea")])))))
    refine ⟨_, _, .tup (.inl (.inl (same_upd nui _ _ hti))) (.cons (.str "weir") (.cons hdi .nil)), .tup (.inl (.inl upd_same)) (.cons (.str "weir") (.cons hdi .nil)), hsi, hsi, _, rfl, ?_⟩
    rw [hei]
    clear hdi hsi hei
    refine iteF ?_
    have e6 := ei.trans (ExtN.of (same_upd nui (o := .tup [.str "weir", (.str "sea")])))
    have t6 := Ti.ext (same_upd nui (o := .tup [.str "weir", (.str "sea")]))
    generalize upd Hi ui (.tup [.str "weir", (.str "sea")]) = H6x at e6 t6 ⊢
    clear hti Ti ei nui ti di ui e5 t5 Hi
    refine ask (x := (.str other)) (y := (.str "sea")) (z := (.str "sea")) (by decide +kernel) (fun _ _ h => ⟨_, rfl, h⟩) (fun H5 E5 Q5 e5 b5 => two_bad (rivE e5 Rs) (so _ e5) (ss _ e5) (.inr ⟨has_yes ho, ns, rfl⟩) b5) e6 t6 fun Hi ti ei Ti hti => ?_
    refine ⟨by show 2 ≤ sizeLine; decide, fun ui nui => ?_⟩
    obtain ⟨di, hdi, hsi, hei⟩ := shown_pair (K := K) (ss _ (ei.trans (ExtN.of (same_upd nui (o := .tup [.str "weir", (.str "sea")])))))
    refine ⟨_, _, .tup (.inl (.inl (same_upd nui _ _ hti))) (.cons (.str "weir") (.cons hdi .nil)), .tup (.inl (.inl upd_same)) (.cons (.str "weir") (.cons hdi .nil)), hsi, hsi, _, rfl, ?_⟩
    rw [hei]
    clear hdi hsi hei
    refine iteF ?_
    have e7 := ei.trans (ExtN.of (same_upd nui (o := .tup [.str "weir", (.str "sea")])))
    have t7 := Ti.ext (same_upd nui (o := .tup [.str "weir", (.str "sea")]))
    generalize upd Hi ui (.tup [.str "weir", (.str "sea")]) = H7x at e7 t7 ⊢
    clear hti Ti ei nui ti di ui e6 t6 Hi
    refine ask (x := (.str "sea")) (y := (.str other)) (z := (.str "sea")) (by decide +kernel) (fun _ _ h => ⟨_, rfl, h⟩) (fun H5 E5 Q5 e5 b5 => two_bad (rivE e5 Rs) (ss _ e5) (so _ e5) (.inl ⟨ns, rfl⟩) b5) e7 t7 fun Hi ti ei Ti hti => ?_
    refine ⟨by show 2 ≤ sizeLine; decide, fun ui nui => ?_⟩
    obtain ⟨di, hdi, hsi, hei⟩ := shown_pair (K := K) (ss _ (ei.trans (ExtN.of (same_upd nui (o := .tup [.str "weir", (.str "sea")])))))
    refine ⟨_, _, .tup (.inl (.inl (same_upd nui _ _ hti))) (.cons (.str "weir") (.cons hdi .nil)), .tup (.inl (.inl upd_same)) (.cons (.str "weir") (.cons hdi .nil)), hsi, hsi, _, rfl, ?_⟩
    rw [hei]
    clear hdi hsi hei
    refine iteF ?_
    have e8 := ei.trans (ExtN.of (same_upd nui (o := .tup [.str "weir", (.str "sea")])))
    have t8 := Ti.ext (same_upd nui (o := .tup [.str "weir", (.str "sea")]))
    generalize upd Hi ui (.tup [.str "weir", (.str "sea")]) = H8x at e8 t8 ⊢
    clear hti Ti ei nui ti di ui e7 t7 Hi
    refine ask (x := (.str "sea")) (y := (.str good)) (z := (.str "sea")) (by decide +kernel) (fun _ _ h => ⟨_, rfl, h⟩) (fun H5 E5 Q5 e5 b5 => way_bad (rivE e5 Rs) hG (ss _ e5) (sg _ e5) (.inl ⟨ns, rfl⟩) b5) e8 t8 fun Hi ti ei Ti hti => ?_
    refine ⟨by show 2 ≤ sizeLine; decide, fun ui nui => ?_⟩
    obtain ⟨di, hdi, hsi, hei⟩ := shown_pair (K := K) (ss _ (ei.trans (ExtN.of (same_upd nui (o := .tup [.str "weir", (.str "sea")])))))
    refine ⟨_, _, .tup (.inl (.inl (same_upd nui _ _ hti))) (.cons (.str "weir") (.cons hdi .nil)), .tup (.inl (.inl upd_same)) (.cons (.str "weir") (.cons hdi .nil)), hsi, hsi, _, rfl, ?_⟩
    rw [hei]
    clear hdi hsi hei
    refine iteF ?_
    have e9 := ei.trans (ExtN.of (same_upd nui (o := .tup [.str "weir", (.str "sea")])))
    have t9 := Ti.ext (same_upd nui (o := .tup [.str "weir", (.str "sea")]))
    generalize upd Hi ui (.tup [.str "weir", (.str "sea")]) = H9x at e9 t9 ⊢
    clear hti Ti ei nui ti di ui e8 t8 Hi
    refine ask (x := (.str "sea")) (y := (.str "sea")) (z := (.str "sea")) (by decide +kernel) (fun _ _ h => h) (fun H5 E5 Q5 e5 b5 => way_bad (rivE e5 Rs) hG (ss _ e5) (ss _ e5) (.inl ⟨ns, rfl⟩) b5) e9 t9 fun Hi ti ei Ti hti => ?_
    refine ⟨by show 2 ≤ sizeLine; decide, fun ui nui => ?_⟩
    obtain ⟨di, hdi, hsi, hei⟩ := shown_pair (K := K) (ss _ (ei.trans (ExtN.of (same_upd nui (o := .tup [.str "weir", (.str "sea")])))))
    refine ⟨_, _, .tup (.inl (.inl (same_upd nui _ _ hti))) (.cons (.str "weir") (.cons hdi .nil)), .tup (.inl (.inl upd_same)) (.cons (.str "weir") (.cons hdi .nil)), hsi, hsi, _, rfl, ?_⟩
    rw [hei]
    clear hdi hsi hei
    refine iteF ?_
    have e10 := ei.trans (ExtN.of (same_upd nui (o := .tup [.str "weir", (.str "sea")])))
    have t10 := Ti.ext (same_upd nui (o := .tup [.str "weir", (.str "sea")]))
    generalize upd Hi ui (.tup [.str "weir", (.str "sea")]) = H10x at e10 t10 ⊢
    clear hti Ti ei nui ti di ui e9 t9 Hi
    refine ask (x := odd) (y := (.str "sea")) (z := odd) (by decide +kernel) (fun _ _ h => ⟨_, rfl, h⟩) (fun H5 E5 Q5 e5 b5 => way_bad (rivE e5 Rs) hG (sd _ e5) (ss _ e5) (.inl ⟨nd, rfl⟩) b5) e10 t10 fun Hi ti ei Ti hti => ?_
    refine ⟨_, rfl, by show 2 ≤ sizeLine; decide, fun ui nui => ?_⟩
    obtain ⟨di, hdi, hsi, hei⟩ := shown_pair (K := K) (sd _ (ei.trans (ExtN.of (same_upd nui (o := .tup [.str "weir", odd])))))
    refine ⟨_, _, .tup (.inl (.inl (same_upd nui _ _ hti))) (.cons (.str "weir") (.cons hdi .nil)), .tup (.inl (.inl upd_same)) (.cons (.str "weir") (.cons hdi .nil)), hsi, hsi, _, rfl, ?_⟩
    rw [hei]
    clear hdi hsi hei
    refine iteF ?_
    have e11 := ei.trans (ExtN.of (same_upd nui (o := .tup [.str "weir", odd])))
    have t11 := Ti.ext (same_upd nui (o := .tup [.str "weir", odd]))
    generalize upd Hi ui (.tup [.str "weir", odd]) = H11x at e11 t11 ⊢
    clear hti Ti ei nui ti di ui e10 t10 Hi
    refine ask (x := odd) (y := late) (z := odd) (by decide +kernel) (fun _ _ h => ⟨_, rfl, _, rfl, h⟩) (fun H5 E5 Q5 e5 b5 => way_bad (rivE e5 Rs) hG (sd _ e5) (sl _ e5) (.inl ⟨nd, rfl⟩) b5) e11 t11 fun Hi ti ei Ti hti => ?_
    refine ⟨_, rfl, by show 2 ≤ sizeLine; decide, fun ui nui => ?_⟩
    obtain ⟨di, hdi, hsi, hei⟩ := shown_pair (K := K) (sd _ (ei.trans (ExtN.of (same_upd nui (o := .tup [.str "weir", odd])))))
    refine ⟨_, _, .tup (.inl (.inl (same_upd nui _ _ hti))) (.cons (.str "weir") (.cons hdi .nil)), .tup (.inl (.inl upd_same)) (.cons (.str "weir") (.cons hdi .nil)), hsi, hsi, _, rfl, ?_⟩
    rw [hei]
    clear hdi hsi hei
    refine iteF ?_
    have e12 := ei.trans (ExtN.of (same_upd nui (o := .tup [.str "weir", odd])))
    have t12 := Ti.ext (same_upd nui (o := .tup [.str "weir", odd]))
    generalize upd Hi ui (.tup [.str "weir", odd]) = H12x at e12 t12 ⊢
    clear hti Ti ei nui ti di ui e11 t11 Hi
    refine ask (x := (.str good)) (y := late) (z := late) (by decide +kernel) (fun _ _ h => ⟨_, rfl, _, rfl, h⟩) (fun H5 E5 Q5 e5 b5 => way_bad (rivE e5 Rs) hG (sg _ e5) (sl _ e5) (.inr ⟨has_yes hg, nl, lse, rfl⟩) b5) e12 t12 fun Hi ti ei Ti hti => ?_
    refine ⟨_, rfl, by show 2 ≤ sizeLine; decide, fun ui nui => ?_⟩
    obtain ⟨di, hdi, hsi, hei⟩ := shown_pair (K := K) (sl _ (ei.trans (ExtN.of (same_upd nui (o := .tup [.str "weir", late])))))
    refine ⟨_, _, .tup (.inl (.inl (same_upd nui _ _ hti))) (.cons (.str "weir") (.cons hdi .nil)), .tup (.inl (.inl upd_same)) (.cons (.str "weir") (.cons hdi .nil)), hsi, hsi, ?_⟩
    rw [hei]
    clear hdi hsi hei
    have e13 := ei.trans (ExtN.of (same_upd nui (o := .tup [.str "weir", late])))
    have t13 := Ti.ext (same_upd nui (o := .tup [.str "weir", late]))
    generalize upd Hi ui (.tup [.str "weir", late]) = H13x at e13 t13 ⊢
    clear hti Ti ei nui ti di ui e12 t12 Hi
    exact k _ (fun b o hb hn ht => e13 _ _ (us _ _ hb hn) ht) (bagE e13 Bs) t13
end
end K0
end

/-! ## K1U -/
section
set_option Elab.async false
set_option linter.all false
set_option maxRecDepth 100000
set_option maxHeartbeats 4000000
namespace K0
open PySem PySem.Spec PyProof.Rows L2 GenW
/-! ### a generator that walks a tuple and hands each item out; its frame stands at C, what it makes is younger than B -/
def TupR (h : Heap) (t : Addr) (xs : List V) : Prop := ∃ its : List Value, Vals xs its ∧ IsTup h t its.toArray
structure Dw (B C : Addr) (s s' : Shared) : Prop where
  os : s'.os = s.os
  gens : s'.gens = s.gens
  keep : ∀ b o, b ≠ C → b < B → s.heap.get? b = some o → s'.heap.get? b = some o
theorem Dw.refl {B C : Addr} {s : Shared} : Dw B C s s := ⟨rfl, rfl, fun _ _ _ _ e => e⟩
theorem Dw.trans {B C : Addr} {s s1 s2 : Shared} (a : Dw B C s s1) (b : Dw B C s1 s2) : Dw B C s s2 :=
  ⟨b.os.trans a.os, b.gens.trans a.gens, fun c o h1 h2 e => b.keep c o h1 h2 (a.keep c o h1 h2 e)⟩
theorem Dw.heap {B C : Addr} {s s1 : Shared} {h : Heap} {t : Nat} (a : Dw B C s s1) (k : ∀ b o, b ≠ C → b < B → s1.heap.get? b = some o → h.get? b = some o) : Dw B C s { s1 with heap := h, toks := t } :=
  a.trans ⟨rfl, rfl, k⟩
abbrev Zof (B C : Addr) (Z : List (Addr × Obj)) (h : Heap) : Prop := ∀ p ∈ Z, (p.1 = C ∨ B ≤ p.1) ∧ h.get? p.1 = some p.2 ∧ ∀ v, p.2.data ≠ .cell v
def YD (B C T : Addr) (xs : List V) : Protocol := fun n s₀ v s1 kap => ∃ (i : Nat) (x : V) (Z : List (Addr × Obj)), n + 1 + i = xs.length ∧ xs[i]? = some x ∧ RelV x v ∧ Dw B C s₀ s1 ∧ Zof B C Z s1.heap ∧
  ∀ s'', (∀ p ∈ Z, s''.heap.get? p.1 = some p.2) → TupR s''.heap T xs → kap (.send .none) s''
def RD (B C : Addr) : GenEnd := fun n s₀ r s1 => ((r = .ok (.ret .none) ∨ r = .ok .next) ∧ (n = 0 ∧ Dw B C s₀ s1)) ∨ ∃ e, r = .error e ∧ (fun _ _ => False : Value → Shared → Prop) e s1
section
variable {prog : Program} {w : World} {A : Around} {env : Env} {x : Str} {px py yp ep : Pos} {fs : List Frame} {B I T : Addr} {xs : List V}
theorem seg_turns (hk : env.scope.kind = .function) (hx : env.kindOf x = some .local) (hco : env.scope.isCoroutine = false) (hi : interactive env = false) (hd : (x == ("__debug__" : Str)) = false)
    (hh : (A.over (.forLoop (.Name x px) (.ref I) [.Expr (.Yield (some (.Name x py)) yp) ep] [] env) fs).handled = none) (hfs : splitAtGen fs = none) (hfg : fs.any Frame.guarded = false)
    (hIC : I ≠ env.locals) (hTC : T ≠ env.locals) (hTI : T ≠ I) (hBI : B ≤ I)
    (hend : ∀ s₀ s, Dw B env.locals s₀ s → Seg (model prog w) A (RD B env.locals) (YD B env.locals T xs) 0 s₀ (.block [] env) ((model prog w).den (.block [] env)) fs s) :
    ∀ (k i : Nat) (s₀ s : Shared) (m : Str → Option Value), i + k = xs.length → Dw B env.locals s₀ s → s.heap.Ns env.locals m → IsTupIter s.heap I T i → TupR s.heap T xs →
      Seg (model prog w) A (RD B env.locals) (YD B env.locals T xs) k s₀ (.forLoop (.Name x px) (.ref I) [.Expr (.Yield (some (.Name x py)) yp) ep] [] env)
        ((model prog w).den (.forLoop (.Name x px) (.ref I) [.Expr (.Yield (some (.Name x py)) yp) ep] [] env)) fs s := by
  have hp : (env.scope.kind == .class || (env.scope.kind == .module && env.locals != env.globals)) = false := by rw [hk]; rfl
  intro k
  induction k with
  | zero =>
    intro i s₀ s m hik D hn hit ht
    obtain ⟨its, rv, ht⟩ := ht
    have hl := rv.length
    show Seg _ A _ _ 0 s₀ _ ((forTurn (.Name x px) (.ref I) [.Expr (.Yield (some (.Name x py)) yp) ep] [] env).onRaise (fun x => do noteFrame x env; theTreesLotGoes x)) fs s
    unfold forTurn
    rw [Sem.onRaise_eq_wrap]
    refine seg_bind_wrap (wpAny_standAt ?_)
    refine seg_bind_wrap (wpAny_onRaise (next_tuple_end hh hit ht (by rw [Array.getElem?_eq_none]; rw [List.size_toArray]; omega) fun h' hs' => ?_))
    refine seg_again rfl (hend s₀ _ (D.heap (t := s.toks) fun b o hb hB e => hs' b o (fun z => Nat.lt_irrefl I (by rw [z] at hB; exact Nat.lt_of_lt_of_le hB hBI)) e))
  | succ k ih =>
    intro i s₀ s m hik D hn hit ht
    obtain ⟨its, rv, ht⟩ := ht
    have hl := rv.length
    have hlt : i < xs.length := by omega
    obtain ⟨v, hv, rx⟩ := rv.get (List.getElem?_eq_getElem hlt)
    show Seg _ A _ _ (k + 1) s₀ _ ((forTurn (.Name x px) (.ref I) [.Expr (.Yield (some (.Name x py)) yp) ep] [] env).onRaise (fun x => do noteFrame x env; theTreesLotGoes x)) fs s
    unfold forTurn
    rw [Sem.onRaise_eq_wrap]
    refine seg_bind_wrap (wpAny_standAt ?_)
    refine seg_bind_wrap (wpAny_onRaise (next_tuple_item hit ht (x := v) (by simpa using hv) fun h₁ hit₁ hs₁ => ?_))
    have hn₁ := hn.sameBut hs₁ (Ne.symm hIC)
    have ht₁ : IsTup h₁ T its.toArray := ht.extBut hs₁.extBut hTI
    refine seg_bind_wrap (wpAny_of_eq (rfl : letOwnedTupleGo (.Name x px) (.ref I) v = pure ()) ?_)
    refine seg_bind_wrap (wpAny_assign_Name (wpAny_storeName_local hx hn₁ (fun h₂ hn₂ hs₂ => ?_) hp))
    have hit₂ : IsTupIter h₂ I T (i + 1) := hit₁.extBut hs₂.extBut hIC
    have ht₂ : IsTup h₂ T its.toArray := ht₁.extBut hs₂.extBut hTC
    have D₂ : Dw B env.locals s₀ { s with heap := h₂, toks := s.toks + 1 } := D.heap fun b o hb hB e => hs₂.extBut b o hb (hs₁.extBut b o (fun z => Nat.lt_irrefl I (by rw [z] at hB; exact Nat.lt_of_lt_of_le hB hBI)) e)
    rw [Sem.bind_eq_wrap', Sem.wrap_wrap]
    refine seg_execs_cons ?_
    refine seg_Expr_Yield hfs rfl hfg ?_ hco hi
    refine wpAny_Name (wpAny_loadName_local hk hx hn₂ (v := v) (by simp) ?_) hd
    intro kap hkap
    obtain ⟨oI, hoI, rI⟩ := id hit₂
    obtain ⟨oC, es, ep', hoC, hdC, rC⟩ := id hn₂
    refine ⟨i, xs[i], [(env.locals, oC), (I, oI)], by omega, List.getElem?_eq_getElem hlt, rx, D₂, fun p hp => ?_, fun s'' hz hT => ?_⟩
    · rcases List.mem_cons.mp hp with e | hp
      · rw [e]
        exact ⟨.inl rfl, hoC, fun v z => by rw [hdC] at z; cases z⟩
      · rw [List.mem_singleton.mp hp]
        exact ⟨.inr hBI, hoI, fun v z => by rw [rI.2] at z; cases z⟩
    · have zC := hz (env.locals, oC) List.mem_cons_self
      have zI := hz (I, oI) (List.mem_cons_of_mem _ List.mem_cons_self)
      refine hkap .none s'' ?_
      refine seg_execs_nil ?_
      exact seg_again rfl (ih (i + 1) s'' s'' _ (by omega) Dw.refl ⟨oC, es, ep', zC, hdC, rC⟩ ⟨oI, zI, rI⟩ hT)
end
end K0
end

/-! ## K1V -/
section
set_option Elab.async false
set_option linter.all false
set_option maxRecDepth 100000
set_option maxHeartbeats 4000000
namespace K0
open PySem PySem.Spec PyProof.Rows L2 GenW
abbrev sDown : Stmt := inClass sRiver 14
theorem scDown : GScope [("self" : Str), "weir"] [("self" : Str)] (defScope sDown) := ⟨rfl, rfl, rfl, by decide +kernel, rfl, by decide +kernel, by decide +kernel⟩
section
variable {M : Model} {A : Around} {R : GenEnd} {Y : Protocol} {n : Nat} {s₀ : Shared} {c : Code} {fs : List Frame} {s : Shared} {env : Env}
theorem seg_For {target iter : Expr} {body : List Stmt} {pos : Pos} {K : Flow → Sem PySem.Fin} {J : Value → Sem PySem.Fin} {gd : Bool → Bool} {lv : List Value → List Value}
    (h : wpAny M (A.over c fs) (eval iter env) (fun v s₁ => wpAny M (A.over c fs) (pyIter v) (fun it s₂ => ∀ p, Seg M A R Y n s₀ (.forLoop target it body [] env) (M.den (.forLoop target it body [] env))
      (.ret (fun r => ((match r with | .ok f => (.pure f : Sem Flow) | .error e => .raise e).onRaise (cameBack env)).wrap K J gd lv) none (gd false) (lv []) c p [] :: fs) s₂) (fun _ _ => False) s₁) (fun _ _ => False) s)
    (hs : ∀ x, foldedSetIterable iter env x = pure x := by intro _; rfl) : Seg M A R Y n s₀ c ((exec (.For target iter body [] pos) env).wrap K J gd lv) fs s := by
  rw [exec_For]
  refine seg_bind_wrap (wpAny_standAt ?_)
  refine seg_bind_wrap (wpAny_mono h (fun v s₁ h₁ => ?_) fun _ _ z => z.elim)
  refine seg_bind_wrap (wpAny_of_eq (hs v) ?_)
  refine seg_bind_wrap (wpAny_standAt ?_)
  refine seg_bind_wrap (wpAny_holding (wpAny_mono h₁ (fun it s₂ h₂ => ?_) fun _ _ z => z.elim))
  exact seg_call h₂
end
/-- an attribute of an instance is read: but for a token the state is as it was -/
theorem attr_raw {X : Cx} {pins : List (Addr × Obj)} {σ : L2.St} {H : Hp} {s : Shared} {a C dx : Addr} {fs : List (Str × V)} {f : Str} {v : V} {A : Around} {E : Value → Shared → Prop} {b : Bool} {Q : Value → Shared → Prop}
    (I : Inv X pins σ H s) (e : H a = some (.ins C dx fs)) (c : Cls X.K C) (n : NoAttr X.K C f) (l : fs.lookup f = some v) (h : ∀ u t, RelV v u → Q u { s with toks := t }) : wpAny (model X.prog X.w) A (getAttr (.ref a) f b) Q E s := by
  obtain ⟨mA, O, r, _⟩ := ins_get I.hok e
  obtain ⟨u, hu, ru⟩ := RelO.some_of (v := v) (o := mA f) (by rw [← l]; exact r f)
  exact get_map I.kIn O (c.get f) c.hd n hu (handed_of ru) (h u _ ru)
/-- a generator that has not begun: its frame at C -/
def DMade (P : Program) (w : World) (k : Nat) (outer : List Env) (s : Shared) (T : Addr) (xs : List V) (u : Value) (s' : Shared) : Prop :=
  ∃ (a g C : Nat) (c : Code), u = .ref a ∧ s.heap.objs.size ≤ C ∧ C < a ∧ a < s'.heap.objs.size ∧ s'.heap.IsGen a g ∧ s'.gens[g]? = some (.fresh c) ∧ s'.os = s.os ∧ AllBare s'.gens ∧ (∀ b o, s.heap.get? b = some o → s'.heap.get? b = some o) ∧
    ∀ (A : Around) (s2 : Shared), Room k A → A.frames = some outer → (∀ b o, s'.heap.get? b = some o → s2.heap.get? b = some o) → s2.os = s.os → AllBare s2.gens →
      Seg (model P w) A (RD s2.heap.objs.size C) (YD s2.heap.objs.size C T xs) xs.length s2 c ((model P w).den c) [] s2
section
variable {P : Program} {w : World} {K : PySem.W.Frag} {mg : Str → Option Value} {base : Heap}
theorem ok_down {f Cr : Addr} {fd : FuncData} {k : Nat} (F : FnM K "downward" "River.downward" sDown f fd) (Tv : Rv K mg Cr) {A : Around} {outer : List Env} {s : Shared} {H : Hp} {args : Args} {q dx T : Addr} {fl : List (Str × V)} {xs : List V}
    (hr : Room (k + 1) A) (e0 : Env0 P w K mg base A outer s H) (hb : BindsTo s fd args ([("self" : Str)].zip [Value.ref q])) (hq : H q = some (.ins Cr dx fl)) (hl : fl.lookup ("_deepest_first" : Str) = some (V.ref T)) (hT : H T = some (.tup xs)) :
    codeAny (model P w) A (.call (.ref f) args) (fun r s' => match r with | .ok (.ret u) => DMade P w k outer s T xs u s' | _ => False) s := by
  obtain ⟨oc, od, dV, kV, doc, pm, an, cdv, ct, osl, rfl, lk, hcd, _, _⟩ := F.ex
  have KX : K.In s.heap := e0.mod.kin.keeps fun b o e => (e0.bs b o e).1
  have lim : s.heap.NoLimit := e0.mod.nolimit.keeps fun b o e => (e0.bs b o e).1
  have hkind : ∀ y ∈ [("self" : Str)].zip [Value.ref q], (defScope sDown).names.lookup y.1 = some .local ∨ ((defScope sDown).names.lookup y.1 = some .cell ∧ ((cellsFrom (s.heap.objs.size + 1) (defScope sDown).names []).lookup y.1).isSome = true) := fun ⟨n, v⟩ hy => by
    rcases scDown.par n (List.of_mem_zip hy).1 with q | q
    · exact .inl q
    · exact .inr ⟨q, PySem.W.cellsFrom_some _ _ _ (.inl q)⟩
  refine codeAny_call_generator hr.depth (KX _ _ lk) rfl scDown.co scDown.gen rfl (PySem.W.codeRec_of KX hcd) (hb _ _ _ _ ?_)
  refine wpAny_newFunctionEnv_cells scDown.kind hkind fun env he s1 x => ?_
  subst he
  have lim1 : s1.heap.NoLimit := lim.keeps x.toInCall.keep
  refine ⟨lim1, ?_⟩
  obtain ⟨h1, tk, es1, hk1⟩ := x.done
  have os1 : s1.os = s.os := by rw [es1]
  have gen1 : s1.gens = s.gens := by rw [es1]
  have lt1 : s.heap.objs.size < s1.heap.objs.size := x.toInCall.ns.lt
  have kp1 : ∀ b o, s.heap.get? b = some o → s1.heap.get? b = some o := x.toInCall.keep
  refine ⟨s1.heap.objs.size, s1.gens.size, s.heap.objs.size, _, rfl, Nat.le_refl _, lt1, ?_, ⟨_, _, _, Heap.get?_push_size _ rfl, rfl, rfl, rfl⟩, Array.getElem?_push_size .., os1, AllBare.push (by rw [gen1]; exact e0.bare) rfl, fun b o e => Heap.get?_push_of_some _ (kp1 b o e), ?_⟩
  · show _ < (s1.heap.push _).objs.size
    rw [Heap.size_push]
    exact Nat.lt_succ_self _
  intro Aw s2 hrw hfr hk2 hos hba
  have e0w : Env0 P w K mg base Aw outer s H := ⟨hfr, e0.mod, e0.bs, e0.bsz, e0.funs, e0.frf, e0.hok, e0.bare⟩
  have I1 : Inv (gcxOf P w K mg base ["self", "weir"] "River.downward" (defScope sDown) f cdv Aw outer s H (fun _ _ _ => False) []) [] (start ["self", "weir"] [.ref q]) H s1 := inv_startG (us := [.ref q]) scDown hrw.hd e0w rfl (.cons rfl .nil) x
  have kp2 : ∀ b o, s1.heap.get? b = some o → s2.heap.get? b = some o := fun b o e => hk2 b o (Heap.get?_push_of_some _ e)
  have I2 : Inv (gcxOf P w K mg base ["self", "weir"] "River.downward" (defScope sDown) f cdv Aw outer s H (fun _ _ _ => False) []) [] (start ["self", "weir"] [.ref q]) H s2 :=
    I1.call' (ch := []) (hos.trans os1.symm) (Un.kept kp2) (I1.hok.kept kp2) hba fun b z => by simp at z
  clear I1 e0w
  have hns : s2.heap.Ns s.heap.objs.size (bindL (envOfC "River.downward" (defScope sDown) s.heap.objs.size f cdv).kindOf ([("self" : Str)].zip [Value.ref q]) fun _ => none) := x.toInCall.ns.keeps kp2
  refine seg_func ?_
  refine seg_execs_cons ?_
  refine seg_For ?_
  rw [over_func]
  refine attr_of (f := "_deepest_first") rfl ?_
  refine wpAny_Name (wpAny_loadName_local (v := .ref q) rfl rfl hns (by rfl) ?_) (by decide)
  refine attr_raw (v := .ref T) I2 hq Tv.cl Tv._deepest_first hl fun u t ru => ?_
  obtain rfl : u = Value.ref T := ru
  obtain ⟨its, rv, ht, hz⟩ := I2.tuple (.inl (.inl hT))
  refine iter_tuple (s := { s2 with toks := t }) ht ?_
  intro p
  have lt2 : s.heap.objs.size < s2.heap.objs.size := by
    obtain ⟨o, _, _, ho, _⟩ := hns
    exact Heap.lt_size ho
  have hTl : T < s.heap.objs.size := e0.hok.lt hT
  refine seg_turns (B := s2.heap.objs.size) (env := envOfC "River.downward" (defScope sDown) s.heap.objs.size f cdv) rfl rfl rfl rfl (by decide) ?_ rfl rfl (Nat.ne_of_gt lt2) (Nat.ne_of_lt hTl) (Nat.ne_of_lt (Nat.lt_trans hTl lt2)) (Nat.le_refl _) (fun s₀ s3 hD => ?_) xs.length 0 s2 _ _ (Nat.zero_add _) ⟨rfl, rfl, fun b o _ _ e => Heap.get?_push_of_some _ e⟩ (hns.keeps fun b o e => Heap.get?_push_of_some _ e) ⟨_, Heap.get?_push_size _ rfl, rfl, rfl⟩ ⟨its, rv, ht.keeps fun b o e => Heap.get?_push_of_some _ e⟩
  · exact hrw.hd
  · refine seg_leaf (.ok .next) ?_
    exact seg_end (.ok (.ret .none)) (.inl ⟨.inl rfl, rfl, hD⟩)
end
end K0
end

/-! ## K1W -/
section
set_option Elab.async false
set_option linter.all false
set_option maxRecDepth 100000
set_option maxHeartbeats 4000000
namespace K0
open PySem PySem.Spec PyProof.Rows L2 GenW
section
variable {X : Cx} {pins : List (Addr × Obj)} {σ : L2.St} {H : Hp} {s : Shared}
/-- a plain local name holds a value anew: what the heap must show -/
theorem inv_set {i : Nat} {x : Str} {v : V} {u : Value} {m : Str → Option Value} {h' : Heap} {t : Nat} (I : Inv X pins σ H s) (hN : X.N.Nodup) (hi : X.N[i]? = some x) (hk : X.env.scope.names.lookup x = some .local) (r : RelV v u)
    (hm : ∀ (i : Nat) (x : Str) (v : V), X.N[i]? = some x → σ[i]? = some (some v) → Vis X.env.scope x → ∃ u, RelV v u ∧ Look X.env s.heap m x u)
    (hn : h'.Ns X.env.locals (fun y => if y = x then some u else m y)) (hs : Heap.SameBut X.env.locals s.heap h') : Inv X pins (σ.set i (some v)) H { s with heap := h', toks := t } := by
  have kp : ∀ {b o}, b ≠ X.env.locals → s.heap.get? b = some o → h'.get? b = some o := fun n e => (hs.2 _ n).trans e
  have low : ∀ {b o}, X.s_0.heap.get? b = some o → b ≠ X.env.locals := fun e => Nat.ne_of_lt (Nat.lt_of_lt_of_le (Heap.lt_size e) I.ok.above)
  have hU : Un X.fs X.ex X.H_0 H X.s_0.heap h' := { I.base with
    keep := fun b o e n f g => kp (low e) (I.base.keep b o e n f g)
    slot := fun b o e n f g => (I.base.slot b o e n f g).elim fun sl q => ⟨sl, kp (low e) q⟩
    there := fun b o e g => (I.base.there b o e g).elim fun o' q => ⟨o', kp (low e) q⟩ }
  have hok : HOk X.prog X.w H h' := fun b o e => by
    refine (I.hok b o e).stay (fun c z hc q => kp (fun el => ?_) q) (fun _ z => z) fun _ _ z => z
    have nl := I.free
    rw [← el] at nl
    rcases hc with hc | hc
    · rw [hc, e] at nl
      cases nl
    · rw [hc] at nl
      cases nl
  have cne := I.cne
  refine { ok := I.ok, os := I.os, bare := I.bare, base := hU, loc := ⟨_, hn, fun j y z e1 e2 e3 => ?_⟩, cell := fun y c e => (I.cell y c e).elim fun z q => ⟨z, q.sameBut hs (cne y c e)⟩, free := I.free, freeC := I.freeC,
           pin := fun p hp => ?_, hok := hok, len := by rw [List.length_set]; exact I.len }
  · have hil : i < σ.length := by
      rw [I.len]
      exact (List.getElem?_eq_some_iff.mp hi).1
    by_cases q : j = i
    · rw [q] at e1 e2
      rw [List.getElem?_set_self hil] at e2
      obtain rfl : v = z := by cases e2; rfl
      obtain rfl : x = y := by rw [hi] at e1; cases e1; rfl
      exact ⟨u, r, .inl ⟨hk, if_pos rfl⟩⟩
    · rw [List.getElem?_set_ne (Ne.symm q)] at e2
      obtain ⟨u', r', lo⟩ := hm j y z e1 e2 e3
      refine ⟨u', r', lo.imp (fun a => ⟨a.1, ?_⟩) fun a => ⟨a.1, a.2.elim fun c b => ⟨c, b.1, b.2.sameBut hs (cne y c b.1)⟩⟩⟩
      exact (if_neg fun e => q (nodup_ix hN e1 (by rw [e]; exact hi))).trans a.2
  · have a := I.pin p hp
    exact ⟨kp a.2.2.1 a.1, a.2⟩
theorem set_raw {M : Model} {A : Around} {E : Value → Shared → Prop} {i : Nat} {x : Str} {v : V} {u : Value} {Q : Unit → Shared → Prop} (I : Inv X pins σ H s) (hN : X.N.Nodup) (hi : X.N[i]? = some x) (hk : X.env.scope.names.lookup x = some .local) (r : RelV v u)
    (h : ∀ s', Inv X pins (σ.set i (some v)) H s' → s'.gens = s.gens → Q () s') : wpAny M A (storeName X.env x u) Q E s := by
  obtain ⟨m, hn, hm⟩ := id I.loc
  exact wpAny_storeName_local hk hn (fun h' hn' hs => h _ (inv_set I hN hi hk r hm hn' hs) rfl) (by rw [I.ok.kind]; rfl)
theorem var_raw {E : Value → Shared → Prop} {i : Nat} {x : Str} {v : V} {pos : Pos} {Q : Value → Shared → Prop} (I : Inv X pins σ H s) (hi : X.N[i]? = some x) (hk : X.env.scope.names.lookup x = some .local) (e : σ[i]? = some (some v)) (h : ∀ u, RelV v u → Q u s)
    (hd : (x == ("__debug__" : Str)) = false := by decide) : wpAny (model X.prog X.w) X.A (eval (.Name x pos) X.env) Q E s := by
  obtain ⟨m, hn, hm⟩ := I.loc
  obtain ⟨u, r, lo⟩ := hm i x v hi e (.inl hk)
  rcases lo with ⟨_, q⟩ | ⟨k, _⟩
  · exact wpAny_Name (wpAny_loadName_local I.ok.kind hk hn q (h u r)) hd
  · have hk' : X.env.kindOf x = some .local := hk
    rw [hk'] at k
    rcases k with k | k <;> cases k
theorem app_raw {A : Around} {E : Value → Shared → Prop} {L : Addr} {ys : List V} {y : V} {u : Value} {Q : Value → Shared → Prop} (I : Inv X pins σ H s) (hL : H L = some (.lst ys)) (hz : ys.length < sizeLine) (r : RelV y u)
    (h : ∀ s', Inv X pins σ (upd H L (.lst (ys ++ [y]))) s' → s'.gens = s.gens → Q .none s') : wpAny (model X.prog X.w) A (call (.builtin "list.append") [.ref L, u]) Q E s := by
  obtain ⟨_, its, n, rs, e⟩ := I.hok L _ hL
  have hl := rs.length
  refine append_at e (fun h' sb q => ?_) (by rw [List.size_toArray]; omega)
  refine h { s with heap := h' } (I.write (t' := s.toks) (by rw [hL]; trivial) (.inl rfl) (fun b o n z => (sb.2 b n).trans z) ⟨_, q⟩ ⟨?_, its ++ [u], n + 1, rs.append (.cons r .nil), ?_⟩) rfl
  · rw [List.length_append]
    exact hz
  · rw [q]
    simp
end
section
variable {P : Program} {w : World} {A : Around} {E : Value → Shared → Prop} {s : Shared} {B C T : Addr} {xs : List V}
theorem next_down {a : Addr} {g n : Nat} {gs : GenState} {Q : Option Value → Shared → Prop} (hh : A.handled = none) (hl : s.heap.NoLimit) (hroom : A.depth < recursionLimit) (hg : s.heap.IsGen a g) (hgs : s.gens[g]? = some gs)
    (hgo : gs.Goes (model P w) A.in1 (RD B C) (YD B C T xs) n (.send .none) (s.setGen g .running))
    (hT : TupR s.heap T xs) (hTC : T ≠ C) (hTB : T < B)
    (hY : ∀ m v s₁ gs', n = m + 1 → gs'.bare = true → YD B C T xs m (s.setGen g .running) v s₁ (fun r' s'' => gs'.Goes (model P w) A.in1 (RD B C) (YD B C T xs) m r' s'') → Q (some v) (s₁.setGen g gs'))
    (hP : n = 0 → ∀ s₁, Dw B C (s.setGen g .running) s₁ → ∀ h', (∀ b o, s₁.heap.get? b = some o → h'.get? b = some o) → Q none { s₁.setGen g .finished with heap := h' }) : wpAny (model P w) A (pyNext (.ref a)) Q E s := by
  refine next_genG (F := fun n s₀ s₁ => n = 0 ∧ Dw B C s₀ s₁) (Er := fun _ _ => False) (Y := YD B C T xs) (n := n) hh hl hroom hg hgs hgo (fun v s₁ gs' hb hv => ?_) (fun s₁ hp h' hk => hP hp.1 s₁ hp.2 h' hk) fun _ _ z => z.elim
  obtain ⟨i, x, Z, h1, h2, h3, h4, h5, h6⟩ := hv
  cases n with
  | zero =>
    obtain ⟨its, rv, o, ho, q⟩ := hT
    exact False.elim (h6 s₁ (fun p hp => (h5 p hp).2.1) ⟨its, rv, o, h4.keep T o hTC hTB ho, q⟩)
  | succ m => exact hY m v s₁ gs' rfl hb ⟨i, x, Z, h1, h2, h3, h4, h5, h6⟩
end
section
variable {X : Cx} {pins : List (Addr × Obj)} {σ : L2.St} {H : Hp} {s : Shared} {B C T : Addr} {xs : List V}
/-- what the generator may change is none of ours -/
def Priv (X : Cx) (pins : List (Addr × Obj)) (H : Hp) (B C : Addr) : Prop := ∀ b, b = C ∨ B ≤ b → FpOk X pins H b
theorem Priv.to {H' : Hp} (p : Priv X pins H B C) (h : ∀ b, H b = none → H' b = none) : Priv X pins H' B C := fun b hb => ⟨h b (p b hb).1, (p b hb).2⟩
/-- a turn of the generator behind us -/
theorem inv_down {s1 s2 : Shared} (I : Inv X pins σ H s) (pv : Priv X pins H B C) (hk : ∀ b o, b ≠ C → b < B → s.heap.get? b = some o → s1.heap.get? b = some o) (e2 : s2.heap = s1.heap) (ho : s2.os = s.os) (hb : AllBare s2.gens) : Inv X pins σ H s2 := by
  have J : Inv X pins σ H { s with heap := s2.heap, toks := s2.toks } := by
    refine I.turnedL (ch := C :: (List.range s.heap.objs.size).filter fun b => decide (B ≤ b)) (fun b o hb e => ?_) fun b hb => ?_
    · rw [e2]
      rw [List.mem_cons, List.mem_filter, List.mem_range, decide_eq_true_eq] at hb
      have h1 : b ≠ C := fun z => hb (.inl z)
      exact hk b o h1 (Nat.lt_of_not_le fun z => hb (.inr ⟨Heap.lt_size e, z⟩)) e
    · rcases List.mem_cons.mp hb with z | z
      · exact pv b (.inl z)
      · exact pv b (.inr (of_decide_eq_true (List.mem_filter.mp z).2))
  exact { J with os := ho.trans I.os, bare := hb }
/-- the generator sleeps in s, n items are to come -/
def Asleep (X : Cx) (B C T : Addr) (xs : List V) (a : Addr) (g n : Nat) (s : Shared) : Prop := s.heap.IsGen a g ∧ ∃ gs, s.gens[g]? = some gs ∧ gs.Goes (model X.prog X.w) X.A.in1 (RD B C) (YD B C T xs) n (.send .none) (s.setGen g .running)
/-- what is known behind an item -/
def Woken (X : Cx) (B C T : Addr) (xs : List V) (a : Addr) (g m : Nat) (Z : List (Addr × Obj)) (s : Shared) : Prop := s.heap.IsGen a g ∧ Zof B C Z s.heap ∧ ∃ gs', s.gens[g]? = some gs' ∧
  ∀ s'', (∀ p ∈ Z, s''.heap.get? p.1 = some p.2) → TupR s''.heap T xs → gs'.Goes (model X.prog X.w) X.A.in1 (RD B C) (YD B C T xs) m (.send .none) s''
theorem next_inv {a : Addr} {g n : Nat} {E : Value → Shared → Prop} {Q : Option Value → Shared → Prop} (I : Inv X pins σ H s) (hh : X.A.handled = none) (hroom : X.A.depth < recursionLimit) (pv : Priv X pins H B C) (hT : H T = some (.tup xs)) (haC : a ≠ C) (haB : a < B) (hTB : T < B)
    (sl : Asleep X B C T xs a g n s)
    (hY : ∀ m x v Z s1, n = m + 1 → (∃ i, m + 1 + i = xs.length ∧ xs[i]? = some x) → RelV x v → Inv X pins σ H s1 → Woken X B C T xs a g m Z s1 → Q (some v) s1)
    (hP : n = 0 → ∀ s1, Inv X pins σ H s1 → Q none s1) : wpAny (model X.prog X.w) X.A (pyNext (.ref a)) Q E s := by
  obtain ⟨hg, gs, hgs, hgo⟩ := sl
  obtain ⟨its, rv, ht, _⟩ := I.tuple (.inl (.inl hT))
  have hTC : T ≠ C := fun z => by
    have q := (pv C (.inl rfl)).1
    rw [← z, hT] at q
    cases q
  have b0 : AllBare (s.setGen g .running).gens := allBare_setGen I.bare rfl
  have gl : g < s.gens.size := (Array.getElem?_eq_some_iff.mp hgs).1
  refine next_down hh I.nolimit hroom hg hgs hgo ⟨its, rv, ht⟩ hTC hTB (fun m v s1 gs' en hb hv => ?_) fun en s1 D h' hk => ?_
  · obtain ⟨i, x, Z, h1, h2, h3, h4, h5, h6⟩ := hv
    have g1 : s1.gens.size = s.gens.size := by rw [h4.gens]; exact setGen_size _ _ _
    refine hY m x v Z (s1.setGen g gs') en ⟨i, by omega, h2⟩ h3 (inv_down I pv h4.keep rfl h4.os (allBare_setGen (by rw [h4.gens]; exact b0) hb)) ⟨?_, h5, gs', setGen_at (by rw [g1]; exact gl), h6⟩
    obtain ⟨o, nm, qn, ho, r⟩ := hg
    exact ⟨o, nm, qn, h4.keep a o haC haB ho, r⟩
  · refine hP en _ (inv_down (s1 := { s1 with heap := h' }) I pv (fun b o h1 h2 e => hk b o (D.keep b o h1 h2 e)) rfl D.os ?_)
    exact allBare_setGen (s := s1) (by rw [D.gens]; exact b0) rfl
/-- our own turn: the generator's things are pinned, it sleeps on -/
theorem Woken.pin {a : Addr} {g m : Nat} {Z : List (Addr × Obj)} {E : Prop} (W : Woken X B C T xs a g m Z s) (I : Inv X pins σ H s) (pv : Priv X pins H B C) (pa : FpOk X pins H a)
    (k : ∀ Z', Inv X (pins ++ Z') σ H s → (∀ σ' H' s', Inv X (pins ++ Z') σ' H' s' → s'.gens = s.gens → H' T = some (.tup xs) → Asleep X B C T xs a g m s' ∧ Inv X pins σ' H' s') → E) : E := by
  obtain ⟨hg, hz, gs', hgs, hgo⟩ := W
  obtain ⟨o, nm, qn, ho, hoc, hod, hos⟩ := hg
  have fp : ∀ p ∈ (a, o) :: Z, s.heap.get? p.1 = some p.2 ∧ FpOk X pins H p.1 ∧ ∀ v, p.2.data ≠ .cell v := fun p hp => by
    rcases List.mem_cons.mp hp with e | hp
    · rw [e]
      exact ⟨ho, pa, fun v z => by rw [hod] at z; cases z⟩
    · obtain ⟨h1, h2, h3⟩ := hz p hp
      exact ⟨h2, pv _ h1, h3⟩
  refine k ((a, o) :: Z) (I.pins_of fun p hp => ?_) fun σ' H' s' I' eg hT => ⟨⟨⟨o, nm, qn, ?_, hoc, hod, hos⟩, gs', by rw [eg]; exact hgs, hgo _ (fun p hp => ?_) ?_⟩, I'.unpinned⟩
  · rcases List.mem_append.mp hp with z | z
    · exact I.pin p (List.mem_append_right _ z)
    · obtain ⟨h1, h2, h3⟩ := fp p z
      exact ⟨h1, h2.1, h2.2.1, h2.2.2.1, h3⟩
  · exact (I'.pin (a, o) (List.mem_append_right _ (List.mem_append_right _ List.mem_cons_self))).1
  · exact (I'.pin p (List.mem_append_right _ (List.mem_append_right _ (List.mem_cons_of_mem _ hp)))).1
  · obtain ⟨its, rv, ht, _⟩ := I'.tuple (.inl (.inl hT))
    exact ⟨its, rv, ht⟩
end
end K0
end

/-! ## K2A -/
section
set_option Elab.async false
set_option linter.all false
set_option maxRecDepth 100000
set_option maxHeartbeats 4000000
namespace K0
open PySem PySem.Spec PyProof.Rows L2 GenW
theorem upd_id {H : Hp} {a : Addr} {o : HO} (h : H a = some o) : upd H a o = H := funext fun b => by
  by_cases q : b = a
  · rw [q, upd_same, h]
  · rw [upd_ne q]
theorem upd_upd {H : Hp} {a : Addr} {o o' : HO} : upd (upd H a o) a o' = upd H a o' := funext fun b => by
  by_cases q : b = a
  · rw [q, upd_same, upd_same]
  · rw [upd_ne q, upd_ne q, upd_ne q]
section
variable {X : Cx} {pins : List (Addr × Obj)} {σ : L2.St} {H : Hp} {s : Shared} {k : Nat}
theorem call_down {E : Value → Shared → Prop} {Q : Value → Shared → Prop} {f Cr : Addr} {fd : FuncData} {ir : Nat} {rv : Str} {q dx T : Addr} {fl : List (Str × V)} {xs : List V} {p1 p2 p3 : Pos} {pl : Sem Bool}
    (F : FnM X.K "downward" "River.downward" sDown f fd) (Tv : Rv X.K X.mg Cr) (hm : Meth X.K Cr "downward" f) (hr : Room (k + 1) X.A) (hb : Binds X.K fd [("self" : Str)] []) (I : Inv X pins σ H s)
    (hi : X.N[ir]? = some rv) (hk : X.env.scope.names.lookup rv = some .local) (e : σ[ir]? = some (some (.ref q))) (hq : H q = some (.ins Cr dx fl)) (hn : fl.lookup ("downward" : Str) = none) (hl : fl.lookup ("_deepest_first" : Str) = some (V.ref T)) (hT : H T = some (.tup xs))
    (h : ∀ u s', DMade X.prog X.w k X.stack s T xs u s' → Q u s') (hd : (rv == ("__debug__" : Str)) = false := by decide)
    (ht : eval (.Call (.Attribute (.Name rv p1) "downward" p2) [] [] p3) X.env = (do
      let ov ← eval (.Name rv p1) X.env
      standAt p2.atName
      let (f, first) ← holding [ov] (getMethod ov "downward" pl)
      callWith p3 f first (backTo p3 (starEach [] X.env)) (backToKw p3 (keywordEach [] X.env))) := by rfl) :
    wpAny (model X.prog X.w) X.A (eval (.Call (.Attribute (.Name rv p1) "downward" p2) [] [] p3) X.env) Q E s := by
  refine PySem.W.methodCall_KW (pl := pl) (var_raw I hi hk e (fun u ru => ?_) hd) ht
  obtain rfl : u = Value.ref q := ru
  refine getmeth_ok I hq Tv.cl hm hn ?_
  refine PySem.W.callWith_K0 (first := [.ref q]) I.kIn hm.kp (wpAny_call (codeAny_mono (ok_down F Tv hr I.env0 (hb s [.ref q] I.kIn rfl) hq hl hT) fun r s' hz => ?_))
  cases r with
  | error e => exact hz.elim
  | ok fl =>
    cases fl with
    | ret u => exact h u s' hz
    | _ => exact hz.elim
/-- the generator stands before its first turn -/
theorem made_down {E : Prop} {T : Addr} {xs : List V} {u : Value} {s1 : Shared} (I : Inv X pins σ H s) (hr : Room (k + 1) X.A) (D : DMade X.prog X.w k X.stack s T xs u s1)
    (k : ∀ (a g C : Nat), u = .ref a → Inv X pins σ H s1 → s1.heap.IsGen a g → s.heap.objs.size ≤ C → C < a → a < s1.heap.objs.size → (∀ b o, s.heap.get? b = some o → s1.heap.get? b = some o) →
      (∀ s2 : Shared, (∀ b o, s1.heap.get? b = some o → s2.heap.get? b = some o) → s2.gens = s1.gens → s2.os = s1.os → Asleep X s2.heap.objs.size C T xs a g xs.length s2) → E) : E := by
  obtain ⟨a, g, C, c, eu, hC, hCa, has, hg, hgs, hos, hba, hkp, wake⟩ := D
  have J : Inv X pins σ H { s with heap := s1.heap, toks := s1.toks } := I.kept hkp
  refine k a g C eu { J with os := hos.trans I.os, bare := hba } hg hC hCa has hkp fun s2 k2 e2 o2 => ?_
  have hg2 : s2.heap.IsGen a g := by
    obtain ⟨o, nm, qn, ho, r⟩ := hg
    exact ⟨o, nm, qn, k2 _ _ ho, r⟩
  refine ⟨hg2, .fresh c, by rw [e2]; exact hgs, rfl, ?_⟩
  exact wake X.A.in1 (s2.setGen g .running) hr.in1 I.ok.frames k2 (o2.trans hos) (allBare_setGen (by rw [e2]; exact hba) rfl)
/-- for x in rv.downward(): l.append(x) -/
def tForD (Cr : Addr) (ir ix il : Nat) : TS := fun D σ H => ∃ q dx fl T xs L, σ[ir]? = some (some (V.ref q)) ∧ H q = some (.ins Cr dx fl) ∧ fl.lookup ("downward" : Str) = none ∧ fl.lookup ("_deepest_first" : Str) = some (V.ref T) ∧ H T = some (.tup xs) ∧
  σ[il]? = some (some (V.ref L)) ∧ H L = some (.lst []) ∧ xs.length < sizeLine ∧ ∀ σ', (σ' = σ ∨ ∃ v, σ' = σ.set ix (some v)) → D.nx σ' (upd H L (.lst xs))
theorem ps_forD {f Cr : Addr} {fd : FuncData} {ir ix il : Nat} {rv x ln : Str} {px p1 p2 p3 q1 q2 q3 q4 q5 pos : Pos} {pl : Sem Bool}
    (F : FnM X.K "downward" "River.downward" sDown f fd) (Tv : Rv X.K X.mg Cr) (hm : Meth X.K Cr "downward" f) (hr : Room (k + 2) X.A) (hb : Binds X.K fd [("self" : Str)] []) (hN : X.N.Nodup)
    (hi : X.N[ir]? = some rv) (hk : X.env.scope.names.lookup rv = some .local) (hix : X.N[ix]? = some x) (hkx : X.env.scope.names.lookup x = some .local) (hil : X.N[il]? = some ln) (hkl : X.env.scope.names.lookup ln = some .local) (hxl : ix ≠ il)
    (hd : (rv == ("__debug__" : Str)) = false := by decide) (hdx : (x == ("__debug__" : Str)) = false := by decide) (hdl : (ln == ("__debug__" : Str)) = false := by decide)
    (hbase : attributeBase (.Name ln q1) "append" X.env (eval (.Name ln q1) X.env) = eval (.Name ln q1) X.env := by rfl)
    (hfew : ((backTo q4 (starEach [.Name x q3] X.env)).all (fun x => !x.1) && (backToKw q4 (keywordEach [] X.env)).all (fun x => x.1.isSome)
      && decide ([Expr.Name x q3].length + ([] : List Keyword).length + (if ([] : List Keyword).isEmpty then 0 else 1) < 30)) = true := by rfl)
    (hline : (q2.endLine == q4.line) = true := by rfl) (hsw : swapsWith (.Call (.Attribute (.Name ln q1) "append" q2) [.Name x q3] [] q4) none q5.line X.env = pure false := by rfl)
    (hss : starEach [.Name x q3] X.env = (false, eval (.Name x q3) X.env) :: starEach [] X.env := by rfl)
    (hs : ∀ y, foldedSetIterable (.Call (.Attribute (.Name rv p1) "downward" p2) [] [] p3) X.env y = pure y := by intro _; rfl)
    (ht : eval (.Call (.Attribute (.Name rv p1) "downward" p2) [] [] p3) X.env = (do
      let ov ← eval (.Name rv p1) X.env
      standAt p2.atName
      let (f, first) ← holding [ov] (getMethod ov "downward" pl)
      callWith p3 f first (backTo p3 (starEach [] X.env)) (backToKw p3 (keywordEach [] X.env))) := by rfl) :
    PS X (.For (.Name x px) (.Call (.Attribute (.Name rv p1) "downward" p2) [] [] p3) [.Expr (.Call (.Attribute (.Name ln q1) "append" q2) [.Name x q3] [] q4) q5] [] pos) (tForD Cr ir ix il) := by
  refine ⟨fun pins s σ H D I h => ?_⟩
  obtain ⟨q, dx, fl, T, xs, L, er, hq, hn, hl, hT, el, hL, hz, fin⟩ := h
  refine wpAny_For (call_down F Tv hm hr hb I hi hk er hq hn hl hT (fun u s1 hD => ?_) hd ht) hs
  refine made_down I hr hD fun a g C eu I1 hg hC hCa has kp wake => ?_
  subst eu
  refine wpAny_pyIter_gen hg ?_
  have pv : Priv X pins H s1.heap.objs.size C := fun b hb => hb.elim (fun z => by rw [z]; exact I.fpOk hC (I.hok.fresh hC)) fun z => I1.fpOk z (I1.hok.fresh z)
  have hTl : T < s1.heap.objs.size := I1.hok.lt hT
  have hTL : T ≠ L := fun z => by rw [z, hL] at hT; cases hT
  have sl := wake s1 (fun _ _ e => e) rfl rfl
  have pa : FpOk X pins H a := I.fpOk (Nat.le_trans hC (Nat.le_of_lt hCa)) (I.hok.fresh (Nat.le_trans hC (Nat.le_of_lt hCa)))
  have keepN : ∀ {ys : List V} (b : Addr), H b = none → (upd H L (.lst ys)) b = none := fun b hb => by
    rw [upd_ne fun z => by rw [z, hL] at hb; cases hb]
    exact hb
  have hil' : il < X.N.length := (List.getElem?_eq_some_iff.mp hil).1
  generalize hB : s1.heap.objs.size = B at pv hTl sl has
  refine codeAny_forLoop_any (fun n s' => ∃ i σ', i + n = xs.length ∧ (σ' = σ ∨ ∃ v, σ' = σ.set ix (some v)) ∧ Inv X pins σ' (upd H L (.lst (xs.take i))) s' ∧ Asleep X B C T xs a g n s') ?_ xs.length ⟨0, σ, Nat.zero_add _, .inl rfl, by rw [List.take_zero, upd_id hL]; exact I1, sl⟩
  rintro n s3 ⟨i, σ3, hin, hσ, I3, sl3⟩
  have hT3 : (upd H L (.lst (xs.take i))) T = some (.tup xs) := by rw [upd_ne hTL]; exact hT
  have hL3 : (upd H L (.lst (xs.take i))) L = some (.lst (xs.take i)) := upd_same
  have pv3 := pv.to (keepN (ys := xs.take i))
  have el3 : σ3[il]? = some (some (V.ref L)) := by
    rcases hσ with e | ⟨v, e⟩
    · rw [e]; exact el
    · rw [e, List.getElem?_set_ne hxl]; exact el
  refine next_inv I3 hr.hd (by have := hr.dp; omega) pv3 hT3 (Nat.ne_of_gt hCa) has hTl sl3 (fun m y v Z s4 en hy ry I4 W => ?_) fun en s4 I4 => ?_
  · obtain ⟨j, hj, ey⟩ := hy
    obtain rfl : j = i := by omega
    refine wpAny_of_eq (rfl : letOwnedTupleGo (.Name x px) (.ref a) v = pure ()) ?_
    refine W.pin I4 pv3 ⟨keepN a pa.1, pa.2⟩ fun Z' I5 back => ?_
    refine wpAny_assign_Name (set_raw I5 hN hix hkx ry fun s5 I6 e6 => ?_)
    refine wpAny_execs_cons (wpAny_Expr_any ?_ I6.quiet hsw)
    have el5 : (σ3.set ix (some y))[il]? = some (some (V.ref L)) := by rw [List.getElem?_set_ne hxl]; exact el3
    have ex5 : (σ3.set ix (some y))[ix]? = some (some y) := List.getElem?_set_self (by rw [I5.len]; exact (List.getElem?_eq_some_iff.mp hix).1)
    refine wpAny_Call_method_late hbase hfew hline rfl (var_raw I6 hil hkl el5 (fun u ru => ?_) hdl)
    obtain rfl : u = Value.ref L := ru
    obtain ⟨_, its, nL, rL, eL⟩ := I6.hok L _ hL3
    refine ⟨"list", "list.append", PySem.F.plainAttrs_list, PySem.F.slot_list_append, PySem.F.type_list_append, ⟨_, eL, rfl⟩, fun b e => ?_, ?_⟩
    · cases e
      exact ⟨_, eL, rfl⟩
    rw [hss]
    refine Calls.callWith_builtin (by rfl) (Calls.evalArgs_plain (Calls.spliced_cons (var_raw I6 hix hkx ex5 (fun u ru => ?_) hdx)))
    refine Calls.spliced_nil ?_
    have hlt : j < xs.length := (List.getElem?_eq_some_iff.mp ey).1
    refine app_raw I6 hL3 (by rw [List.length_take]; omega) ru fun s7 I7 e7 => ?_
    refine wpAny_execs_nil ?_
    have et : xs.take j ++ [y] = xs.take (j + 1) := by rw [List.take_add_one, ey]; rfl
    rw [upd_upd, et] at I7
    obtain ⟨sl7, I8⟩ := back _ _ s7 I7 (e7.trans e6) (by rw [upd_ne hTL]; exact hT)
    refine ⟨m, by omega, j + 1, _, by omega, .inr ?_, I8, sl7⟩
    rcases hσ with e | ⟨v0, e⟩
    · exact ⟨y, by rw [e]⟩
    · exact ⟨y, by rw [e, List.set_set]⟩
  · refine wpAny_execs_nil ?_
    have : i = xs.length := by omega
    subst this
    rw [List.take_length] at I4
    exact ⟨σ3, _, I4, fin σ3 hσ⟩
end
end K0
end

/-! ## K2B -/
section
set_option Elab.async false
set_option linter.all false
set_option maxRecDepth 100000
set_option maxHeartbeats 4000000
namespace K0
open PySem PySem.Spec PyProof.Rows L2 GenW
section
variable {X : Cx} {pins : List (Addr × Obj)} {σ : L2.St} {H : Hp} {s : Shared} {k : Nat}
/-- [x for x in rv.downward()] -/
def tLcD (Cr : Addr) (ir : Nat) : TE := fun σ H Q => ∃ q dx fl T xs, σ[ir]? = some (some (V.ref q)) ∧ H q = some (.ins Cr dx fl) ∧ fl.lookup ("downward" : Str) = none ∧ fl.lookup ("_deepest_first" : Str) = some (V.ref T) ∧ H T = some (.tup xs) ∧
  xs.length < sizeLine ∧ ∀ D, H D = none → Q (.ref D) (upd H D (.lst xs))
theorem pe_lcD {f Cr : Addr} {fd : FuncData} {ir ix : Nat} {rv x : Str} {px p1 p2 p3 q3 pos : Pos} {scope : Scope} {pl : Sem Bool}
    (F : FnM X.K "downward" "River.downward" sDown f fd) (Tv : Rv X.K X.mg Cr) (hm : Meth X.K Cr "downward" f) (hr : Room (k + 2) X.A) (hb : Binds X.K fd [("self" : Str)] []) (hN : X.N.Nodup)
    (hi : X.N[ir]? = some rv) (hk : X.env.scope.names.lookup rv = some .local) (hix : X.N[ix]? = some x) (ok : BlkOk X.N X.env.scope scope [(x, ix)]) (hkx : (relS scope X.env.scope).names.lookup x = some .local)
    (hd : (rv == ("__debug__" : Str)) = false := by decide) (hdx : (x == ("__debug__" : Str)) = false := by decide)
    (hs : ∀ y, foldedSetIterable (.Call (.Attribute (.Name rv p1) "downward" p2) [] [] p3) X.env y = pure y := by intro _; rfl)
    (ht : eval (.Call (.Attribute (.Name rv p1) "downward" p2) [] [] p3) X.env = (do
      let ov ← eval (.Name rv p1) X.env
      standAt p2.atName
      let (f, first) ← holding [ov] (getMethod ov "downward" pl)
      callWith p3 f first (backTo p3 (starEach [] X.env)) (backToKw p3 (keywordEach [] X.env))) := by rfl) :
    PE X (.ListComp (.Name x q3) [⟨.Name x px, .Call (.Attribute (.Name rv p1) "downward" p2) [] [] p3, [], 0⟩] scope pos) (tLcD Cr ir) := by
  refine ⟨fun pins s σ H Q I h => ?_⟩
  obtain ⟨q, dx, fl, T, xs, er, hq, hn, hl, hT, hz, fin⟩ := h
  rw [eval_ListComp]
  have hfree : ∀ y ∈ scope.names, y.2 = .free → ∃ c, X.env.cells.lookup y.1 = some c := fun y hy e => by
    rcases ok.free y hy e with k | k
    · exact I.ok.has _ (.inl k)
    · exact I.ok.has _ (.inr k)
  refine wpAny_comprehension_free (use := none) rfl hs (closure_ok hfree) ok.kind (fun y hy e => by rw [ok.uniq y hy, e]) (call_down F Tv hm hr hb I hi hk er hq hn hl hT (fun u s1 hD => ?_) hd ht)
  refine made_down I hr hD fun a g C eu I1 hg hC hCa has kp wake => ?_
  subst eu
  refine wpAny_pyIter_gen hg ?_
  refine wpAny_newObj_type (newEnv_comp ?_) (by show 0 ≤ sizeLine; decide)
  generalize hD : s1.heap.objs.size = D
  have hDn : H D = none := I1.hok.fresh (Nat.le_of_eq hD)
  generalize hs3 : ({ s1 with heap := s1.heap.push { cls := .type "list", data := .seq ([] : List Value).toArray } } : Shared) = s3
  have I3 : Inv X pins σ (upd H D (.lst [])) s3 := by
    rw [← hs3]
    refine I1.laid (t' := s1.toks) (fun b o e => Heap.get?_push_of_some _ e) (Nat.le_of_eq hD) ⟨Nat.zero_le _, [], 0, .nil, ?_⟩
    rw [← hD]
    exact Heap.get?_push_size _ rfl
  have h3 : s3.heap = s1.heap.push { cls := .type "list", data := .seq ([] : List Value).toArray } := by rw [← hs3]
  have hsz3 : s3.heap.objs.size = D + 1 := by rw [h3, Heap.size_push, hD]
  have ha0 : H a = none := I.hok.fresh (Nat.le_trans hC (Nat.le_of_lt hCa))
  have hC0 : H C = none := I.hok.fresh hC
  have haD : a < D := by rw [← hD]; exact has
  have hCD : C < D := Nat.lt_trans hCa haD
  have nD : ∀ {ys : List V} {b : Addr}, b ≠ D → H b = none → (upd H D (.lst ys)) b = none := fun hb e => by rw [upd_ne hb]; exact e
  have f3 : ∀ b ∈ [C, a], FpOk X pins (upd H D (.lst [])) b ∧ b < s3.heap.objs.size := fun b hb => by
    rw [hsz3]
    rcases List.mem_cons.mp hb with e | hb
    · rw [e]
      exact ⟨I.fpOk hC (nD (Nat.ne_of_lt hCD) hC0), Nat.lt_succ_of_lt hCD⟩
    · rw [List.mem_singleton.mp hb]
      exact ⟨I.fpOk (Nat.le_trans hC (Nat.le_of_lt hCa)) (nD (Nat.ne_of_lt haD) ha0), Nat.lt_succ_of_lt haD⟩
  have I4 := block_start I3 ok hN f3
  show codeAny _ _ (.compStart (.ListComp (.Name x q3) [⟨.Name x px, .Call (.Attribute (.Name rv p1) "downward" p2) [] [] p3, [], 0⟩] scope pos) 0 (.ref a) (.ref D) (compEnvC scope (cellsFrom (s3.heap.objs.size + 1) scope.names (cloFrom X.env.cells scope.names [])) s3.heap.objs.size X.env)) (compPost (model X.prog X.w) X.A X.xe none (EP X pins σ Q) (.ref D) s3.heap.objs.size) { s3 with heap := pushCells (s3.heap.push { cls := .type "dict", data := .dict #[] }) scope.names }
  have hsc : (compEnvC scope (cellsFrom (s3.heap.objs.size + 1) scope.names (cloFrom X.env.cells scope.names [])) s3.heap.objs.size X.env).scope = relS scope X.env.scope := rfl
  generalize hce : compEnvC scope (cellsFrom (s3.heap.objs.size + 1) scope.names (cloFrom X.env.cells scope.names [])) s3.heap.objs.size X.env = ce at I4 hsc ⊢
  have cL : ce.locals = s3.heap.objs.size := by subst hce; rfl
  generalize hs4 : ({ s3 with heap := pushCells (s3.heap.push { cls := .type "dict", data := .dict #[] }) scope.names } : Shared) = s4 at I4 ⊢
  have k4 : ∀ b o, s1.heap.get? b = some o → s4.heap.get? b = some o := fun b o e => by
    rw [← hs4]
    refine pushCells_keeps _ _ _ _ (Heap.get?_push_of_some _ ?_)
    rw [h3]
    exact Heap.get?_push_of_some _ e
  have sl := wake s4 k4 (by rw [← hs4, ← hs3]) (by rw [← hs4, ← hs3])
  have hkx' : ce.scope.names.lookup x = some .local := by rw [hsc]; exact hkx
  have stat : ∀ {ys : List V} (b : Addr), b ∈ [C, a] → FpOk (X.blk s3 (upd H D (.lst [])) scope ce [C, a]) [] (upd H D (.lst ys)) b := fun b hb => by
    refine ⟨?_, (I4.ok.exf b hb).1, I4.ok.exfs b hb, .inl hb, fun x c e => (I4.ok.exf b hb).2 x c e, fun p hp => absurd (show p ∈ ([] : List (Addr × Obj)) ++ [] from hp) (by simp)⟩
    rcases List.mem_cons.mp hb with e | hb
    · rw [e]; exact nD (Nat.ne_of_lt hCD) hC0
    · rw [List.mem_singleton.mp hb]; exact nD (Nat.ne_of_lt haD) ha0
  have pv : ∀ {ys : List V}, Priv (X.blk s3 (upd H D (.lst [])) scope ce [C, a]) [] (upd H D (.lst ys)) s4.heap.objs.size C := fun b hb => by
    rcases hb with e | hb
    · rw [e]; exact stat C List.mem_cons_self
    · refine I4.fpOk hb ?_
      have q := I4.hok.fresh hb
      by_cases z : b = D
      · rw [z, upd_same] at q; cases q
      · rw [upd_ne z] at q ⊢; exact q
  have hTl : T < s4.heap.objs.size := by
    obtain ⟨o, eo⟩ : ∃ o, s1.heap.get? T = some o := by
      obtain ⟨its, rv, ⟨o, eo, _⟩, _⟩ := I1.tuple (.inl (.inl hT))
      exact ⟨o, eo⟩
    exact Heap.lt_size (k4 _ _ eo)
  have hal : a < s4.heap.objs.size := by
    obtain ⟨o, _, _, eo, _⟩ := hg
    exact Heap.lt_size (k4 _ _ eo)
  have hTD : T ≠ D := ne_of_none hT hDn
  have hg4 : s4.heap.IsGen a g := by
    obtain ⟨o, nm, qn, eo, r⟩ := hg
    exact ⟨o, nm, qn, k4 _ _ eo, r⟩
  have loop : codeAny (model X.prog X.w) X.A (.compLoop (.ListComp (.Name x q3) [⟨.Name x px, .Call (.Attribute (.Name rv p1) "downward" p2) [] [] p3, [], 0⟩] scope pos) 0 (.ref a) (.ref D) ce) (compPost (model X.prog X.w) X.A X.xe none (EP X pins σ Q) (.ref D) s3.heap.objs.size) s4 := by
    refine compLoop_any (fun n s' => ∃ i, i + n = xs.length ∧ Inv (X.blk s3 (upd H D (.lst [])) scope ce [C, a]) [] (wipe σ [ix]) (upd H D (.lst (xs.take i))) s' ∧ Asleep (X.blk s3 (upd H D (.lst [])) scope ce [C, a]) s4.heap.objs.size C T xs a g n s') ?_ xs.length ⟨0, Nat.zero_add _, by rw [List.take_zero]; exact I4, sl⟩
    rintro n s5 ⟨i, hin, I5, sl5⟩
    have hT5 : (upd H D (.lst (xs.take i))) T = some (.tup xs) := by rw [upd_ne hTD]; exact hT
    have hD5 : (upd H D (.lst (xs.take i))) D = some (.lst (xs.take i)) := upd_same
    refine next_inv (X := X.blk s3 (upd H D (.lst [])) scope ce [C, a]) I5 hr.hd (by have := hr.dp; show X.A.depth < _; omega) pv hT5 (Nat.ne_of_gt hCa) hal hTl sl5 (fun m y v Z s6 en hy ry I6 W => ?_) fun en s6 I6 => ?_
    · obtain ⟨j, hj, ey⟩ := hy
      obtain rfl : j = i := by omega
      have hlt : j < xs.length := (List.getElem?_eq_some_iff.mp ey).1
      refine wpAny_of_eq (rfl : letOwnedTupleGo (.Name x px) (.ref a) v = pure ()) ?_
      refine W.pin I6 pv (stat a (List.mem_cons_of_mem _ List.mem_cons_self)) fun Z' I7 back => ?_
      refine wpAny_assign_Name (set_raw (X := X.blk s3 (upd H D (.lst [])) scope ce [C, a]) I7 hN hix hkx' ry fun s7 I8 e8 => ?_)
      refine wpAny_tests_nil ?_
      rw [if_pos rfl]
      have hl7 : ix < (wipe σ [ix]).length := by rw [I7.len]; exact (List.getElem?_eq_some_iff.mp hix).1
      refine var_raw (X := X.blk s3 (upd H D (.lst [])) scope ce [C, a]) I8 hix hkx' (List.getElem?_set_self hl7) (fun u ru => ?_) hdx
      refine app_raw (X := X.blk s3 (upd H D (.lst [])) scope ce [C, a]) I8 hD5 (by rw [List.length_take]; omega) ru fun s9 I9 e9 => ?_
      have et : xs.take j ++ [y] = xs.take (j + 1) := by rw [List.take_add_one, ey]; rfl
      rw [upd_upd, et] at I9
      obtain ⟨sl9, I10⟩ := back _ _ s9 I9 (e9.trans e8) (by rw [upd_ne hTD]; exact hT)
      refine ⟨m, by omega, j + 1, by omega, I10.weak (by rw [List.length_set]) fun b z e => ?_, sl9⟩
      have nb := (wipe_some e).2
      rw [List.mem_singleton] at nb
      rw [List.getElem?_set_ne (Ne.symm nb)]
      exact e
    · have : i = xs.length := by omega
      subst this
      rw [List.take_length] at I6
      have I7 : Inv X pins σ (upd H D (.lst xs)) s6 := I3.call' (ch := [C, a]) I6.os I6.base I6.hok I6.bare fun b hb => ⟨(f3 b hb).1.2.2.2.1, (f3 b hb).1.2.1, (f3 b hb).1.2.2.2.2.1, (f3 b hb).1.2.2.2.2.2⟩
      have nC : (upd H D (.lst xs)) s3.heap.objs.size = none := by
        have z : (upd H D (.lst xs)) ce.locals = none := I6.free
        rw [cL] at z
        exact z
      obtain ⟨m, hns, _⟩ := I6.loc
      have hns : s6.heap.Ns ce.locals m := hns
      rw [cL] at hns
      refine ⟨m, hns, fun h'' sb => ?_⟩
      obtain ⟨f0, f1, f2, f3, f4, f5⟩ := I3.fpOk (Nat.le_refl _) nC
      exact ⟨.ref D, _, I7.turned (t' := s6.toks) (fun b o hb e => (sb.2 b hb).trans e) f0 f1 f3 f4 f5, rfl, fin D hDn⟩
  exact codeAny_compStart_list loop (wpAny_pyIter_gen hg4 loop)
end
end K0
end

/-! ## K2C -/
section
set_option Elab.async false
set_option linter.all false
set_option maxRecDepth 100000
set_option maxHeartbeats 8000000
namespace K0
open PySem PySem.Spec PyProof.Rows L2 GenW
abbrev scOrderR_N : List Str := ["_law_river_here", "_law_rows", "_law_due", "_law_weirs", "_law_depth", "_law_found", "_law_weir", "_law_below"]
abbrev scOrderR_S : Stmt := sOrderR
theorem scOrderR : FnScope scOrderR_N ["_law_river_here", "_law_rows"] (defScope sOrderR) := ⟨rfl, rfl, rfl, by decide +kernel, rfl, by decide +kernel, by decide +kernel⟩
def spOrderR (Cr : Addr) : Sp := fun vs H Q _ => ∃ (q l : Addr) (AR : List (Addr × Row)), vs = [.ref q, .ref l] ∧ RivAt Cr H q AR ∧ RowsAt H l AR ∧ GoodRows (rowsOf AR) ∧
  ∀ H', Same H H' → Q (.bl true) H'
/-- the weirs by depth, the deepest first: those of i depths -/
def dueR (R : List Row) (i : Nat) : List Str := (List.range i).flatMap fun i => (nmsOf R).filter fun x => decide ((course R x).length = R.length - i)
theorem due_all (R : List Row) : dueR R R.length = deepR R := rfl
theorem due_snoc (R : List Row) (i : Nat) : dueR R (i + 1) = dueR R i ++ (nmsOf R).filter fun x => decide ((course R x).length = R.length - i) := by
  unfold dueR
  rw [List.range_succ, List.flatMap_append]
  simp
section
variable {P : Program} {w : World} {K : PySem.W.Frag} {mg : Str → Option Value} {base : Heap} {tS tM tL : Tok}
theorem ok_orderR {f fC fD Cr : Addr} {fd fdC fdD : FuncData} (F : FnP K "_law_order_right" sOrderR f fd) (F_law_course : FnP K "_law_course" sLCourse fC fdC) (g_law_course : mg "_law_course" = some (.ref fC))
    (FD : FnM K "downward" "River.downward" sDown fD fdD) (MD : Meth K Cr "downward" fD) (T : Rv K mg Cr) (B : Bl mg) :
    FnOk P w K mg base CX0 4 f fd ["_law_river_here", "_law_rows"] (spOrderR Cr) := by
  have bD : Binds K fdD [("self" : Str)] [] := FD.bindsN fun _ _ _ _ _ _ us hl => match us, hl with | [_], _ => rfl
  have G_law_course : FnOk P w K mg base CX0 1 fC fdC ["_law_rows", "_law_weir"] spLCourse := ok_lcourse F_law_course B
  have b_law_course : Binds K fdC ["_law_rows", "_law_weir"] [] := F_law_course.bindsN fun _ _ _ _ _ _ us hl => match us, hl with | [_, _], _ => rfl
  refine F.ok scOrderR (fun vs H Q E h => ?_) (fun cdv A outer s H vs Q E hr h => ?_)
  · obtain ⟨q, l, AR, rfl, _⟩ := h
    rfl
  · obtain ⟨q, l, AR, rfl, Rv0, hR, hG, k⟩ := h
    have hu64 := hr.units
    have hr2 : Room (0 + 2) _ := hr.mono (by decide)
    have hr_law_course : Room 1 _ := hr.mono (by decide)
    refine ⟨_, PSs.nox (pss_cons
      (ps_par (i := 2) (j := 3) (by rfl) scOrderR.nd rfl rfl (by decide) rfl rfl (pa_cons (pe_lst pa_nil) (pa_cons (pe_lc (own := [("_law_weir", 6), ("_law_below", 7)])  (tt := tYes) (by rfl) scOrderR.nd (pi_list (pv 1)) (blkOk_by (own := [("_law_weir", 6), ("_law_below", 7)]) (N := scOrderR_N) (sc := defScope scOrderR_S) (by decide +kernel)) (fun _ _ _ _ _ => (tgK (K := K) (n := 2) (by rfl) (pgs_cons (pg_name (i := 6) scOrderR.nd rfl (Or.inl rfl)) (pgs_cons (pg_name (i := 7) scOrderR.nd rfl (Or.inl rfl)) pgs_nil)))) (fun _ _ _ _ _ => pts_nil) (fun _ _ _ _ _ => (pv 6))) pa_nil)) (by rfl))
      (pss_cons
      (ps_for PassesOwn.never rfl (pi_range3 (by rfl) B.range (pa_cons (pe_callB (lenK (K := K)) (by rfl) B.len PySem.boot_len (pa_cons (pv 1) pa_nil)) (pa_cons pe_int (pa_cons (pe_un un_neg pe_int) pa_nil)))) (pg_name (i := 4) scOrderR.nd rfl (Or.inr rfl)) (pss_one
      (ps_set (i := 2) scOrderR.nd rfl (Or.inl rfl) (pe_op op_cat (pv 2) (pe_lc (own := [("_law_weir", 6)]) (g := gName 6)  (by rfl) scOrderR.nd (pi_list (pv 3)) (blkOk_by (own := [("_law_weir", 6)]) (N := scOrderR_N) (sc := defScope scOrderR_S) (by decide +kernel)) (fun _ _ _ _ _ => (pg_name (i := 6) scOrderR.nd rfl (Or.inl rfl))) (fun _ _ _ _ _ => (pts_one (pt_cmpR op_eq (pe_callB (lenK (K := K)) (by rfl) B.len PySem.boot_len (pa_cons (pe_call G_law_course hr_law_course (by rfl) g_law_course F_law_course.kp b_law_course .nil pass0 (pa_cons (pv 1) (pa_cons (pv 6) pa_nil))) pa_nil)) (pv 4) (nomark _)))) (fun _ _ _ _ _ => (pv 6)))))))
      (pss_cons
      (ps_set (i := 5) scOrderR.nd rfl (Or.inl rfl) (pe_lst pa_nil))
      (pss_cons
      (ps_forD (ir := 0) (ix := 6) (il := 5) (k := 0) FD T MD hr2 bD scOrderR.nd rfl rfl rfl rfl rfl rfl (by decide))
      (pss_one
      (ps_ret (pe_and (pe_cmpR (op_eqD hu64) (pv 5) (pv 2) (nomark _)) (pe_one (pe_cmpR (op_eqD hu64) (pe_lcD (ir := 0) (ix := 6) (k := 0) FD T MD hr2 bD scOrderR.nd rfl rfl rfl (blkOk_by (own := [("_law_weir", 6)]) (N := scOrderR_N) (sc := defScope scOrderR_S) (by decide +kernel)) (by rfl)) (pv 2) (nomark _)))))))))), ?_⟩
    have hRm := hG.most
    have hR1 := hG.one
    have hAl : (rowsOf AR).length = AR.length := List.length_map _
    have hnl : (namesOf AR).length = AR.length := nmlen AR
    have hnd := hG.nm.nd
    have z40 : 40000 ≤ sizeLine := by rw [sizeLine_eq]; omega
    have rowat : ∀ {i : Nat} (hi : i < AR.length), (namesOf AR)[i]? = some AR[i].2.1 := fun {i} hi => by
      show (((AR.map (·.2)).map (·.1)))[i]? = _
      rw [List.getElem?_map, List.getElem?_map, List.getElem?_eq_getElem hi]
      rfl
    -- due, weirs
    refine ⟨Nat.zero_le _, fun c nc => ?_⟩
    have s1 : Same H (upd H c (.lst [])) := same_upd nc
    have wc : (upd H c (.lst [])) c = some (.lst []) := upd_same
    generalize upd H c (.lst []) = H1 at s1 wc ⊢
    refine ⟨_, rfl, l, rfl, ⟨_, .inl (.inl (s1 _ _ hR.lst))⟩, fun D hD => ?_⟩
    refine lc_list (K := K) (a := l) (xs := AR.map fun q => V.ref q.1) (fun i H2 => Same H1 H2 ∧ H2 D = some (.lst (((namesOf AR).take i).map V.str))) ⟨same_upd hD, by rw [upd_same, List.take_zero]; rfl⟩ (fun i H2 hi h => .inl (.inl (h.1 _ _ (s1 _ _ hR.lst)))) ?_ ?_
    · rintro i x H2 hx ⟨s2, hl2⟩
      have hi : i < AR.length := by
        have := (List.getElem?_eq_some_iff.mp hx).1
        rw [List.length_map] at this
        exact this
      have ex := row_at hx hi
      subst ex
      refine ⟨AR[i].1, _, rfl, .inl (.inl (s2 _ _ (s1 _ _ (hR.tup _ (List.getElem_mem hi))))), rfl, _, _, rfl, _, _, rfl, rfl, rfl, ?_⟩
      unfold tYes
      refine iteT ?_
      refine ⟨_, rfl, _, hl2, ?_, fun b o hb => ?_, ?_⟩
      · rw [List.length_map, List.length_take]
        exact small1000 (by omega)
      · rw [upd_ne (ne_of_none hb hD)]
        exact s2 b o hb
      · rw [upd_same, List.take_add_one, rowat hi, List.map_append]
        rfl
    rintro H2 ⟨s2, hl2⟩
    rw [List.length_map, ← hnl, List.take_length] at hl2
    have s12 := s1.trans s2
    have wc2 := s2 _ _ wc
    refine ⟨_, _, rfl, ?_⟩
    refine ⟨_, rfl, l, _, rfl, .inl (.inl (.inl (s12 _ _ hR.lst))), ?_⟩
    have hlen : (AR.map fun q => V.ref q.1).length = (rowsOf AR).length := by rw [List.length_map, hAl]
    have hrg : RgC ((AR.map fun q => V.ref q.1).length : Int) 0 (-1) (rowsOf AR).length := by
      have e : ((((AR.map fun q => V.ref q.1).length : Nat) : Int) - 0).toNat = (rowsOf AR).length := by rw [hlen]; omega
      rw [← e]
      exact RgC.neg (by omega) (by omega) (by decide) (by decide)
    refine ⟨_, rfl, _, _, _, _, rfl, hrg, ?_⟩
    rw [hlen]
    refine for_rangeC (n := (rowsOf AR).length) (lo := ((rowsOf AR).length : Int)) (c := -1) (fun i σ H3 => ∃ (du : Addr) (v : Option V), σ = [some (.ref q), some (.ref l), some (.ref du), some (.ref D), v, none, none, none] ∧ Same H2 H3 ∧ H3 du = some (.lst ((dueR (rowsOf AR) i).map V.str)) ∧ (dueR (rowsOf AR) i).length ≤ i * 40) ⟨c, none, rfl, fun _ _ e => e, wc2, by show 0 ≤ _; omega⟩ ?_ ?_
    · rintro i σ H3 hi ⟨du, v, rfl, s3, hdu, hdl⟩
      refine ⟨_, rfl, _, rfl, D, rfl, ⟨_, .inl (.inl (s3 _ _ hl2))⟩, fun D2 hD2 => ?_⟩
      refine lc_list (K := K) (a := D) (xs := (namesOf AR).map V.str) (fun j Hk => Same H3 Hk ∧ Hk D2 = some (.lst ((((namesOf AR).take j).filter fun x => decide ((course (rowsOf AR) x).length = (rowsOf AR).length - i)).map V.str))) ⟨same_upd hD2, by rw [upd_same, List.take_zero]; rfl⟩ (fun j Hk hj h => .inl (.inl (h.1 _ _ (s3 _ _ hl2)))) ?_ ?_
      · rintro j x Hk hx ⟨sk, hk2⟩
        rw [List.getElem?_map] at hx
        obtain ⟨z, hz, rfl⟩ := Option.map_eq_some_iff.mp hx
        have hzm : z ∈ namesOf AR := List.mem_of_getElem? hz
        have s0k := ((s12.trans s3).trans sk)
        refine ⟨rfl, ?_⟩
        refine ⟨_, rfl, _, rfl, l, AR, z, rfl, hR.same s0k, hG, hzm, fun Hc cc sc nc hcc => ?_⟩
        refine ⟨cc, _, rfl, .inl (.inl (.inl hcc)), _, rfl, rfl, _, rfl, ?_⟩
        have hft := filter_take (p := fun x => decide ((course (rowsOf AR) x).length = (rowsOf AR).length - i)) hz
        have skc := sk.trans sc
        have hkc := sc _ _ hk2
        have hzl := List.length_filter_le (fun x => decide ((course (rowsOf AR) x).length = (rowsOf AR).length - i)) ((namesOf AR).take j)
        rw [List.length_take] at hzl
        have hiff : (V.int (((course (rowsOf AR) z).map V.str).length : Int) = V.int (((rowsOf AR).length : Int) + ((i : Nat) : Int) * -1)) ↔ (course (rowsOf AR) z).length = (rowsOf AR).length - i := by
          rw [List.length_map]
          constructor
          · intro e
            have := V.int.inj e
            omega
          · intro e
            rw [e]
            congr 1
            omega
        refine ite2 (fun h => ?_) (fun h => ?_)
        · have h : (course (rowsOf AR) z).length = (rowsOf AR).length - i := hiff.mp (of_decide_eq_true h)
          rw [if_pos (decide_eq_true h)] at hft
          refine ⟨_, rfl, _, hkc, ?_, fun b o hb => ?_, ?_⟩
          · rw [List.length_map]
            exact small1000 (by omega)
          · rw [upd_ne (ne_of_none hb hD2)]
            exact skc b o hb
          · rw [upd_same, hft, List.map_append]
            rfl
        · have h : ¬ (course (rowsOf AR) z).length = (rowsOf AR).length - i := fun e => h (decide_eq_true (hiff.mpr e))
          rw [if_neg (fun e => h (of_decide_eq_true e)), List.append_nil] at hft
          refine ⟨skc, ?_⟩
          rw [hft]
          exact hkc
      · rintro Hk ⟨sk, hk2⟩
        have e7 : ((namesOf AR).map V.str).length = (namesOf AR).length := List.length_map _
        rw [e7, List.take_length] at hk2
        have hfl := List.length_filter_le (fun x => decide ((course (rowsOf AR) x).length = (rowsOf AR).length - i)) (namesOf AR)
        have hzz := sizeLine_eq
        have hm : i * 40 ≤ 40 * 40 := Nat.mul_le_mul (by omega) (Nat.le_refl _)
        have hds := due_snoc (rowsOf AR) i
        refine ⟨du, D2, _, _, rfl, rfl, sk _ _ hdu, hk2, by rw [List.length_map, List.length_map]; omega, fun p np => ?_⟩
        refine ⟨p, _, rfl, (s3.trans sk).trans (same_upd np), ?_, ?_⟩
        · rw [upd_same, hds, List.map_append]
        · have e : (dueR (rowsOf AR) (i + 1)).length = (dueR (rowsOf AR) i).length + ((namesOf AR).filter fun x => decide ((course (rowsOf AR) x).length = (rowsOf AR).length - i)).length := by
            rw [hds, List.length_append]
          rw [e, Nat.succ_mul]
          omega
    · rintro σ H3 ⟨du, v, rfl, s3, hdu, hdl⟩
      rw [due_all] at hdu hdl
      have s03 := s12.trans s3
      refine ⟨Nat.zero_le _, fun L nL => ?_⟩
      have s4 := same_upd nL (o := .lst [])
      have wL : (upd H3 L (.lst [])) L = some (.lst []) := upd_same
      have hdu4 := s4 _ _ hdu
      have s04 := s03.trans s4
      have duL : du ≠ L := ne_of_none hdu nL
      obtain ⟨dx, tw, tr, db, dc, da, dq, o, h1, h2, h3, h4, h5, h6, h7, h8, dT, rfl, h9⟩ := id Rv0.ex
      have hm : (rowsOf AR).length * 40 ≤ 40 * 40 := Nat.mul_le_mul (by omega) (Nat.le_refl _)
      have hdz : ((deepR (rowsOf AR)).map V.str).length < sizeLine := by
        rw [List.length_map]
        omega
      have g7d : ∀ {a b c d e g h : V}, (f7 a b c d e g h).lookup ("_deepest_first" : Str) = some h := fun {a b c d e g h} => by rw [f7, lookup_putF, if_pos rfl]
      refine ⟨q, dx, _, dT, _, L, rfl, s04 _ _ h1, g7m (by decide +kernel), g7d, s04 _ _ h9, rfl, wL, hdz, fun σ' hσ => ?_⟩
      have s5 : Same H (upd (upd H3 L (.lst [])) L (.lst ((deepR (rowsOf AR)).map V.str))) := fun b o e => by
        rw [upd_upd]
        rw [upd_ne (ne_of_none (s03 _ _ e) nL)]
        exact s03 _ _ e
      have wL5 : (upd (upd H3 L (.lst [])) L (.lst ((deepR (rowsOf AR)).map V.str))) L = some (.lst ((deepR (rowsOf AR)).map V.str)) := upd_same
      have hdu5 : (upd (upd H3 L (.lst [])) L (.lst ((deepR (rowsOf AR)).map V.str))) du = some (.lst ((deepR (rowsOf AR)).map V.str)) := by rw [upd_ne duL]; exact hdu4
      have hσ5 : σ'[0]? = some (some (V.ref q)) ∧ σ'[2]? = some (some (V.ref du)) ∧ σ'[5]? = some (some (V.ref L)) := by
        rcases hσ with e | ⟨v', e⟩ <;> rw [e] <;> exact ⟨rfl, rfl, rfl⟩
      generalize upd (upd H3 L (.lst [])) L (.lst ((deepR (rowsOf AR)).map V.str)) = H5 at s5 wL5 hdu5 ⊢
      have plt : ∀ z ∈ deepR (rowsOf AR), Plain z := fun z hz => by
        unfold deepR at hz
        obtain ⟨i, _, hz⟩ := List.mem_flatMap.mp hz
        exact plain_name hG (List.mem_filter.mp hz).1
      refine ⟨_, hσ5.2.2, _, hσ5.2.1, .list _, .list _, .lst (.inl (.inl wL5)) (dp_strs _), .lst (.inl (.inl hdu5)) (dp_strs _), shaped_lst plt, shaped_lst plt, _, rfl, ?_⟩
      rw [eqv_lsts]
      refine iteT ?_
      refine ⟨q, dx, _, dT, _, hσ5.1, s5 _ _ h1, g7m (by decide +kernel), g7d, s5 _ _ h9, hdz, fun D6 nD6 => ?_⟩
      have s6 := same_upd nD6 (o := .lst ((deepR (rowsOf AR)).map V.str))
      refine ⟨_, hσ5.2.1, .list _, .list _, .lst (.inl (.inl upd_same)) (dp_strs _), .lst (.inl (.inl (s6 _ _ hdu5))) (dp_strs _), shaped_lst plt, shaped_lst plt, ?_⟩
      rw [eqv_lsts]
      exact k _ (s5.trans s6)
end
end K0
end

/-! ## K2D -/
section
set_option Elab.async false
set_option linter.all false
set_option maxRecDepth 100000
set_option maxHeartbeats 8000000
namespace K0
open PySem PySem.Spec PyProof.Rows L2 LamX
abbrev scLaw_N : List Str := ["_law_script", "_law_at", "_law_bag_here", "_law_rows", "_law_river_here", "_law_weirs", "_law_high", "_law_low", "_law_weir", "_law_below"]
abbrev scLaw_S : Stmt := sLaw
theorem scLaw : FnScope scLaw_N ["_law_script"] (defScope sLaw) := ⟨rfl, rfl, rfl, by decide +kernel, rfl, by decide +kernel, by decide +kernel⟩
def spLaw (K : PySem.W.Frag) (T : List (Addr × Str)) : Sp := fun vs H Q _ => ∃ (a : Addr) (ns : List Int), vs = [.ref a] ∧ SqL K H a (ns.map V.int) ∧ ns.length ≤ 63 ∧ Tabs T H ∧ ∀ H', Q (.bl true) H'
section
variable {K : PySem.W.Frag}
/-- rows as data -/
def rowD (r : Row) : PyData := .tuple [.str r.1, .str r.2]
theorem eqv_rows : ∀ a b : List Row, PyData.eqvAll (a.map rowD) (b.map rowD) = decide (a = b)
  | [], [] => by simp only [List.map_nil, PyData.eqvAll]; rfl
  | [], _ :: _ => by simp only [List.map_nil, List.map_cons, PyData.eqvAll]; rfl
  | _ :: _, [] => by simp only [List.map_nil, List.map_cons, PyData.eqvAll]; rfl
  | (x1, x2) :: a, (y1, y2) :: b => by
    have ih := eqv_rows a b
    simp only [List.map_cons, PyData.eqvAll, rowD, PyData.eqv, Bool.and_true]
    rw [Bool.eq_iff_iff]
    have ih2 : PyData.eqvAll (a.map rowD) (b.map rowD) = true ↔ a = b := by rw [ih]; simp
    simp only [Bool.and_eq_true, beq_iff_eq, decide_eq_true_eq, List.cons.injEq, Prod.mk.injEq, ih2]
theorem canLay_rows : ∀ {a : List Row}, (∀ r ∈ a, Plain r.1 ∧ Plain r.2) → PyData.canLayAll0 (a.map rowD) = true
  | [], _ => by simp only [List.map_nil, PyData.canLayAll0]
  | r :: a, h => by
    have ih := canLay_rows fun z hz => h z (List.mem_cons_of_mem _ hz)
    obtain ⟨h1, h2⟩ := h r List.mem_cons_self
    simp only [List.map_cons, PyData.canLayAll0, ih, rowD, PyData.canLay0, plain_ok h1, plain_ok h2]
    rfl
theorem depth_rows : ∀ a : List Row, PyData.depthAll (a.map rowD) ≤ 1
  | [] => by simp only [List.map_nil, PyData.depthAll]; omega
  | r :: a => by
    have ih := depth_rows a
    simp only [List.map_cons, PyData.depthAll, rowD, PyData.depth]
    omega
theorem good_plain {R : List Row} (h : GoodRows R) : ∀ r ∈ R, Plain r.1 ∧ Plain r.2 := fun r hr => by
  have hk := h.row hr
  exact ⟨name_plain hk.a, name_plain hk.b⟩
theorem dp_rows {H : Hp} : ∀ {AR : List (Addr × Row)}, (∀ q ∈ AR, H q.1 = some (.tup [.str q.2.1, .str q.2.2])) → DpAll K H (AR.map fun q => V.ref q.1) ((rowsOf AR).map rowD)
  | [], _ => .nil
  | (a, r) :: AR, h => .cons (.tup (.inl (.inl (h (a, r) List.mem_cons_self))) (.cons (.str r.1) (.cons (.str r.2) .nil))) (dp_rows fun q hq => h q (List.mem_cons_of_mem _ hq))
theorem shaped_rows {R : List Row} (h : ∀ r ∈ R, Plain r.1 ∧ Plain r.2) : SeqAt.shaped (.tuple (R.map rowD)) = true ∧ SeqAt.shaped (.list (R.map rowD)) = true := by
  have h2 := depth_rows R
  have h3 : PyData.depthAll (R.map rowD) + 1 ≤ 64 := by omega
  constructor
  all_goals
    unfold SeqAt.shaped
    simp only [PyData.canLay0, PyData.depth, canLay_rows h, h3]
    rfl
end
/-- what stands between the steps of the law -/
structure Lw (K : PySem.W.Frag) (T : List (Addr × Str)) (Cr : Addr) (H : Hp) (a : Addr) (xs : List V) (p q l wl : Addr) (AR : List (Addr × Row)) : Prop where
  seq : (Rd H a (.lst xs) ∧ a ≠ p) ∨ ∀ H', SqL K H' a xs
  bag : BagAt H p
  riv : RivAt Cr H q AR
  rows : RowsAt H l AR
  lp : l ≠ p
  wls : H wl = some (.lst ((namesOf AR).map V.str))
  wlp : wl ≠ p
  tabs : Tabs T H
section
variable {K : PySem.W.Frag} {T : List (Addr × Str)} {Cr : Addr} {H H' : Hp} {a : Addr} {xs : List V} {p q l wl : Addr} {AR : List (Addr × Row)}
theorem Lw.sq (h : Lw K T Cr H a xs p q l wl AR) : SqL K H a xs := h.seq.elim (fun z => .inl z.1) fun z => z H
theorem rd_uptoT {p a : Addr} {H H' : Hp} {xs : List V} (u : UptoT p H H') (n : a ≠ p) (r : Rd H a (.lst xs)) : Rd H' a (.lst xs) :=
  r.elim (fun e => .inl (u _ _ e n (fun _ z => by cases z))) fun ⟨o, e⟩ => .inr ⟨o, u _ _ e n (fun _ z => by cases z)⟩
theorem rows_uptoT {p l : Addr} {H H' : Hp} {AR : List (Addr × Row)} (B : BagAt H p) (u : UptoT p H H') (n : l ≠ p) (r : RowsAt H l AR) : RowsAt H' l AR := by
  obtain ⟨b, hb, _⟩ := B
  exact ⟨u _ _ r.lst n (fun _ z => by cases z), fun z hz => u _ _ (r.tup z hz) (ne_of (r.tup z hz) hb (fun z => by cases z)) (fun _ z => by cases z)⟩
theorem Lw.keep (h : Lw K T Cr H a xs p q l wl AR) (u : UptoT p H H') (B : BagAt H' p) (t : Tabs T H') : Lw K T Cr H' a xs p q l wl AR := by
  obtain ⟨b, hb, hv⟩ := id h.bag
  refine ⟨?_, B, rivK (fun x o e n1 n2 => u _ _ e (ne_of e hb (n1 b)) n2) h.riv, rows_uptoT h.bag u h.lp h.rows, h.lp, u _ _ h.wls h.wlp (fun _ z => by cases z), h.wlp, t⟩
  rcases h.seq with ⟨r, n⟩ | z
  · exact .inl ⟨rd_uptoT u n r, n⟩
  · exact .inr z
theorem Lw.extN (h : Lw K T Cr H a xs p q l wl AR) (s : ExtN H H') (t : Tabs T H') : Lw K T Cr H' a xs p q l wl AR := h.keep (fun b o hb _ n => s b o hb n) (bagE s h.bag) t
theorem Lw.same (h : Lw K T Cr H a xs p q l wl AR) (s : Same H H') : Lw K T Cr H' a xs p q l wl AR := h.extN (ExtN.of s) (h.tabs.ext s)
end
/-- all functions of the text -/
structure All (P : Program) (w : World) (K : PySem.W.Frag) (mg : Str → Option Value) (base : Heap) (tS tM tL : Tok) (Cr Cn Cd Cw Pt Qt : Addr) : Prop where
  B : Bl mg
  C : Gc mg tS tM tL
  T : Rv K mg Cr
  S : Ms K Cr
  down : ∃ f fd, FnM K "downward" "River.downward" sDown f fd ∧ Meth K Cr "downward" f
  made : ∃ f fd, FnM K "__init__" "River.__init__" sInit f fd ∧ Mk K Cr f
  D : Nd P w K mg base Cr Cn
  N : ∃ f fd, Nw2 P K mg Cd f fd
  R : Er K mg Cn Cd Cw
  Mm : Mf K mg
  bag : ∃ f fd, FnP K "_law_bag" sBag f fd ∧ mg "_law_bag" = some (.ref f)
  take : ∃ f fd, FnP K "_law_take" sTake f fd ∧ mg "_law_take" = some (.ref f)
  of : ∃ f fd, FnP K "_law_of" sOf f fd ∧ mg "_law_of" = some (.ref f)
  mixed : ∃ f fd, FnP K "_law_mixed" sMixed f fd ∧ mg "_law_mixed" = some (.ref f)
  names : ∃ f fd, FnP K "_law_names" sNames f fd ∧ mg "_law_names" = some (.ref f)
  river : ∃ f fd, FnP K "_law_river" sLRiver f fd ∧ mg "_law_river" = some (.ref f)
  course : ∃ f fd, FnP K "_law_course" sLCourse f fd ∧ mg "_law_course" = some (.ref f)
  refusal : ∃ f fd, FnP K "_law_refusal" sRefusal f fd ∧ mg "_law_refusal" = some (.ref f)
  pairs : ∃ f fd, FnP K "_law_pairs" sPairs f fd ∧ mg "_law_pairs" = some (.ref f)
  pair : ∃ f fd c, FnP K "_law_pair_right" sPair f fd ∧ mg "_law_pair_right" = some (.ref f) ∧ fd.code = .ref c ∧ TabB base mg c Pt
  order : ∃ f fd, FnP K "_law_order_right" sOrderR f fd ∧ mg "_law_order_right" = some (.ref f)
  refuses : ∃ f fd c, FnP K "_law_refuses_right" sRefuses f fd ∧ mg "_law_refuses_right" = some (.ref f) ∧ fd.code = .ref c ∧ TabB base mg c Qt
section
variable {P : Program} {w : World} {K : PySem.W.Frag} {mg : Str → Option Value} {base : Heap} {tS tM tL : Tok}
theorem ok_law {f Cr Cn Cd Cw Pt Qt : Addr} {fd : FuncData} (hPQ : Pt ≠ Qt) (F : FnP K "law" sLaw f fd) (L : All P w K mg base tS tM tL Cr Cn Cd Cw Pt Qt) : FnOk P w K mg base CX0 9 f fd ["_law_script"] (spLaw K [(Pt, lamP), (Qt, lamQ)]) := by
  obtain ⟨B, C, T, S, ⟨fD, fdD, FD, MD⟩, ⟨fI, fdI, FI, MK⟩, D, ⟨fN, fdN, N⟩, R, Mm, ⟨f1, d1, F_law_bag, g_law_bag⟩, ⟨f2, d2, F_law_take, g_law_take⟩, ⟨f3, d3, F_law_of, g_law_of⟩, ⟨f4, d4, F_law_mixed, g_law_mixed⟩, ⟨f5, d5, F_law_names, g_law_names⟩, ⟨f6, d6, F_law_river, g_law_river⟩, ⟨f7, d7, F_law_course, g_law_course⟩,
    ⟨f8, d8, F_law_refusal, g_law_refusal⟩, ⟨f9, d9, F_law_pairs, g_law_pairs⟩, ⟨fa, da, ca, F_law_pair_right, g_law_pair_right, hca, TBa⟩, ⟨fb, db, F_law_order_right, g_law_order_right⟩, ⟨fg, dg, cg, F_law_refuses_right, g_law_refuses_right, hcg, TBg⟩⟩ := L
  obtain ⟨f11, d11, F11, Mrows⟩ := S.rows
  obtain ⟨f12, d12, F12, Mway⟩ := S.way
  have hPm : (Pt, lamP) ∈ [(Pt, lamP), (Qt, lamQ)] := List.mem_cons_self
  have hQm : (Qt, lamQ) ∈ [(Pt, lamP), (Qt, lamQ)] := List.mem_cons_of_mem _ List.mem_cons_self
  have hPu : ∀ z ∈ [(Pt, lamP), (Qt, lamQ)], z.1 = Pt → z.2 = lamP := fun z hz e => by
    rcases List.mem_cons.mp hz with q | hz
    · rw [q]
    · rw [List.mem_singleton.mp hz] at e
      exact absurd e.symm hPQ
  have hQu : ∀ z ∈ [(Pt, lamP), (Qt, lamQ)], z.1 = Qt → z.2 = lamQ := fun z hz e => by
    rcases List.mem_cons.mp hz with q | hz
    · rw [q] at e
      exact absurd e hPQ
    · rw [List.mem_singleton.mp hz]
  have GI : FnOk P w K mg base CX0 4 fI fdI ["self", "rows"] (spInit Cr) := ok_init FI Mm T B C
  have bI : Binds K fdI ["self", "rows"] [] := FI.bindsN fun _ _ _ _ _ _ us hl => match us, hl with | [_, _], _ => rfl
  have Gway : FnOk P w K mg base (L2.CX P w) 4 f12 d12 ["self", "intake", "last"] (spWay K Cr Cn Cd) := ok_way F12 D N T C
  have bway : Binds K d12 ["self", "intake", "last"] [] := F12.bindsN fun _ _ _ _ _ _ us hl => match us, hl with | [_, _, _], _ => rfl
  have Grows : FnOk P w K mg base CX0 1 f11 d11 ["self"] (spRows Cr) := ok_rows F11 T B
  have brows : Binds K d11 ["self"] [] := F11.bindsN fun _ _ _ _ _ _ us hl => match us, hl with | [_], _ => rfl
  have G_law_bag : FnOk P w K mg base CX0 1 f1 d1 ["_law_script", "_law_at", "_law_salt"] (spBag K) := ok_bag F_law_bag B
  have b_law_bag : Binds K d1 ["_law_script", "_law_at", "_law_salt"] [] := F_law_bag.bindsN fun _ _ _ _ _ _ us hl => match us, hl with | [_, _, _], _ => rfl
  have G_law_take : FnOk P w K mg base CX0 1 f2 d2 ["_law_bag_here", "_law_many"] spTake := ok_take F_law_take B
  have b_law_take : Binds K d2 ["_law_bag_here", "_law_many"] [] := F_law_take.bindsN fun _ _ _ _ _ _ us hl => match us, hl with | [_, _], _ => rfl
  have G_law_course : FnOk P w K mg base CX0 1 f7 d7 ["_law_rows", "_law_weir"] spLCourse := ok_lcourse F_law_course B
  have b_law_course : Binds K d7 ["_law_rows", "_law_weir"] [] := F_law_course.bindsN fun _ _ _ _ _ _ us hl => match us, hl with | [_, _], _ => rfl
  have G_law_pairs : FnOk P w K mg base CX0 3 f9 d9 ["_law_bag_here", "_law_weirs"] spPairs := ok_pairs F_law_pairs F_law_take F_law_of B g_law_take g_law_of
  have b_law_pairs : Binds K d9 ["_law_bag_here", "_law_weirs"] [] := F_law_pairs.bindsN fun _ _ _ _ _ _ us hl => match us, hl with | [_, _], _ => rfl
  have G_law_pair_right : FnOk P w K mg base CX0 8 fa da ["_law_river_here", "_law_rows", "_law_high", "_law_low"] (spPair Cr [(Pt, lamP), (Qt, lamQ)]) := ok_pair F_law_pair_right hca TBa hPm hPu F_law_course F_law_refusal g_law_course g_law_refusal R D N S T B C
  have b_law_pair_right : Binds K da ["_law_river_here", "_law_rows", "_law_high", "_law_low"] [] := F_law_pair_right.bindsN fun _ _ _ _ _ _ us hl => match us, hl with | [_, _, _, _], _ => rfl
  have G_law_order_right : FnOk P w K mg base CX0 4 fb db ["_law_river_here", "_law_rows"] (spOrderR Cr) := ok_orderR F_law_order_right F_law_course g_law_course FD MD T B
  have b_law_order_right : Binds K db ["_law_river_here", "_law_rows"] [] := F_law_order_right.bindsN fun _ _ _ _ _ _ us hl => match us, hl with | [_, _], _ => rfl
  have G_law_refuses_right : FnOk P w K mg base CX0 8 fg dg ["_law_bag_here", "_law_river_here", "_law_rows"] (spRefuses Cr [(Pt, lamP), (Qt, lamQ)]) := ok_refuses F_law_refuses_right hcg TBg hQm hQu F_law_take F_law_of F_law_refusal g_law_take g_law_of g_law_refusal R D N S T B C
  have b_law_refuses_right : Binds K dg ["_law_bag_here", "_law_river_here", "_law_rows"] [] := F_law_refuses_right.bindsN fun _ _ _ _ _ _ us hl => match us, hl with | [_, _, _], _ => rfl
  have G_law_river : FnOk P w K mg base CX0 4 f6 d6 ["_law_bag_here", "_law_many"] spLRiver := ok_lriver F_law_river ⟨B, ⟨f2, d2, F_law_take, g_law_take⟩, ⟨f3, d3, F_law_of, g_law_of⟩, ⟨f4, d4, F_law_mixed, g_law_mixed⟩, ⟨f5, d5, F_law_names, g_law_names⟩⟩
  have b_law_river : Binds K d6 ["_law_bag_here", "_law_many"] [] := F_law_river.bindsN fun _ _ _ _ _ _ us hl => match us, hl with | [_, _], _ => rfl
  refine F.ok scLaw (fun vs H Q E h => ?_) (fun cdv A outer s H vs Q X0 hr h => ?_)
  · obtain ⟨a, ns, rfl, _⟩ := h
    rfl
  · obtain ⟨a, ns, rfl, hS, hns, hT, k⟩ := h
    have hu64 := hr.units
    have hr5 : Room 5 _ := hr.mono (by decide)
    have hrway : Room 4 _ := hr.mono (by decide)
    have hrrows : Room 1 _ := hr.mono (by decide)
    have hr_law_bag : Room 1 _ := hr.mono (by decide)
    have hr_law_take : Room 1 _ := hr.mono (by decide)
    have hr_law_river : Room 4 _ := hr.mono (by decide)
    have hr_law_course : Room 1 _ := hr.mono (by decide)
    have hr_law_pairs : Room 3 _ := hr.mono (by decide)
    have hr_law_pair_right : Room 8 _ := hr
    have hr_law_order_right : Room 4 _ := hr.mono (by decide)
    have hr_law_refuses_right : Room 8 _ := hr
    refine ⟨_, PSs.nox (pss_cons
      (ps_for PassesOwn.never rfl (pi_range1 (by rfl) B.range (pa_cons (pe_callB (call_max2 rfl) (by rfl) B.max (by decide +kernel) (pa_cons pe_int (pa_cons (pe_callB (call_min2 rfl) (by rfl) B.min (by decide +kernel) (pa_cons pe_int (pa_cons (pe_callB (lenK (K := K)) (by rfl) B.len PySem.boot_len (pa_cons (pv 0) pa_nil)) pa_nil))) pa_nil))) pa_nil)) (pg_name (i := 1) scLaw.nd rfl (Or.inl rfl)) (pss_cons
      (ps_set (i := 2) scLaw.nd rfl (Or.inl rfl) (pe_call G_law_bag hr_law_bag (by rfl) g_law_bag F_law_bag.kp b_law_bag .nil pass0 (pa_cons (pv 0) (pa_cons (pv 1) (pa_cons pe_int pa_nil)))))
      (pss_cons
      (ps_set (i := 3) scLaw.nd rfl (Or.inl rfl) (pe_call G_law_river hr_law_river (by rfl) g_law_river F_law_river.kp b_law_river .nil pass0 (pa_cons (pv 2) (pa_cons (pe_op op_add pe_int (pe_call G_law_take hr_law_take (by rfl) g_law_take F_law_take.kp b_law_take .nil pass0 (pa_cons (pv 2) (pa_cons (pe_ifExp (pt_cmpR op_eq (pe_call G_law_take hr_law_take (by rfl) g_law_take F_law_take.kp b_law_take .nil pass0 (pa_cons (pv 2) (pa_cons pe_int pa_nil))) pe_int (nomark _)) pe_int pe_int) pa_nil)))) pa_nil))))
      (pss_cons
      (ps_par (i := 4) (j := 5) (by rfl) scLaw.nd rfl rfl (by decide) rfl rfl (pa_cons (pe_make MK GI hr5 (by rfl) T.mgC bI .nil pass0 (pa_cons (pe_callTy (listK (K := K)) (by rfl) B.list (by decide +kernel) (pa_cons (pv 3) pa_nil)) pa_nil)) (pa_cons (pe_lc (own := [("_law_weir", 8), ("_law_below", 9)])  (tt := tYes) (by rfl) scLaw.nd (pi_list (pv 3)) (blkOk_by (own := [("_law_weir", 8), ("_law_below", 9)]) (N := scLaw_N) (sc := defScope scLaw_S) (by decide +kernel)) (fun _ _ _ _ _ => (tgK (K := K) (n := 2) (by rfl) (pgs_cons (pg_name (i := 8) scLaw.nd rfl (Or.inl rfl)) (pgs_cons (pg_name (i := 9) scLaw.nd rfl (Or.inl rfl)) pgs_nil)))) (fun _ _ _ _ _ => pts_nil) (fun _ _ _ _ _ => (pv 8))) pa_nil)) (by rfl))
      (pss_cons
      (ps_for PassesOwn.never rfl (pi_list (pe_call G_law_pairs hr_law_pairs (by rfl) g_law_pairs F_law_pairs.kp b_law_pairs .nil pass0 (pa_cons (pv 2) (pa_cons (pv 5) pa_nil)))) (tgK (K := K) (n := 2) (by rfl) (pgs_cons (pg_name (i := 6) scLaw.nd rfl (Or.inl rfl)) (pgs_cons (pg_name (i := 7) scLaw.nd rfl (Or.inl rfl)) pgs_nil))) (pss_one
      (ps_if (pt_not (pt_val (pe_call G_law_pair_right hr_law_pair_right (by rfl) g_law_pair_right F_law_pair_right.kp b_law_pair_right .nil pass0 (pa_cons (pv 4) (pa_cons (pv 3) (pa_cons (pv 6) (pa_cons (pv 7) pa_nil))))))) (pss_one
      (ps_ret pe_bl)) pss_nil)))
      (pss_cons
      (ps_for PassesOwn.never rfl (pi_list (pv 5)) (pg_name (i := 8) scLaw.nd rfl (Or.inl rfl)) (pss_one
      (ps_if (pt_cmpR (op_neD hu64) (pe_meth (pv 4) T.cl Mway Gway hrway bway .nil passF (pa_cons (pv 8) (pa_cons pe_str pa_nil))) (pe_callTy (tupleK (K := K)) (by rfl) B.tuple (by decide +kernel) (pa_cons (pe_call G_law_course hr_law_course (by rfl) g_law_course F_law_course.kp b_law_course .nil pass0 (pa_cons (pv 3) (pa_cons (pv 8) pa_nil))) pa_nil)) (nomark _)) (pss_one
      (ps_ret pe_bl)) pss_nil)))
      (pss_cons
      (ps_if (PW.pt (pw_or (pt_not (pt_val (pe_call G_law_order_right hr_law_order_right (by rfl) g_law_order_right F_law_order_right.kp b_law_order_right .nil pass0 (pa_cons (pv 4) (pa_cons (pv 3) pa_nil))))) (pw_or1 (pt_not (pt_val (pe_call G_law_refuses_right hr_law_refuses_right (by rfl) g_law_refuses_right F_law_refuses_right.kp b_law_refuses_right .nil pass0 (pa_cons (pv 2) (pa_cons (pv 4) (pa_cons (pv 3) pa_nil))))))))) (pss_one
      (ps_ret pe_bl)) pss_nil)
      (pss_one
      (ps_if (pt_cmpR (op_neD hu64) (pe_meth0 (pv 4) T.cl Mrows Grows hrrows brows .nil pass0) (pv 3) (nomark _)) (pss_one
      (ps_ret pe_bl)) pss_nil)))))))))
      (pss_one
      (ps_ret pe_bl))), ?_⟩
    refine ⟨_, rfl, a, _, rfl, .inl hS, _, _, rfl, _, _, rfl, _, rfl, ?_⟩
    have hN : ∃ N : Int, (if (if (((ns.map V.int).length : Nat) : Int) < 3 then (((ns.map V.int).length : Nat) : Int) else 3) > 1 then (if (((ns.map V.int).length : Nat) : Int) < 3 then (((ns.map V.int).length : Nat) : Int) else 3) else 1) = N ∧ 1 ≤ N ∧ N ≤ 3 := ⟨_, rfl, by split <;> split <;> omega, by split <;> split <;> omega⟩
    obtain ⟨N, eN, hN1, hN2⟩ := hN
    rw [eN]
    clear eN
    refine ⟨by omega, by omega, ?_⟩
    refine for_range (n := N.toNat) (lo := 0) (fun i σ H2 => ∃ v1 v2 v3 v4 v5 v6 v7 v8 v9, σ = [some (.ref a), v1, v2, v3, v4, v5, v6, v7, v8, v9] ∧ SqL K H2 a (ns.map V.int) ∧ Tabs [(Pt, lamP), (Qt, lamQ)] H2)
      ⟨_, _, _, _, _, _, _, _, _, rfl, hS, hT⟩ ?_ ?_
    · rintro i σ H2 hi ⟨v1, v2, v3, v4, v5, v6, v7, v8, v9, rfl, hS2, hT2⟩
      have hi3 : i < 3 := by omega
      refine ⟨_, rfl, _, rfl, a, ns, _, _, rfl, hS2, hns, by omega, by omega, by decide, by decide, fun H3 p s3 np B3 => ?_⟩
      have hT3 := hT2.ext s3
      have sq : (∀ H', SqL K H' a (ns.map V.int)) ∨ ((∃ u, H2 a = some u) ∧ a ≠ p) := by
        rcases hS2 with (r | ⟨o, r⟩) | r
        · exact .inr ⟨⟨_, r⟩, ne_of_none r np⟩
        · exact .inr ⟨⟨_, r⟩, ne_of_none r np⟩
        · exact .inl fun H' => .inr r
      refine ⟨_, rfl, _, rfl, _, rfl, p, 8, rfl, B3, by decide, by decide, fun r8 x8 _ _ hx8 => ⟨rfl, _, rfl, ?_⟩⟩
      have u4 : Upto p H3 (upd H3 p (.lst x8)) := Upto.at_
      have B4 : BagAt (upd H3 p (.lst x8)) p := ⟨x8, upd_same, hx8⟩
      generalize upd H3 p (.lst x8) = H4 at u4 B4
      refine split_if' (α := Int) (R := fun c => 0 < c ∧ c ≤ 40) (C := ?C) ?use ?key
      case use =>
        intro key
        refine ite2 (fun _ => ?_) (fun _ => ?_)
        · generalize h40 : (40 : Int) = c40
          exact key c40 ⟨by omega, by omega⟩
        · exact key 6 ⟨by decide, by decide⟩
      case key =>
        rintro many ⟨hm1, hm2⟩
        refine ⟨p, many, rfl, B4, hm1, by omega, fun r x4 hr0 hr1 hx4 => ⟨1, r, rfl, rfl, ?_⟩⟩
        obtain ⟨rn, rfl⟩ : ∃ rn : Nat, r = (rn : Int) := ⟨r.toNat, by omega⟩
        have u45 : Upto p H3 (upd H4 p (.lst x4)) := u4.trans Upto.at_
        have B45 : BagAt (upd H4 p (.lst x4)) p := ⟨x4, upd_same, hx4⟩
        generalize upd H4 p (.lst x4) = H45 at u45 B45
        refine ⟨p, 1 + rn, by show [V.ref p, V.int ((1 : Int) + (rn : Int))] = [V.ref p, V.int ((1 + rn : Nat) : Int)]; rw [show ((1 : Int) + (rn : Int)) = ((1 + rn : Nat) : Int) by omega], B45, by omega, by omega, fun H5 l AR u5 B5 nl lp hR hG hlen => ?_⟩
        have u35 := u45.trans u5
        have hT5 := tabs_upto B3 u35 hT3
        have u25 : UptoT p H2 H5 := fun b o hb hn _ => u35 _ _ (s3 _ _ hb) hn
        have hRm := hG.most
        have hR1 := hG.one
        have hAl : (rowsOf AR).length = AR.length := List.length_map _
        have hnl : (namesOf AR).length = AR.length := nmlen AR
        have hnd := hG.nm.nd
        have z40 : 40000 ≤ sizeLine := by rw [sizeLine_eq]; omega
        have rowat : ∀ {i : Nat} (hi : i < AR.length), (namesOf AR)[i]? = some AR[i].2.1 := fun {i} hi => by
          show (((AR.map (·.2)).map (·.1)))[i]? = _
          rw [List.getElem?_map, List.getElem?_map, List.getElem?_eq_getElem hi]
          rfl
        refine ⟨_, rfl, l, _, rfl, .inl (.inl (.inl hR.lst)), fun hl nhl => ?_⟩
        have s6 : Same H5 (upd H5 hl (.lst (AR.map fun q => V.ref q.1))) := same_upd nhl
        have whl : (upd H5 hl (.lst (AR.map fun q => V.ref q.1))) hl = _ := upd_same
        generalize upd H5 hl (.lst (AR.map fun q => V.ref q.1)) = H6 at s6 whl ⊢
        have hR6 := hR.same s6
        have hhl6 : RowsAt H6 hl AR := ⟨whl, hR6.tup⟩
        refine fun q dx nx ndx hne => ?_
        have sN : Same H6 (upd (upd H6 dx (.own q)) q (.ins Cr dx [])) := (same_upd ndx).trans (same_upd (by rw [upd_ne hne.symm]; exact nx))
        refine ⟨q, hl, dx, AR, rfl, upd_same, hhl6.same sN, hG, fun H7 u7 R7 => ⟨rfl, ?_⟩⟩
        have s7 : Same H6 H7 := fun b o hb => u7 b o (sN b o hb) (ne_of_none hb nx)
        have s57 := s6.trans s7
        have hR7 := hR.same s57
        refine ⟨_, rfl, l, rfl, ⟨_, .inl (.inl hR7.lst)⟩, fun W hW => ?_⟩
        refine lc_list (K := K) (a := l) (xs := AR.map fun q => V.ref q.1) (fun j Hk => Same H7 Hk ∧ Hk W = some (.lst (((namesOf AR).take j).map V.str))) ⟨same_upd hW, by rw [upd_same, List.take_zero]; rfl⟩ (fun j Hk hj h => .inl (.inl (h.1 _ _ hR7.lst))) ?_ ?_
        · rintro j x Hk hx ⟨sk, hlk⟩
          have hj : j < AR.length := by
            have := (List.getElem?_eq_some_iff.mp hx).1
            rw [List.length_map] at this
            exact this
          have ex := row_at hx hj
          subst ex
          refine ⟨AR[j].1, _, rfl, .inl (.inl (sk _ _ (hR7.tup _ (List.getElem_mem hj)))), rfl, _, _, rfl, _, _, rfl, rfl, rfl, ?_⟩
          unfold tYes
          refine iteT ?_
          refine ⟨_, rfl, _, hlk, ?_, fun b o hb => ?_, ?_⟩
          · rw [List.length_map, List.length_take]
            exact small1000 (by omega)
          · rw [upd_ne (ne_of_none hb hW)]
            exact sk b o hb
          · rw [upd_same, List.take_add_one, rowat hj, List.map_append]
            rfl
        rintro H8 ⟨s8, hW8⟩
        rw [List.length_map, ← hnl, List.take_length] at hW8
        refine ⟨_, _, rfl, ?_⟩
        have s58 := s57.trans s8
        obtain ⟨b5, hb5, hv5⟩ := id B5
        have hWp : W ≠ p := (ne_of_none (s57 _ _ hb5) hW).symm
        have L8 : Lw K [(Pt, lamP), (Qt, lamQ)] Cr H8 a (ns.map V.int) p q l W AR := by
          refine ⟨?_, ⟨b5, s58 _ _ hb5, hv5⟩, Same.riv s8 R7, hR.same s58, lp, hW8, hWp, hT5.ext s58⟩
          rcases hS2 with r | r
          · have anp : a ≠ p := by
              rcases r with e | ⟨o, e⟩
              · exact ne_of_none e np
              · exact ne_of_none e np
            refine .inl ⟨?_, anp⟩
            rcases r with e | ⟨o, e⟩
            · exact .inl (s58 _ _ (u25 _ _ e anp (fun _ z => by cases z)))
            · exact .inr ⟨o, s58 _ _ (u25 _ _ e anp (fun _ z => by cases z))⟩
          · exact .inr fun H' => .inr r
        clear hW8 s8 hW s57 s7 R7 u7 sN hhl6 hR6 whl s6 nhl
        refine ⟨_, rfl, _, rfl, p, W, namesOf AR, rfl, L8.bag, L8.wls, hWp, by omega, by omega, fun H9 pl AP u9 B9 plp npl PA hAP => ?_⟩
        have L9 := L8.keep (fun b o hb hn _ => u9 b o hb hn) B9 (tabs_upto L8.bag u9 L8.tabs)
        refine ⟨pl, rfl, ⟨_, .inl (.inl PA.rows.lst)⟩, ?_⟩
        refine for_list (K := K) (a := pl) (xs := AP.map fun q => V.ref q.1) (fun j σ Ha => ∃ v6 v7 v8 v9, σ = [some (.ref a), some (.int (0 + (i : Int))), some (.ref p), some (.ref l), some (.ref q), some (.ref W), v6, v7, v8, v9] ∧ Lw K [(Pt, lamP), (Qt, lamQ)] Cr Ha a (ns.map V.int) p q l W AR ∧ RowsAt Ha pl AP)
          ⟨_, _, _, _, rfl, L9, PA.rows⟩ (fun j σ Ha hj h => by
            obtain ⟨_, _, _, _, _, _, r⟩ := h
            exact .inl (.inl r.lst)) ?_ ?_
        · rintro j x σ Ha hx ⟨v6, v7, v8, v9, rfl, La, Ra⟩
          have hj : j < AP.length := by
            have := (List.getElem?_eq_some_iff.mp hx).1
            rw [List.length_map] at this
            exact this
          have ex := row_at hx hj
          subst ex
          have hmem := PA.ok _ (List.getElem_mem hj)
          refine ⟨AP[j].1, _, rfl, .inl (.inl (Ra.tup _ (List.getElem_mem hj))), rfl, _, _, rfl, _, _, rfl, rfl, ?_⟩
          refine ⟨_, rfl, _, rfl, _, rfl, _, rfl, q, l, AR, AP[j].2.1, AP[j].2.2, rfl, La.riv, La.rows, hG, hmem.1, hmem.2, La.tabs, fun Hb eb tb => ⟨_, rfl, iteF ?_⟩⟩
          exact ⟨_, _, _, _, rfl, La.extN eb tb, rowsE eb Ra⟩
        rintro σ Ha ⟨v6, v7, v8, v9, rfl, La, _⟩
        refine ⟨_, rfl, W, rfl, ⟨_, .inl (.inl La.wls)⟩, ?_⟩
        refine for_list (K := K) (a := W) (xs := (namesOf AR).map V.str) (fun j σ Hc => ∃ v6 v7 v8 v9, σ = [some (.ref a), some (.int (0 + (i : Int))), some (.ref p), some (.ref l), some (.ref q), some (.ref W), v6, v7, v8, v9] ∧ Lw K [(Pt, lamP), (Qt, lamQ)] Cr Hc a (ns.map V.int) p q l W AR)
          ⟨_, _, _, _, rfl, La⟩ (fun j σ Hc hj h => by
            obtain ⟨_, _, _, _, _, r⟩ := h
            exact .inl (.inl r.wls)) ?_ ?_
        · rintro j x σ Hc hx ⟨w6, w7, w8, w9, rfl, Lc⟩
          rw [List.getElem?_map] at hx
          obtain ⟨y, hy, rfl⟩ := Option.map_eq_some_iff.mp hx
          have hym : y ∈ namesOf AR := List.mem_of_getElem? hy
          obtain ⟨dx2, tw, tr, db, dc, da2, du, o2, h1, _⟩ := id Lc.riv.ex
          have noS : ∀ {b' : Str} {Z : Prop}, V.str "sea" = V.str b' → b' ∈ namesOf AR → Z := fun e hb => absurd (V.str.inj e).symm (hG.nm.sea _ hb)
          refine ⟨_, rfl, q, dx2, _, rfl, h1, g7m (by decide +kernel), _, rfl, q, .str y, .str "sea", AR, rfl, Lc.riv, hG, shown_name (K := K) hG hym _, .str _ sea_plain (by decide +kernel), fun a' ea ha' => ⟨fun _ v tx => ?_, fun b' eb hb' v H7 s7 tx => noS eb (course_sub hG ha' b' hb'), fun b' eb hb' _ => noS eb hb', fun ne _ => absurd rfl ne⟩, fun z => has_no hym z⟩
          cases ea
          obtain ⟨t5, rfl, ht5⟩ := tx
          refine ⟨_, rfl, _, rfl, l, AR, y, rfl, Lc.rows, hG, hym, fun Hd cd sd ncd hcd => ⟨cd, _, rfl, .inl ⟨.inl (.inl hcd), fun t9 nt9 => ?_⟩⟩⟩
          have s9 := same_upd nt9 (o := .tup ((course (rowsOf AR) y).map V.str))
          have plt : ∀ z ∈ course (rowsOf AR) y, Plain z := fun z hz => plain_name hG (course_sub hG hym z hz)
          refine ⟨_, _, .tup (.inl (same_rd (sd.trans s9) ht5)) (dp_strs _), .tup (.inl (.inl upd_same)) (dp_strs _), shaped_tup plt, shaped_tup plt, _, rfl, ?_⟩
          rw [eqv_tups]
          refine iteF ?_
          exact ⟨_, _, _, _, rfl, Lc.same (sd.trans s9)⟩
        rintro σ Hc ⟨w6, w7, w8, w9, rfl, Lc⟩
        refine ⟨_, rfl, _, rfl, q, l, AR, rfl, Lc.riv, Lc.rows, hG, fun Hd sd => ⟨_, rfl, iteF ?_⟩⟩
        have Ld := Lc.same sd
        refine ⟨_, rfl, _, rfl, _, rfl, p, q, l, AR, rfl, Ld.bag, Ld.riv, Ld.rows, hG, Ld.lp, Ld.tabs, fun He ue Be Te => ⟨_, rfl, iteF ?_⟩⟩
        have Le := Ld.keep ue Be Te
        obtain ⟨dx3, tw, tr, db, dc, da3, du, o3, i1, _⟩ := id Le.riv.ex
        refine ⟨_, rfl, q, dx3, _, rfl, i1, g7m (by decide +kernel), q, AR, rfl, Le.riv, fun l9 nl9 => ?_⟩
        have s10 := same_upd nl9 (o := .lst (AR.map fun q => V.ref q.1))
        have Lf := Le.same s10
        have shr := (shaped_rows (good_plain hG)).2
        have eqr : PyData.eqv (.list ((rowsOf AR).map rowD)) (.list ((rowsOf AR).map rowD)) = true := by
          simp only [PyData.eqv]
          rw [eqv_rows]
          exact decide_eq_true rfl
        refine ⟨_, rfl, _, _, .lst (.inl (.inl upd_same)) (dp_rows Lf.rows.tup), .lst (.of Lf.rows.lst) (dp_rows Lf.rows.tup), shr, shr, _, rfl, ?_⟩
        rw [eqr]
        refine iteF ?_
        exact ⟨_, _, _, _, _, _, _, _, _, rfl, Lf.sq, Lf.tabs⟩
    · rintro σ H2 ⟨v1, v2, v3, v4, v5, v6, v7, v8, v9, rfl, _⟩
      exact k _
end
end K0
end

/-! ## K2E -/
section
set_option Elab.async false
set_option linter.all false
set_option maxRecDepth 100000
set_option maxHeartbeats 0
namespace K0H
open PySem PySem.Spec PyProof.Rows L2 K0
open PySem.W (Frag)
/-! ### the defs, as data -/
def dD (x : Str) (st : Stmt) : He.DefD := ⟨(x, none), x, x, defArgs st, defBody st, defScope st, [], []⟩
def dM (m q : Str) (st : Stmt) : He.DefD := ⟨("River", some m), m, q, defArgs st, defBody st, defScope st, [], []⟩
def fn : List He.DefD := [dD "need_weir" sNeed, dD "is_name" sIsName, dD "_is_row" sIsRow, dD "_need_rows" sNeedRows, dD "_course" sCourse, dD "_find_courses" sFind, dD "_directly_above" sAbove, dD "_find_upstream" sUp, dD "_order_by_depth" sOrder,
  dM "__init__" "River.__init__" sInit, dM "__len__" "River.__len__" sLen, dM "__iter__" "River.__iter__" sIter, dM "__contains__" "River.__contains__" sContains, dM "rows" "River.rows" sRows, dM "is_down" "River.is_down" sIsDown, dM "meeting" "River.meeting" sMeeting, dM "way" "River.way" sWay, dM "downward" "River.downward" sDown,
  dD "_law_bag" sBag, dD "_law_take" sTake, dD "_law_of" sOf, dD "_law_mixed" sMixed, dD "_law_names" sNames, dD "_law_river" sLRiver, dD "_law_course" sLCourse, dD "_law_refusal" sRefusal, dD "_law_pairs" sPairs, dD "_law_pair_right" sPair, dD "_law_order_right" sOrderR, dD "_law_refuses_right" sRefuses, dD "law" sLaw]
def names : List Str := ["need_weir", "is_name", "_is_row", "_need_rows", "_course", "_find_courses", "_directly_above", "_find_upstream", "_order_by_depth", "River", "NoWeir", "WeirError", "NotDown",
  "_law_bag", "_law_take", "_law_of", "_law_mixed", "_law_names", "_law_river", "_law_course", "_law_refusal", "_law_pairs", "_law_pair_right", "_law_order_right", "_law_refuses_right", "law"]
def frees : List Str := ["len", "enumerate", "int", "abs", "list", "range", "dict", "tuple", "isinstance", "str", "all", "any", "bool", "sorted", "max", "min", "iter", "super", "ValueError"]
def noats : List Str := ["weirs", "_rows", "_below", "_courses", "_above", "_upstream", "_deepest_first"]
def meths : List Str := ["rows", "is_down", "meeting", "way", "downward"]
def fa : List He.Fa := names.map .glo ++ frees.map .free ++ [.str "SEA" "sea", .int "MOST_ROWS" 40, .int "LONGEST_NAME" 8, .cls "River", .mkr "River", .exm "NotDown" "NotDown" true, .exm "NoWeir" "NotDown" false, .exm "NoWeir" "NoWeir" true, .noat "NoWeir" "name", .noat "NotDown" "high", .noat "NotDown" "low"] ++ noats.map (.noat "River") ++ meths.map (.meth "River")
def tf : List He.Defn := [("_law_pair_right", none), ("_law_refuses_right", none)]
/-! ### more facts, as a Bool -/
def spB (K : Frag) (m : Str) : Bool := He.eqO (PySem.W.findIn K (.ref (He.ga K "River")) m) (some (some (.ref (He.ma K (He.ga K "River") m)))) && PySem.W.isFn K (.ref (He.ma K (He.ga K "River") m))
def riverB (K : Frag) : Bool := He.eqO (PySem.W.specialIn K (.builtin "object.__class__") "__get__") (some (some (.builtin "getset_descriptor.__get__"))) &&
  (decide (PySem.W.takesIn K (.builtin "object.__class__") = some true) && (spB K "__contains__" && (spB K "__len__" && spB K "__iter__")))
/-- an error's class is one over ValueError, its __init__ its own -/
def clsB (K : Frag) (c : Str) : Bool := match K.lookup (He.ga K c) with
  | some ⟨.type t, _, .cls cd, sl⟩ => decide (t = "type") && (match cd.mro, sl.toList with
    | .ref C' :: bm, [_, _, _, _, some (.builtin n), _] => decide (C' = He.ga K c) && (decide (n = "ValueError.__new__") && (cd.hasDict && (!cd.hasDel && PySem.HandSPX.refsVE bm)))
    | _, _ => false)
  | _ => false
def errB (K : Frag) (c : Str) : Bool := He.eqO (PySem.W.findIn K (.ref (He.ga K c)) "__setattr__") (some (some (.builtin "object.__setattr__"))) && (decide (PySem.W.subIn K (.ref (He.ga K c)) (.type "BaseException") = some true) && (decide (PySem.W.typeIn K (.ref (He.ga K c)) = some (.type "type")) && (PySem.W.keepIn K (.ref (He.ga K c)) &&
  (decide (PySem.W.mroIn K (He.ga K c) (.ref (He.ga K c)) = some true) && (decide (PySem.W.subIn K (.ref (He.ga K c)) (.type "ValueError") = some true) && (He.eqO (PySem.W.ks_superIn K (He.ga K c) (He.ga K c) "__init__") (some (some (.builtin "ValueError.__init__"))) &&
  (He.eqO (PySem.W.nsIn K cStatics "thirdparty.any") (some none) && (He.eqO (PySem.W.findIn K (.ref (He.ga K c)) "__init__") (some (some (.ref (He.ma K (He.ga K c) "__init__")))) && decide (PySem.W.typeIn K (.ref (He.ma K (He.ga K c) "__init__")) = some (.type "function"))))))))))
def xfB (K : Frag) (c : Str) : Bool := He.eqO (PySem.W.findIn K (.ref (He.ga K c)) "__getattribute__") (some (some (.builtin "BaseException.__getattribute__"))) && (He.eqO (PySem.W.findIn K (.ref (He.ga K c)) "__getattr__") (some none) && PySem.W.hasDictIn K (He.ga K c))
def exB (K : Frag) : Bool := xfB K "NoWeir" && (xfB K "NotDown" && (He.eqO (PySem.W.findIn K (.ref (He.ga K "NotDown")) "__class__") (some (some (.builtin "object.__class__"))) && (decide (PySem.W.mroIn K (He.ga K "NotDown") (.type "object") = some true) &&
  (decide (PySem.W.kitOne K (.ref (He.ga K "NotDown")) (.ref (He.ga K "NoWeir")) = some false) && decide ((He.cT K ("_law_pair_right", none)).2 ≠ (He.cT K ("_law_refuses_right", none)).2)))))
def iniB (K : Frag) (c qual : Str) : Bool := match K.lookup (He.fAd K (c, some "__init__")) with
  | some ⟨_, _, .func fd, _⟩ => (match fd.code, fd.closure with
    | .ref cda, [(x, cc)] => decide (x = "__class__") && (PySem.W.codeIn K (.ref cda) qual && ((match K.lookup cda with
      | some ⟨_, _, .fields vs, _⟩ => (match (vs[2]? : Option Value) with
        | some (.str file _) => (PySem.Challenge.pw_weirkeepers_k02_ways_and_junctions.main.file == file)
        | _ => false)
      | _ => false) && (match K.lookup cc with
      | some ⟨_, _, .cell (some (.ref C)), _⟩ => decide (C = He.ga K c)
      | _ => false)))
    | _, _ => false)
  | _ => false
def ex (K : Frag) : Bool := riverB K && (clsB K "NoWeir" && (errB K "NoWeir" && (iniB K "NoWeir" "NoWeir.__init__" && (clsB K "NotDown" && (errB K "NotDown" && (iniB K "NotDown" "NotDown.__init__" && exB K))))))
/-! ### the Hook: the fragment with one more place, and the def that has a cell -/
abbrev FnY : Type := Option (Str × Str × Arguments × FuncBody × Scope × Addr × Value × Value × Option Addr × Addr)
def fnY (K : Frag) (c : Str) : FnY := match K.lookup (He.fAd K (c, some "__init__")) with
  | some ⟨_, _, .func fd, _⟩ => some (fd.name, fd.qualname, fd.params, fd.body, fd.scope, fd.globals, fd.defaults, fd.kwdefaults, fd.annotations, fd.builtins)
  | _ => none
def valY (qual : Str) (st : Stmt) : FnY := some ("__init__", qual, defArgs st, .stmts (defBody st), defScope st, mainGlobals, .none, .none, none, builtinsNs)
def vY : FnY := valY "NoWeir.__init__" sNo
def vZ : FnY := valY "NotDown.__init__" sNd
def frY (n : Nat) (g : Addr → Option Obj) : Frag := He.frT g (cStatics :: He.asD g n)
abbrev AlY : Type := He.AlD × Bool × FnY × FnY
def obsY (n : Nat) (g : Addr → Option Obj) : AlY := (He.obsD fa fn (frY n g), ex (frY n g) && He.tabsB g tf (frY n g), fnY (frY n g) "NoWeir", fnY (frY n g) "NotDown")
abbrev R : PySem.W.OpenRow := PySem.W.OpenLaw.row PySem.Challenge.rw_weirkeepers_k02_ways_and_junctions
structure SaysY (h : Heap) (K : Frag) : Prop where
  d : He.SaysD fa fn K
  more : ex K = true
  y : fnY K "NoWeir" = vY
  z : fnY K "NotDown" = vZ
  hd : ∀ p ∈ tf, PySem.W.codeHdIn K (He.cT K p).1 (He.cT K p).2 = true
  out : ∀ p ∈ tf, K.lookup (He.cT K p).2 = none
  empty : ∀ p ∈ tf, h.get? (He.cT K p).2 = some { cls := .none, data := .fields #[] }
theorem saysY_of {n : Nat} {h : Heap} (e : obsY n h.get? = (He.valD fn, true, vY, vZ)) : SaysY h (frY n h.get?) := by
  have e1 : He.obsD fa fn (frY n h.get?) = He.valD fn := congrArg (fun z : AlY => z.1) e
  have e2 : (ex (frY n h.get?) && He.tabsB h.get? tf (frY n h.get?)) = true := congrArg (fun z : AlY => z.2.1) e
  have e3 : fnY (frY n h.get?) "NoWeir" = vY := congrArg (fun z : AlY => z.2.2.1) e
  have e4 : fnY (frY n h.get?) "NotDown" = vZ := congrArg (fun z : AlY => z.2.2.2) e
  obtain ⟨h1, h2⟩ := He.ba e2
  have key : ∀ p ∈ tf, PySem.W.codeHdIn (frY n h.get?) (He.cT (frY n h.get?) p).1 (He.cT (frY n h.get?) p).2 = true ∧ ∃ o, h.get? (He.cT (frY n h.get?) p).2 = some o ∧ He.emptyTab o = true := fun p hp => by
    obtain ⟨h3, h4⟩ := He.ba (List.all_eq_true.mp h2 p hp)
    refine ⟨h3, ?_⟩
    cases q : h.get? (He.cT (frY n h.get?) p).2 with
    | none =>
      rw [q] at h4
      cases h4
    | some o =>
      rw [q] at h4
      exact ⟨o, rfl, h4⟩
  exact ⟨e1, h1, e3, e4, fun p hp => (key p hp).1, fun p hp => by
    obtain ⟨_, o, q, z⟩ := key p hp
    exact He.frT_none q z, fun p hp => by
    obtain ⟨_, o, q, z⟩ := key p hp
    rw [q, He.emptyTab_eq z]⟩
def hk (n : Nat) : PySem.W.Hook where
  α := AlY
  obs := fun s => obsY n s.heap.get?
  val := fun _ => (He.valD fn, true, vY, vZ)
  says := fun _ h => ∃ K : Frag, K.In h ∧ SaysY h K
  of := fun _ _ e => ⟨_, He.frT_in, saysY_of e⟩
  keeps := fun _ _ _ ⟨K, hK, c⟩ k => ⟨K, PySem.W.Frag.In.keeps hK k, ⟨c.d, c.more, c.y, c.z, c.hd, c.out, fun p hp => k _ _ (c.empty p hp)⟩⟩
def ob (s : PySem.W.SharedT) : AlY := obsY 6 (HandSHeadRun.getT s)
theorem ob_eq (s : PySem.W.SharedT) : ob s = (hk 6).obs s.abs := by
  have e : HandSHeadRun.getT s = s.abs.heap.get? := funext (HandSHeadRun.getT_eq s)
  unfold ob
  rw [e] <;> rfl
end K0H
end

/-! ## K2F -/
section
set_option Elab.async false
set_option linter.all false
set_option maxRecDepth 100000
set_option maxHeartbeats 0
namespace K0H
open PySem PySem.Spec PyProof.Rows L2 K0
def loose1 : List Str := ["_wall", "__name__", "WeirError", "NotRiver", "NoWeir", "NotDown", "need_weir", "SEA", "MOST_ROWS", "LONGEST_NAME", "is_name", "_is_row", "_need_rows", "_course", "_find_courses", "_directly_above", "_find_upstream", "_order_by_depth", "River"]
def loose2 : List Str := ["_law_bag", "_law_take", "_law_of", "_law_mixed", "_law_names", "_law_river", "_law_course", "_law_refusal", "_law_pairs", "_law_pair_right", "_law_order_right", "_law_refuses_right"]
def loose : List Str := loose1 ++ loose2
theorem run (w : World) : HandSHeadRun.RunEq R (PySem.W.view R.prog [34]) (hk 6) ob 4000 loose w := by
  intro os
  kernel_rfl
end K0H
end

/-! ## K2G -/
section
set_option Elab.async false
set_option linter.all false
set_option maxRecDepth 100000
set_option maxHeartbeats 0
namespace K0H
open PySem PySem.Spec PyProof.Rows L2 K0 LamX
open PySem.W (Frag)
abbrev PP : Program := PySem.Challenge.pw_weirkeepers_k02_ways_and_junctions
theorem sup_ok {K : Frag} {c qual : Str} {st : Stmt} (y : fnY K c = valY qual st) (hi : iniB K c qual = true) : ∃ (fd : FuncData) (oc : Value) (od : Option Addr) (doc pm : Value) (cda : Addr) (ct : Value) (cc : Addr) (osl : Array (Option Value)),
    fd = PySem.W.ksFn "__init__" qual (defArgs st) (defBody st) (defScope st) .none .none doc pm none (.ref cda) ct cc ∧ K.lookup (He.fAd K (c, some "__init__")) = some ⟨oc, od, .func fd, osl⟩ ∧ PySem.W.codeIn K (.ref cda) qual = true ∧
    (∃ (ccl : Value) (cdd : Option Addr) (vs : Array Value) (ccs : Array (Option Value)) (file : Str) (tf : Tok), K.lookup cda = some ⟨ccl, cdd, .fields vs, ccs⟩ ∧ vs[2]? = some (.str file tf) ∧ ((PP.main.file : Str) == file) = true) ∧
    ∃ (cl : Value) (cld : Option Addr) (csl : Array (Option Value)), K.lookup cc = some ⟨cl, cld, .cell (some (.ref (He.ga K c))), csl⟩ := by
  unfold fnY at y
  unfold iniB at hi
  split at y
  · rename_i oc od fd osl q
    rw [q] at hi
    obtain ⟨n1, n2, n3, n4, n5, n6, n7, n8, n9, n10, n11, n12, n13, n14, n15⟩ := fd
    have y2 : (some (n1, n2, n3, n4, n5, n6, n8, n9, n12, n15) : FnY) = valY qual st := y
    unfold valY at y2
    simp only [Option.some.injEq, Prod.mk.injEq] at y2
    obtain ⟨h1, h2, h3, h4, h5, h6, h7, h8, h9, h10⟩ := y2
    subst h1 h2 h3 h4 h5 h6 h7 h8 h9 h10
    dsimp only at hi
    split at hi
    · rename_i cda x cc
      obtain ⟨g1, hi⟩ := He.ba hi
      obtain ⟨g2, hi⟩ := He.ba hi
      obtain ⟨g3, g4⟩ := He.ba hi
      have g1 := of_decide_eq_true g1
      subst g1
      refine ⟨_, oc, od, n10, n11, cda, n14, cc, osl, rfl, q, g2, ?_, ?_⟩
      · split at g3
        · rename_i ccl cdd vs ccs qc
          split at g3
          · rename_i file tf qv
            exact ⟨_, _, _, _, file, tf, qc, qv, g3⟩
          · cases g3
        · cases g3
      · split at g4
        · rename_i cl cld C csl qc
          have e := of_decide_eq_true g4
          subst e
          exact ⟨_, _, _, qc⟩
        · cases g4
    · cases hi
  · cases y
theorem cls_ok2 {K : Frag} {c : Str} (h : clsB K c = true) : ∃ nm q N bs bm sn sub ab col dd k0 k1 k2 k3 k5, K.lookup (He.ga K c) = some (excClassObj nm q (He.ga K c) N bs bm true sn sub ab col dd k0 k1 k2 k3 k5 "ValueError.__new__") ∧ PySem.HandSPX.refsVE bm = true := by
  unfold clsB at h
  split at h
  · rename_i t dd cd sl q
    obtain ⟨g0, h⟩ := He.ba h
    have e0 := of_decide_eq_true g0
    clear g0
    split at h
    · rename_i C' bm k0 k1 k2 k3 n k5 e1 e2
      obtain ⟨g1, h⟩ := He.ba h
      obtain ⟨g2, h⟩ := He.ba h
      obtain ⟨g3, h⟩ := He.ba h
      obtain ⟨g4, g5⟩ := He.ba h
      have g1 := of_decide_eq_true g1
      have g2 := of_decide_eq_true g2
      subst g1 g2
      obtain ⟨c1, c2, c3, c4, c5, c6, c7, c8, c9, c10, c11⟩ := cd
      dsimp only at e1 g3 g4
      subst e1
      have g4 : c11 = false := by simpa using g4
      subst g3 g4
      have es : sl = #[k0, k1, k2, k3, some (.builtin "ValueError.__new__"), k5] := by
        apply Array.ext'
        rw [e2]
      subst es
      subst e0
      exact ⟨c1, c5, c4, c2, bm, c7, c8, c9, c10, dd, k0, k1, k2, k3, k5, q, g5⟩
    · cases h
  · cases h
theorem spB_ok {K : Frag} {m : Str} (h : spB K m = true) : PySem.W.findIn K (.ref (He.ga K "River")) m = some (some (.ref (He.ma K (He.ga K "River") m))) ∧ PySem.W.isFn K (.ref (He.ma K (He.ga K "River") m)) = true := by
  obtain ⟨h1, h2⟩ := He.ba h
  exact ⟨He.eqO_ok h1, h2⟩
abbrev tP (K : Frag) : Addr × Addr := He.cT K ("_law_pair_right", none)
abbrev tQ (K : Frag) : Addr × Addr := He.cT K ("_law_refuses_right", none)
theorem all_ok {w : World} {K : Frag} {h : Heap} {mg : Str → Option Value} (X : K.In h) (G : h.Ns mainGlobals mg) (c : SaysY h K) :
    ∃ tS tM tL, (tP K).2 ≠ (tQ K).2 ∧ ∀ base : Heap, TabB base mg (tP K).1 (tP K).2 → TabB base mg (tQ K).1 (tQ K).2 →
      All PP w K mg base tS tM tL (He.ga K "River") (He.ga K "NoWeir") (He.ga K "NotDown") (He.ga K "WeirError") (tP K).2 (tQ K).2 := by
  obtain ⟨d0, f0⟩ := c.d.def_ 0 (d := dD "need_weir" sNeed) rfl
  have F0 : FnP K "need_weir" sNeed (He.ga K "need_weir") d0 := f0
  obtain ⟨d1, f1⟩ := c.d.def_ 1 (d := dD "is_name" sIsName) rfl
  have F1 : FnP K "is_name" sIsName (He.ga K "is_name") d1 := f1
  obtain ⟨d2, f2⟩ := c.d.def_ 2 (d := dD "_is_row" sIsRow) rfl
  have F2 : FnP K "_is_row" sIsRow (He.ga K "_is_row") d2 := f2
  obtain ⟨d3, f3⟩ := c.d.def_ 3 (d := dD "_need_rows" sNeedRows) rfl
  have F3 : FnP K "_need_rows" sNeedRows (He.ga K "_need_rows") d3 := f3
  obtain ⟨d4, f4⟩ := c.d.def_ 4 (d := dD "_course" sCourse) rfl
  have F4 : FnP K "_course" sCourse (He.ga K "_course") d4 := f4
  obtain ⟨d5, f5⟩ := c.d.def_ 5 (d := dD "_find_courses" sFind) rfl
  have F5 : FnP K "_find_courses" sFind (He.ga K "_find_courses") d5 := f5
  obtain ⟨d6, f6⟩ := c.d.def_ 6 (d := dD "_directly_above" sAbove) rfl
  have F6 : FnP K "_directly_above" sAbove (He.ga K "_directly_above") d6 := f6
  obtain ⟨d7, f7⟩ := c.d.def_ 7 (d := dD "_find_upstream" sUp) rfl
  have F7 : FnP K "_find_upstream" sUp (He.ga K "_find_upstream") d7 := f7
  obtain ⟨d8, f8⟩ := c.d.def_ 8 (d := dD "_order_by_depth" sOrder) rfl
  have F8 : FnP K "_order_by_depth" sOrder (He.ga K "_order_by_depth") d8 := f8
  obtain ⟨d9, f9⟩ := c.d.def_ 9 (d := dM "__init__" "River.__init__" sInit) rfl
  have F9 : FnM K "__init__" "River.__init__" sInit (He.ma K (He.ga K "River") "__init__") d9 := f9
  obtain ⟨d10, f10⟩ := c.d.def_ 10 (d := dM "__len__" "River.__len__" sLen) rfl
  have F10 : FnM K "__len__" "River.__len__" sLen (He.ma K (He.ga K "River") "__len__") d10 := f10
  obtain ⟨d11, f11⟩ := c.d.def_ 11 (d := dM "__iter__" "River.__iter__" sIter) rfl
  have F11 : FnM K "__iter__" "River.__iter__" sIter (He.ma K (He.ga K "River") "__iter__") d11 := f11
  obtain ⟨d12, f12⟩ := c.d.def_ 12 (d := dM "__contains__" "River.__contains__" sContains) rfl
  have F12 : FnM K "__contains__" "River.__contains__" sContains (He.ma K (He.ga K "River") "__contains__") d12 := f12
  obtain ⟨d13, f13⟩ := c.d.def_ 13 (d := dM "rows" "River.rows" sRows) rfl
  have F13 : FnM K "rows" "River.rows" sRows (He.ma K (He.ga K "River") "rows") d13 := f13
  obtain ⟨d14, f14⟩ := c.d.def_ 14 (d := dM "is_down" "River.is_down" sIsDown) rfl
  have F14 : FnM K "is_down" "River.is_down" sIsDown (He.ma K (He.ga K "River") "is_down") d14 := f14
  obtain ⟨d15, f15⟩ := c.d.def_ 15 (d := dM "meeting" "River.meeting" sMeeting) rfl
  have F15 : FnM K "meeting" "River.meeting" sMeeting (He.ma K (He.ga K "River") "meeting") d15 := f15
  obtain ⟨d16, f16⟩ := c.d.def_ 16 (d := dM "way" "River.way" sWay) rfl
  have F16 : FnM K "way" "River.way" sWay (He.ma K (He.ga K "River") "way") d16 := f16
  obtain ⟨d17, f17⟩ := c.d.def_ 17 (d := dM "downward" "River.downward" sDown) rfl
  have F17 : FnM K "downward" "River.downward" sDown (He.ma K (He.ga K "River") "downward") d17 := f17
  obtain ⟨d18, f18⟩ := c.d.def_ 18 (d := dD "_law_bag" sBag) rfl
  have F18 : FnP K "_law_bag" sBag (He.ga K "_law_bag") d18 := f18
  obtain ⟨d19, f19⟩ := c.d.def_ 19 (d := dD "_law_take" sTake) rfl
  have F19 : FnP K "_law_take" sTake (He.ga K "_law_take") d19 := f19
  obtain ⟨d20, f20⟩ := c.d.def_ 20 (d := dD "_law_of" sOf) rfl
  have F20 : FnP K "_law_of" sOf (He.ga K "_law_of") d20 := f20
  obtain ⟨d21, f21⟩ := c.d.def_ 21 (d := dD "_law_mixed" sMixed) rfl
  have F21 : FnP K "_law_mixed" sMixed (He.ga K "_law_mixed") d21 := f21
  obtain ⟨d22, f22⟩ := c.d.def_ 22 (d := dD "_law_names" sNames) rfl
  have F22 : FnP K "_law_names" sNames (He.ga K "_law_names") d22 := f22
  obtain ⟨d23, f23⟩ := c.d.def_ 23 (d := dD "_law_river" sLRiver) rfl
  have F23 : FnP K "_law_river" sLRiver (He.ga K "_law_river") d23 := f23
  obtain ⟨d24, f24⟩ := c.d.def_ 24 (d := dD "_law_course" sLCourse) rfl
  have F24 : FnP K "_law_course" sLCourse (He.ga K "_law_course") d24 := f24
  obtain ⟨d25, f25⟩ := c.d.def_ 25 (d := dD "_law_refusal" sRefusal) rfl
  have F25 : FnP K "_law_refusal" sRefusal (He.ga K "_law_refusal") d25 := f25
  obtain ⟨d26, f26⟩ := c.d.def_ 26 (d := dD "_law_pairs" sPairs) rfl
  have F26 : FnP K "_law_pairs" sPairs (He.ga K "_law_pairs") d26 := f26
  obtain ⟨d27, f27⟩ := c.d.def_ 27 (d := dD "_law_pair_right" sPair) rfl
  have F27 : FnP K "_law_pair_right" sPair (He.ga K "_law_pair_right") d27 := f27
  obtain ⟨d28, f28⟩ := c.d.def_ 28 (d := dD "_law_order_right" sOrderR) rfl
  have F28 : FnP K "_law_order_right" sOrderR (He.ga K "_law_order_right") d28 := f28
  obtain ⟨d29, f29⟩ := c.d.def_ 29 (d := dD "_law_refuses_right" sRefuses) rfl
  have F29 : FnP K "_law_refuses_right" sRefuses (He.ga K "_law_refuses_right") d29 := f29
  obtain ⟨d30, f30⟩ := c.d.def_ 30 (d := dD "law" sLaw) rfl
  have F30 : FnP K "law" sLaw (He.ga K "law") d30 := f30
  obtain ⟨tS, eS⟩ := He.str_ok X G (c.d.fact 45 (f := .str "SEA" "sea") rfl)
  obtain ⟨tM, eM⟩ := He.int_ok X G (c.d.fact 46 (f := .int "MOST_ROWS" 40) rfl)
  obtain ⟨tL, eL⟩ := He.int_ok X G (c.d.fact 47 (f := .int "LONGEST_NAME" 8) rfl)
  obtain ⟨hRi, hx⟩ := He.ba c.more
  obtain ⟨hCl, hx⟩ := He.ba hx
  obtain ⟨hEr, hx⟩ := He.ba hx
  obtain ⟨hIn, hx⟩ := He.ba hx
  obtain ⟨hCl2, hx⟩ := He.ba hx
  obtain ⟨hEr2, hx⟩ := He.ba hx
  obtain ⟨hIn2, hEx⟩ := He.ba hx
  obtain ⟨r2, hRi⟩ := He.ba hRi
  obtain ⟨r3, hRi⟩ := He.ba hRi
  obtain ⟨r8, hRi⟩ := He.ba hRi
  obtain ⟨r9, r10⟩ := He.ba hRi
  obtain ⟨s1, s1'⟩ := spB_ok r8
  obtain ⟨s2, s2'⟩ := spB_ok r9
  obtain ⟨s3, s3'⟩ := spB_ok r10
  obtain ⟨e1, hEr⟩ := He.ba hEr
  obtain ⟨e2, hEr⟩ := He.ba hEr
  obtain ⟨e3, hEr⟩ := He.ba hEr
  obtain ⟨e4, hEr⟩ := He.ba hEr
  obtain ⟨e5, hEr⟩ := He.ba hEr
  obtain ⟨e6, hEr⟩ := He.ba hEr
  obtain ⟨e7, hEr⟩ := He.ba hEr
  obtain ⟨e8, hEr⟩ := He.ba hEr
  obtain ⟨e9, e10⟩ := He.ba hEr
  obtain ⟨g1, hEr2⟩ := He.ba hEr2
  obtain ⟨g2, hEr2⟩ := He.ba hEr2
  obtain ⟨g3, hEr2⟩ := He.ba hEr2
  obtain ⟨g4, hEr2⟩ := He.ba hEr2
  obtain ⟨g5, hEr2⟩ := He.ba hEr2
  obtain ⟨g6, hEr2⟩ := He.ba hEr2
  obtain ⟨g7, hEr2⟩ := He.ba hEr2
  obtain ⟨g8, hEr2⟩ := He.ba hEr2
  obtain ⟨g9, g10⟩ := He.ba hEr2
  obtain ⟨x1, hEx⟩ := He.ba hEx
  obtain ⟨x2, hEx⟩ := He.ba hEx
  obtain ⟨x3, hEx⟩ := He.ba hEx
  obtain ⟨x4, hEx⟩ := He.ba hEx
  obtain ⟨x5, x6⟩ := He.ba hEx
  obtain ⟨n1, n'⟩ := He.ba x1
  obtain ⟨n2, n3⟩ := He.ba n'
  obtain ⟨m1, m'⟩ := He.ba x2
  obtain ⟨m2, m3⟩ := He.ba m'
  obtain ⟨fdn, oc, od, doc, pm, cda, ct, cc, osl, en, lkn, cdn, fl, cl⟩ := sup_ok (c := "NoWeir") (qual := "NoWeir.__init__") (st := sNo) c.y hIn
  obtain ⟨fdz, oz, dz, docz, pmz, cdz, ctz, ccz, oslz, enz, lkz, cdzz, flz, clz⟩ := sup_ok (c := "NotDown") (qual := "NotDown.__init__") (st := sNd) c.z hIn2
  have hno := He.noat_ok (c.d.fact 53 (f := .noat "NoWeir" "name") rfl)
  have hhi := He.noat_ok (c.d.fact 54 (f := .noat "NotDown" "high") rfl)
  have hlo := He.noat_ok (c.d.fact 55 (f := .noat "NotDown" "low") rfl)
  have B : Bl mg := ⟨(He.free_ok X G (c.d.fact 26 (f := .free "len") rfl)), (He.free_ok X G (c.d.fact 27 (f := .free "enumerate") rfl)), (He.free_ok X G (c.d.fact 28 (f := .free "int") rfl)), (He.free_ok X G (c.d.fact 29 (f := .free "abs") rfl)), (He.free_ok X G (c.d.fact 30 (f := .free "list") rfl)), (He.free_ok X G (c.d.fact 31 (f := .free "range") rfl)), (He.free_ok X G (c.d.fact 32 (f := .free "dict") rfl)), (He.free_ok X G (c.d.fact 33 (f := .free "tuple") rfl)), (He.free_ok X G (c.d.fact 34 (f := .free "isinstance") rfl)), (He.free_ok X G (c.d.fact 35 (f := .free "str") rfl)), (He.free_ok X G (c.d.fact 36 (f := .free "all") rfl)), (He.free_ok X G (c.d.fact 37 (f := .free "any") rfl)), (He.free_ok X G (c.d.fact 38 (f := .free "bool") rfl)), (He.free_ok X G (c.d.fact 39 (f := .free "sorted") rfl)), (He.free_ok X G (c.d.fact 40 (f := .free "max") rfl)), (He.free_ok X G (c.d.fact 41 (f := .free "min") rfl)), (He.free_ok X G (c.d.fact 42 (f := .free "iter") rfl)), (He.free_ok X G (c.d.fact 43 (f := .free "super") rfl)), (He.free_ok X G (c.d.fact 44 (f := .free "ValueError") rfl))⟩
  have C : Gc mg tS tM tL := ⟨eS, eM, eL⟩
  have T : Rv K mg (He.ga K "River") := ⟨He.cls_ok (c.d.fact 48 (f := .cls "River") rfl), He.noat_ok (c.d.fact 56 (f := .noat "River" "weirs") rfl), He.noat_ok (c.d.fact 57 (f := .noat "River" "_rows") rfl), He.noat_ok (c.d.fact 58 (f := .noat "River" "_below") rfl), He.noat_ok (c.d.fact 59 (f := .noat "River" "_courses") rfl), He.noat_ok (c.d.fact 60 (f := .noat "River" "_above") rfl), He.noat_ok (c.d.fact 61 (f := .noat "River" "_upstream") rfl), He.noat_ok (c.d.fact 62 (f := .noat "River" "_deepest_first") rfl), (He.glo_ok X G (c.d.fact 9 (f := .glo "River") rfl))⟩
  have S : Ms K (He.ga K "River") := ⟨⟨_, _, F13, He.meth_ok (c.d.fact 63 (f := .meth "River" "rows") rfl)⟩, ⟨_, _, F14, He.meth_ok (c.d.fact 64 (f := .meth "River" "is_down") rfl)⟩, ⟨_, _, F15, He.meth_ok (c.d.fact 65 (f := .meth "River" "meeting") rfl)⟩, ⟨_, _, F16, He.meth_ok (c.d.fact 66 (f := .meth "River" "way") rfl)⟩⟩
  have M : Sm K (He.ga K "River") := ⟨⟨_, _, F12, s1, s1'⟩, ⟨_, _, F10, s2, s2'⟩, ⟨_, _, F11, s3, s3'⟩⟩
  have O : OexC K (He.ga K "NoWeir") := ⟨cls_ok2 hCl, He.eqO_ok e1, of_decide_eq_true e2, of_decide_eq_true e3, e4⟩
  have SF : SupF PP K mg (He.ga K "NoWeir") "__init__" "NoWeir.__init__" (defArgs sNo) (defBody sNo) (defScope sNo) (He.ma K (He.ga K "NoWeir") "__init__") fdn := ⟨⟨oc, od, doc, pm, cda, ct, cc, osl, en, lkn, cdn, fl, cl⟩, by decide +kernel, O, of_decide_eq_true e5, of_decide_eq_true e6, He.eqO_ok e7, He.eqO_ok e8, B.super⟩
  have O2 : OexC K (He.ga K "NotDown") := ⟨cls_ok2 hCl2, He.eqO_ok g1, of_decide_eq_true g2, of_decide_eq_true g3, g4⟩
  have SG : SupF PP K mg (He.ga K "NotDown") "__init__" "NotDown.__init__" (defArgs sNd) (defBody sNd) (defScope sNd) (He.ma K (He.ga K "NotDown") "__init__") fdz := ⟨⟨oz, dz, docz, pmz, cdz, ctz, ccz, oslz, enz, lkz, cdzz, flz, clz⟩, by decide +kernel, O2, of_decide_eq_true g5, of_decide_eq_true g6, He.eqO_ok g7, He.eqO_ok g8, B.super⟩
  have N : Nw PP K mg (He.ga K "NoWeir") (He.ma K (He.ga K "NoWeir") "__init__") fdn := ⟨SF, hno, He.eqO_ok e9, of_decide_eq_true e10, (He.glo_ok X G (c.d.fact 10 (f := .glo "NoWeir") rfl))⟩
  have N2 : Nw2 PP K mg (He.ga K "NotDown") (He.ma K (He.ga K "NotDown") "__init__") fdz := ⟨SG, hhi, hlo, He.eqO_ok g9, of_decide_eq_true g10, (He.glo_ok X G (c.d.fact 12 (f := .glo "NotDown") rfl))⟩
  have R : Er K mg (He.ga K "NoWeir") (He.ga K "NotDown") (He.ga K "WeirError") := ⟨⟨He.eqO_ok m1, He.eqO_ok m2, of_decide_eq_true g2, m3, He.eqO_ok x3, He.eqO_ok r2, of_decide_eq_true r3, of_decide_eq_true x4⟩, ⟨He.eqO_ok n1, He.eqO_ok n2, of_decide_eq_true e2, n3⟩, ⟨He.eqO_ok m1, He.eqO_ok m2, of_decide_eq_true g2, m3⟩, hno, hhi, hlo, (He.glo_ok X G (c.d.fact 11 (f := .glo "WeirError") rfl)), (He.glo_ok X G (c.d.fact 12 (f := .glo "NotDown") rfl)), (He.glo_ok X G (c.d.fact 10 (f := .glo "NoWeir") rfl)), He.exm_ok (c.d.fact 50 (f := .exm "NotDown" "NotDown" true) rfl), He.exm_ok (c.d.fact 51 (f := .exm "NoWeir" "NotDown" false) rfl), He.exm_ok (c.d.fact 52 (f := .exm "NoWeir" "NoWeir" true) rfl), of_decide_eq_true x5⟩
  have Mm : Mf K mg := ⟨⟨_, _, F1, (He.glo_ok X G (c.d.fact 1 (f := .glo "is_name") rfl))⟩, ⟨_, _, F2, (He.glo_ok X G (c.d.fact 2 (f := .glo "_is_row") rfl))⟩, ⟨_, _, F3, (He.glo_ok X G (c.d.fact 3 (f := .glo "_need_rows") rfl))⟩, ⟨_, _, F4, (He.glo_ok X G (c.d.fact 4 (f := .glo "_course") rfl))⟩, ⟨_, _, F5, (He.glo_ok X G (c.d.fact 5 (f := .glo "_find_courses") rfl))⟩, ⟨_, _, F6, (He.glo_ok X G (c.d.fact 6 (f := .glo "_directly_above") rfl))⟩, ⟨_, _, F7, (He.glo_ok X G (c.d.fact 7 (f := .glo "_find_upstream") rfl))⟩, ⟨_, _, F8, (He.glo_ok X G (c.d.fact 8 (f := .glo "_order_by_depth") rfl))⟩⟩
  have hcP : d27.code = .ref (He.cT K ("_law_pair_right", none)).1 := by
    obtain ⟨oc, od, dV, kV, doc, pm, an, cdv, ct, osl, efd, lk, hcd, _, _⟩ := F27.ex
    obtain ⟨cr, ecr⟩ := He.codeIn_ref hcd
    have e3 : d27.code = .ref cr := by rw [efd]; exact ecr
    have e4 := He.codeOf_eq (p := ("_law_pair_right", none)) lk e3
    show d27.code = .ref (He.codeOf K ("_law_pair_right", none))
    rw [e4, e3]
  have hcQ : d29.code = .ref (He.cT K ("_law_refuses_right", none)).1 := by
    obtain ⟨oc, od, dV, kV, doc, pm, an, cdv, ct, osl, efd, lk, hcd, _, _⟩ := F29.ex
    obtain ⟨cr, ecr⟩ := He.codeIn_ref hcd
    have e3 : d29.code = .ref cr := by rw [efd]; exact ecr
    have e4 := He.codeOf_eq (p := ("_law_refuses_right", none)) lk e3
    show d29.code = .ref (He.codeOf K ("_law_refuses_right", none))
    rw [e4, e3]
  refine ⟨tS, tM, tL, of_decide_eq_true x6, fun base TP TQ => ⟨B, C, T, S, ⟨_, _, F17, He.meth_ok (c.d.fact 67 (f := .meth "River" "downward") rfl)⟩, ⟨_, _, F9, He.mkr_ok (c.d.fact 49 (f := .mkr "River") rfl)⟩, ⟨_, _, F0, (He.glo_ok X G (c.d.fact 0 (f := .glo "need_weir") rfl)), ok_need F0 N M T B⟩, ⟨_, _, N2⟩, R, Mm, ⟨_, _, F18, (He.glo_ok X G (c.d.fact 13 (f := .glo "_law_bag") rfl))⟩, ⟨_, _, F19, (He.glo_ok X G (c.d.fact 14 (f := .glo "_law_take") rfl))⟩, ⟨_, _, F20, (He.glo_ok X G (c.d.fact 15 (f := .glo "_law_of") rfl))⟩, ⟨_, _, F21, (He.glo_ok X G (c.d.fact 16 (f := .glo "_law_mixed") rfl))⟩, ⟨_, _, F22, (He.glo_ok X G (c.d.fact 17 (f := .glo "_law_names") rfl))⟩, ⟨_, _, F23, (He.glo_ok X G (c.d.fact 18 (f := .glo "_law_river") rfl))⟩, ⟨_, _, F24, (He.glo_ok X G (c.d.fact 19 (f := .glo "_law_course") rfl))⟩, ⟨_, _, F25, (He.glo_ok X G (c.d.fact 20 (f := .glo "_law_refusal") rfl))⟩, ⟨_, _, F26, (He.glo_ok X G (c.d.fact 21 (f := .glo "_law_pairs") rfl))⟩, ⟨_, _, _, F27, (He.glo_ok X G (c.d.fact 22 (f := .glo "_law_pair_right") rfl)), hcP, TP⟩, ⟨_, _, F28, (He.glo_ok X G (c.d.fact 23 (f := .glo "_law_order_right") rfl))⟩, ⟨_, _, _, F29, (He.glo_ok X G (c.d.fact 24 (f := .glo "_law_refuses_right") rfl)), hcQ, TQ⟩⟩⟩
theorem facts {w : World} {K : Frag} {h : Heap} {mg : Str → Option Value} {f : Addr} (X : K.In h) (G : h.Ns mainGlobals mg) (hfa : mg ("law" : Str) = some (.ref f)) (c : SaysY h K) : LawAtS PySem.Challenge.rw_weirkeepers_k02_ways_and_junctions w K CX0 9 63 "_law_script" mg f h := by
  obtain ⟨tS, tM, tL, hne, hA⟩ := all_ok (w := w) X G c
  obtain ⟨fd, fL⟩ := c.d.def_ 30 (d := dD "law" sLaw) rfl
  have e := hfa.symm.trans (He.glo_ok X G (c.d.fact 25 (f := .glo "law") rfl))
  cases e
  have F : FnP K "law" sLaw (He.ga K "law") fd := fL
  have b := FunD.bindsA (ps := ["_law_script"]) F fun _ _ _ _ _ _ us hl => match us, hl with | [_], _ => rfl
  have hm1 : (("_law_pair_right", none) : He.Defn) ∈ tf := List.mem_cons_self
  have hm2 : (("_law_refuses_right", none) : He.Defn) ∈ tf := List.mem_cons_of_mem _ List.mem_cons_self
  have two : ∀ {Z : Addr × Addr → Prop}, Z (tP K) → Z (tQ K) → ∀ p ∈ [tP K, tQ K], Z p := fun z1 z2 p hp => by
    rcases List.mem_cons.mp hp with q | hp
    · rw [q]
      exact z1
    · rw [List.mem_singleton.mp hp]
      exact z2
  refine ⟨fd, [tP K, tQ K], spLaw K [((tP K).2, lamP), ((tQ K).2, lamQ)], two (c.empty _ hm1) (c.empty _ hm2), two (c.out _ hm1) (c.out _ hm2), two (PySem.W.codeHd_of_K X (c.hd _ hm1)) (PySem.W.codeHd_of_K X (c.hd _ hm2)), fun s u => b s [u] rfl, fun H a ns hl _ hT hS => ?_, fun base KX _ TB => ?_⟩
  · refine ⟨a, ns, rfl, hS, hl, fun z hz => ?_, fun _ => rfl⟩
    rcases List.mem_cons.mp hz with q | hz
    · rw [q]
      exact TabS.nil (hT _ List.mem_cons_self)
    · rw [List.mem_singleton.mp hz]
      exact TabS.nil (hT _ (List.mem_cons_of_mem _ List.mem_cons_self))
  · exact ok_law hne F (hA base (TB _ List.mem_cons_self) (TB _ (List.mem_cons_of_mem _ List.mem_cons_self)))
end K0H
open PySem PySem.W PySem.Calls PyProof.Rows
theorem PySem.Challenge.cw_weirkeepers_k02_ways_and_junctions_holds : PySem.Challenge.rw_weirkeepers_k02_ways_and_junctions.Holds := by
  w_on; o_law
  refine HandSHeadRun.head_any (r := OpenLaw.row PySem.Challenge.rw_weirkeepers_k02_ways_and_junctions) (q := view (OpenLaw.row PySem.Challenge.rw_weirkeepers_k02_ways_and_junctions).prog [34]) (H := K0H.hk 6) (ob := K0H.ob) (M := 4000) (loose := K0H.loose) (d := HandSHeadRun.topDef (OpenLaw.row PySem.Challenge.rw_weirkeepers_k02_ways_and_junctions).prog 34) (kwd := []) K0H.ob_eq
    (by kernel_rfl) (fun s => by kernel_rfl) K0H.run (by kernel_rfl) (by kernel_rfl) (by kernel_rfl) (by rfl) (by first | assumption | decide +kernel) (by decide +kernel) ⟨rfl, rfl, rfl, rfl, rfl, by decide +kernel⟩ ?hw ?hc
  case hw => w_witness2
  case hc =>
    refine LamX.walk_ofTsE (l := PySem.Challenge.rw_weirkeepers_k02_ways_and_junctions) (n := 63) (k := 9) (x := "_law_script") (CX := fun _ => L2.CX0) rfl (by decide) (by kernel_rfl) ⟨rfl, by decide, by decide⟩ ?F (fun _ _ _ _ _ z => z)
    intro w mg fa h Y G hmg0
    obtain ⟨K, KX, c⟩ := Y
    have hmg : mg ("law" : PySem.Str) = some (.ref fa) := by
      have e : (HandSHeadRun.topDef (OpenLaw.row PySem.Challenge.rw_weirkeepers_k02_ways_and_junctions).prog 34).name = ("law" : PySem.Str) := by kernel_rfl
      rw [← e]
      exact hmg0
    exact ⟨K, KX, K0H.facts KX G hmg c⟩
end
