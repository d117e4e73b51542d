import PyProof.Rows.All
import Wide.All
import OpenK.AllK
import Wide.FinOn
import HandS.ForMost
import HandS.Defaults
import HandS.Walk
import PySem.Challenge.RW_weirkeepers_k00_rivers_made
import PySem.Str
import HandS.DictComp
import HandS.IsInst
import HandS.Flow
import KE.GoesEnum
import HandS.TupSets
import HandS.IterVal
import HandS.OwnEq
import KE.KOwnIter
import PyProof.FString
import PyProof.FString4
import HandS.FStr
import HandS.FStrTup
import PyProof.ReprHeadsEmpty
import PyProof.ReprLen
import HandS.ExcInit
import HandS.Nested
import KE.KSuper
import KE.KExcSuper
import PyProof.InstEq
import HandS.ExcIs
import HandS.ExcField
import HandS.TryOnly
import HandS.Lambda
import KE.KExcIs
import KE.KStateDown
import Lean
import HandS.Ends
import HandS.More
import HandS.Words
import HandS.WordsExc
import HandS.Head0
import HandS.Head1
import HandS.Head2
import HandS.HeadEnd
import HandS.HeadHook1
import HandS.HeadHook2
import HandS.HeadHook3
import HandS.HeadHook4
import HandS.HeadWalk

/-! ## K0T -/
section
set_option Elab.async false
set_option linter.all false
set_option maxRecDepth 100000
namespace K0
open PySem PySem.Spec PyProof.Rows L2
/-! ### the text by places -/
def top (i : Nat) : Stmt := PySem.Challenge.pw_weirkeepers_k00_rivers_made.main.body.getD i (.Pass ⟨0, 0, 0, 0⟩)
abbrev sNeed : Stmt := top 7
abbrev sIsName : Stmt := top 12
abbrev sIsRow : Stmt := top 13
abbrev sNeedRows : Stmt := top 14
abbrev sCourse : Stmt := top 15
abbrev sFind : Stmt := top 16
abbrev sAbove : Stmt := top 17
abbrev sUp : Stmt := top 18
abbrev sOrder : Stmt := top 19
abbrev sRiver : Stmt := top 20
abbrev sBag : Stmt := top 22
abbrev sTake : Stmt := top 23
abbrev sOf : Stmt := top 24
abbrev sMixed : Stmt := top 25
abbrev sNames : Stmt := top 26
abbrev sLRiver : Stmt := top 27
abbrev sLCourse : Stmt := top 28
abbrev sRefused : Stmt := top 29
abbrev sOdd : Stmt := top 30
abbrev sTold : Stmt := top 31
abbrev sWeir : Stmt := top 32
abbrev sEqual : Stmt := top 33
abbrev sWhole : Stmt := top 34
abbrev sRefuses : Stmt := top 35
abbrev sLaw : Stmt := top 36
abbrev FnP (K : PySem.W.Frag) (x : Str) (st : Stmt) (f : Addr) (fd : FuncData) : Prop := FunD K x x (defArgs st) (defBody st) (defScope st) [] [] f fd
abbrev FnM (K : PySem.W.Frag) (x q : Str) (st : Stmt) (f : Addr) (fd : FuncData) : Prop := FunD K x q (defArgs st) (defBody st) (defScope st) [] [] f fd
/-! ### heaps -/
/-- all that was tracked is as it was, but what stands at p -/
def Upto (p : Addr) (H H' : Hp) : Prop := ∀ b o, H b = some o → b ≠ p → H' b = some o
theorem Upto.refl {p : Addr} {H : Hp} : Upto p H H := fun _ _ h _ => h
theorem Upto.trans {p : Addr} {H H1 H2 : Hp} (a : Upto p H H1) (b : Upto p H1 H2) : Upto p H H2 := fun c o h n => b c o (a c o h n) n
theorem Upto.of {p : Addr} {H H' : Hp} (s : Same H H') : Upto p H H' := fun b o h _ => s b o h
theorem Upto.at_ {p : Addr} {H : Hp} {o : HO} : Upto p H (upd H p o) := fun b u h n => by rw [upd_ne n]; exact h
theorem same_upd {H : Hp} {p : Addr} {o : HO} (h : H p = none) : Same H (upd H p o) := fun b x e => by
  rw [upd_ne (ne_of_none e h)]
  exact e
theorem Upto.seq {K : PySem.W.Frag} {p : Addr} {H H' : Hp} {a : Addr} {xs : List V} (e : Upto p H H') (n : a ≠ p) (h : SqL K H a xs) : SqL K H' a xs := by
  rcases h with (h | ⟨o, h⟩) | h
  · exact .inl (.inl (e _ _ h n))
  · exact .inl (.inr ⟨o, e _ _ h n⟩)
  · exact .inr h
/-- the bag: two whole numbers from 0 on -/
def BagV (xs : List V) : Prop := ∃ x y : Int, xs = [.int x, .int y] ∧ 0 ≤ x ∧ 0 ≤ y ∧ y < 2147483648
def BagAt (H : Hp) (p : Addr) : Prop := ∃ xs, H p = some (.lst xs) ∧ BagV xs
/-! ### promises of the law's own helpers -/
def spBag (K : PySem.W.Frag) : Sp := fun vs H Q _ => ∃ (a : Addr) (ns : List Int) (i z : Int), vs = [.ref a, .int i, .int z] ∧ SqL K H a (ns.map V.int) ∧ ns.length ≤ 63 ∧ 0 ≤ i ∧ i ≤ 100 ∧ 0 ≤ z ∧ z ≤ 100000000 ∧
  ∀ H' p, Same H H' → H p = none → BagAt H' p → Q (.ref p) H'
def spTake : Sp := fun vs H Q _ => ∃ (p : Addr) (m : Int), vs = [.ref p, .int m] ∧ BagAt H p ∧ 0 < m ∧ m < 1000000 ∧
  ∀ (r : Int) (xs : List V), 0 ≤ r → r < m → BagV xs → Q (.int r) (upd H p (.lst xs))
def spOf (K : PySem.W.Frag) : Sp := fun vs H Q _ => ∃ (p a : Addr) (ys : List V), vs = [.ref p, .ref a] ∧ BagAt H p ∧ a ≠ p ∧ SqL K H a ys ∧ 0 < ys.length ∧ ys.length ≤ 1000 ∧
  ∀ (i : Nat) (v : V) (xs : List V), ys[i]? = some v → BagV xs → Q v (upd H p (.lst xs))
def spMixed (K : PySem.W.Frag) : Sp := fun vs H Q _ => ∃ (p a : Addr) (ys : List V), vs = [.ref p, .ref a] ∧ BagAt H p ∧ a ≠ p ∧ SqL K H a ys ∧ ys.length ≤ 1000 ∧
  ∀ (H' : Hp) (l : Addr) (zs : List V), Upto p H H' → BagAt H' p → H l = none → l ≠ p → H' l = some (.lst zs) → zs.Perm ys → Q (.ref l) H'
section
variable {P : Program} {w : World} {K : PySem.W.Frag} {mg : Str → Option Value} {base : Heap}
theorem scBag : FnScope ["_law_script", "_law_at", "_law_salt", "_law_cell", "_law_blend", "_law_k", "_law_each"] ["_law_script", "_law_at", "_law_salt"] (defScope sBag) := ⟨rfl, rfl, rfl, by decide +kernel, rfl, by decide +kernel, by decide +kernel⟩
theorem scTake : FnScope ["_law_bag_here", "_law_many", "_law_digit"] ["_law_bag_here", "_law_many"] (defScope sTake) := ⟨rfl, rfl, rfl, by decide +kernel, rfl, by decide +kernel, by decide +kernel⟩
theorem scOf : FnScope ["_law_bag_here", "_law_some"] ["_law_bag_here", "_law_some"] (defScope sOf) := ⟨rfl, rfl, rfl, by decide +kernel, rfl, by decide +kernel, by decide +kernel⟩
theorem scMixed : FnScope ["_law_bag_here", "_law_some", "_law_rest", "_law_found", "_law_k"] ["_law_bag_here", "_law_some"] (defScope sMixed) := ⟨rfl, rfl, rfl, by decide +kernel, rfl, by decide +kernel, by decide +kernel⟩
/-- built-in names that the module leaves alone -/
structure Bl (mg : Str → Option Value) : Prop where
  len : mg "len" = none
  enumerate : mg "enumerate" = none
  int : mg "int" = none
  abs : mg "abs" = none
  list : mg "list" = none
  range : mg "range" = none
  dict : mg "dict" = none
  tuple : mg "tuple" = none
  isinstance : mg "isinstance" = none
  str : mg "str" = none
  all : mg "all" = none
  any : mg "any" = none
  bool : mg "bool" = none
  sorted : mg "sorted" = none
  max : mg "max" = none
  min : mg "min" = none
  iter : mg "iter" = none
  super : mg "super" = none
  valueError : mg "ValueError" = none
end
end K0
end

/-! ## K0A -/
section
set_option Elab.async false
set_option linter.all false
set_option maxRecDepth 100000
namespace K0
open PySem PySem.Spec PyProof.Rows L2
section
variable {P : Program} {w : World} {K : PySem.W.Frag} {mg : Str → Option Value} {base : Heap}
theorem mod_ok (x : Int) {m : Int} (h : 0 < m) : 0 ≤ x % m ∧ x % m < m := ⟨Int.emod_nonneg _ (by omega), Int.emod_lt_of_pos _ h⟩
theorem perm_move {α : Type} {rs fs : List α} {j : Nat} (hj : j < rs.length) : (rs.eraseIdx j ++ (fs ++ [rs[j]])).Perm (rs ++ fs) := by
  have h1 : (rs[j] :: rs.eraseIdx j).Perm rs := by
    have e : rs = rs.take j ++ rs[j] :: rs.drop (j + 1) := by
      rw [List.getElem_cons_drop, List.take_append_drop]
    rw [List.eraseIdx_eq_take_drop_succ]
    refine List.Perm.trans List.perm_middle.symm ?_
    rw [← e]
  have h2 : (rs.eraseIdx j ++ (fs ++ [rs[j]])).Perm ([rs[j]] ++ (rs.eraseIdx j ++ fs)) := by
    rw [← List.append_assoc]
    exact List.perm_append_comm
  exact h2.trans ((h1.append_right fs))
theorem ok_take {f : Addr} {fd : FuncData} (F : FnP K "_law_take" sTake f fd) (B : Bl mg) : FnOk P w K mg base CX0 1 f fd ["_law_bag_here", "_law_many"] spTake := by
  refine F.ok scTake (fun vs H Q E h => ?_) (fun cdv A outer s H vs Q E hr h => ?_)
  · obtain ⟨p, m, rfl, _⟩ := h
    rfl
  · obtain ⟨p, m, rfl, ⟨xs, hp, x, y, rfl, hx, hy, hy2⟩, hm, hm2, k⟩ := h
    refine ⟨_, PSs.nox (pss_cons (ps_if (pt_cmpR op_gt (pe_ix ix_list (pv 0) pe_int (fun _ _ => rfl)) pe_int (nomark _))
        (pss_cons (ps_set (i := 2) scTake.nd rfl (Or.inl rfl) (pe_op op_mod (pe_callTy call_int1 (by rfl) B.int (by decide +kernel) (pa_cons (pe_ix ix_list (pv 0) pe_int (fun _ _ => rfl)) pa_nil)) (pv 1)))
        (pss_cons (ps_asg (pe_op op_fdiv (pe_ix ix_list (pv 0) pe_int (fun _ _ => rfl)) (pv 1)) (pg_sub (pv 0) pe_int set_list))
        (pss_one (ps_ret (pv 2))))) pss_nil)
      (pss_cons (ps_asg (pe_op op_mod (pe_callTy call_int1 (by rfl) B.int (by decide +kernel) (pa_cons (pe_op op_add (pe_op op_mul (pe_ix ix_list (pv 0) pe_int (fun _ _ => rfl)) pe_int) pe_int) pa_nil)) pe_int) (pg_sub (pv 0) pe_int set_list))
      (pss_one (ps_ret (pe_op op_mod (pe_op op_fdiv (pe_op op_mod (pe_callTy call_int1 (by rfl) B.int (by decide +kernel) (pa_cons (pe_op op_mul (pe_op op_fdiv (pe_ix ix_list (pv 0) pe_int (fun _ _ => rfl)) pe_int) pe_int) pa_nil)) pe_int) pe_int) (pv 1)))))), ?_⟩
    have g0 : SqL K H p [.int x, .int y] := .inl (.inl hp)
    refine ⟨_, rfl, p, _, _, _, rfl, rfl, g0, atI_nat (j := 0) rfl, x, 0, rfl, rfl, _, rfl, ?_⟩
    refine ite2 (fun hx0 => ?_) (fun hx0 => ?_)
    · have r1 := mod_ok x hm
      refine ⟨_, rfl, p, _, _, _, rfl, rfl, g0, atI_nat (j := 0) rfl, .inl ⟨x, rfl, _, rfl, x, m, rfl, rfl, hm, ?_⟩⟩
      refine ⟨_, rfl, p, _, _, _, rfl, rfl, g0, atI_nat (j := 0) rfl, _, rfl, x, m, rfl, rfl, ⟨hm, by omega⟩, _, rfl, p, _, 0, 0, rfl, rfl, hp, rfl, ?_⟩
      refine ⟨_, rfl, ?_⟩
      exact k (x % m) [.int (x / m), .int y] r1.1 r1.2 ⟨x / m, y, rfl, Int.ediv_nonneg hx (by omega), hy, hy2⟩
    · have r1 := mod_ok (y * 38177 + 4001) (m := 2147483587) (by decide)
      refine ⟨_, rfl, p, _, _, _, rfl, rfl, g0, atI_nat (j := 1) rfl, y, 38177, rfl, rfl, .inl ⟨by omega, by omega⟩, _, _, rfl, rfl, .inl ⟨_, rfl, _, _, rfl, rfl, (by show (0 : Int) < 2147483587; decide), _, rfl, p, _, 1, 1, rfl, rfl, hp, rfl, ?_⟩⟩
      have gz : (upd H p (.lst (([V.int x, .int y] : List V).set 1 (.int ((y * 38177 + 4001) % 2147483587))))) p = some (.lst [.int x, .int ((y * 38177 + 4001) % 2147483587)]) := upd_same
      refine ⟨_, rfl, p, _, _, _, rfl, rfl, .inl (.inl gz), atI_nat (j := 1) rfl, _, 11, rfl, rfl, ⟨by decide, by decide⟩, _, 52817, rfl, rfl, .inl ⟨by omega, by omega⟩, .inl ⟨_, rfl, _, _, rfl, rfl, (by show (0 : Int) < 2147483629; decide), _, _, rfl, rfl, ⟨by decide, by decide⟩, _, rfl, _, m, rfl, rfl, hm, ?_⟩⟩
      have r2 := mod_ok ((y * 38177 + 4001) % 2147483587 / 11 * 52817 % 2147483629 / 32) hm
      exact k _ _ r2.1 r2.2 ⟨x, _, rfl, hx, r1.1, by omega⟩
theorem ok_of {f fT : Addr} {fd fdT : FuncData} (F : FnP K "_law_of" sOf f fd) (FT : FnP K "_law_take" sTake fT fdT) (B : Bl mg) (gT : mg "_law_take" = some (.ref fT)) : FnOk P w K mg base CX0 2 f fd ["_law_bag_here", "_law_some"] (spOf K) := by
  have GT : FnOk P w K mg base CX0 1 fT fdT ["_law_bag_here", "_law_many"] spTake := ok_take FT B
  have bT : Binds K fdT ["_law_bag_here", "_law_many"] [] := FT.bindsN fun _ _ _ _ _ _ us hl => match us, hl with | [_, _], _ => rfl
  refine F.ok scOf (fun vs H Q E h => ?_) (fun cdv A outer s H vs Q E hr h => ?_)
  · obtain ⟨p, a, ys, rfl, _⟩ := h
    rfl
  · obtain ⟨p, a, ys, rfl, hB, hne, hS, h0, h1, k⟩ := h
    refine ⟨_, PSs.nox (pss_one (ps_ret (pe_ix ix_list (pv 1) (pe_call GT hr (by rfl) gT FT.kp bT .nil pass0 (pa_cons (pv 0) (pa_cons (pe_callB call_len_seq (by rfl) B.len PySem.boot_len (pa_cons (pv 1) pa_nil)) pa_nil))) (fun _ _ => rfl)))), ?_⟩
    refine ⟨_, rfl, _, rfl, _, rfl, a, ys, rfl, .inl hS, p, (ys.length : Int), rfl, hB, by omega, by omega, fun r xs hr0 hr1 hx => ?_⟩
    obtain ⟨j, rfl⟩ : ∃ j : Nat, r = (j : Int) := ⟨r.toNat, by omega⟩
    have hj : j < ys.length := by omega
    refine ⟨a, ys, _, ys[j], rfl, rfl, ?_, atI_nat (j := j) (List.getElem?_eq_getElem hj), k j _ xs (List.getElem?_eq_getElem hj) hx⟩
    exact (Upto.at_ (p := p)).seq hne hS
theorem ok_mixed {f fT : Addr} {fd fdT : FuncData} (F : FnP K "_law_mixed" sMixed f fd) (FT : FnP K "_law_take" sTake fT fdT) (B : Bl mg) (gT : mg "_law_take" = some (.ref fT)) : FnOk P w K mg base CX0 2 f fd ["_law_bag_here", "_law_some"] (spMixed K) := by
  have GT : FnOk P w K mg base CX0 1 fT fdT ["_law_bag_here", "_law_many"] spTake := ok_take FT B
  have bT : Binds K fdT ["_law_bag_here", "_law_many"] [] := FT.bindsN fun _ _ _ _ _ _ us hl => match us, hl with | [_, _], _ => rfl
  refine F.ok scMixed (fun vs H Q E h => ?_) (fun cdv A outer s H vs Q E hr h => ?_)
  · obtain ⟨p, a, ys, rfl, _⟩ := h
    rfl
  · obtain ⟨p, a, ys, rfl, hB, hne, hS, h1, k⟩ := h
    refine ⟨_, PSs.nox (pss_cons (ps_par (i := 2) (j := 3) (by rfl) scMixed.nd rfl rfl (by decide) rfl rfl (pa_cons (pe_callTy call_list_of (by rfl) B.list (by decide +kernel) (pa_cons (pv 1) pa_nil)) (pa_cons (pe_lst pa_nil) pa_nil)) (by rfl))
      (pss_cons (ps_for PassesOwn.never rfl (pi_range1 (by rfl) B.range (pa_cons (pe_callB call_len_seq (by rfl) B.len PySem.boot_len (pa_cons (pv 1) pa_nil)) pa_nil)) (pg_name (i := 4) scMixed.nd rfl (Or.inl rfl))
        (pss_one (ps_expr (pe_bm PySem.F.plainAttrs_list PySem.F.slot_list_append PySem.F.type_list_append mt_append (pv 3)
          (pa_cons (pe_bm PySem.F.plainAttrs_list PySem.F.slot_list_pop PySem.F.type_list_pop mt_popAt (pv 2)
            (pa_cons (pe_call GT hr (by rfl) gT FT.kp bT .nil pass0 (pa_cons (pv 0) (pa_cons (pe_callB call_len_seq (by rfl) B.len PySem.boot_len (pa_cons (pv 2) pa_nil)) pa_nil))) pa_nil)) pa_nil)))))
      (pss_one (ps_ret (pv 3))))), ?_⟩
    refine ⟨_, rfl, a, ys, rfl, .inl hS, fun r nr => ⟨Nat.zero_le _, fun l nl => ?_⟩⟩
    have nrl : r ≠ l := ne_of_none upd_same nl
    have nl0 : H l = none := by
      rw [upd_ne nrl.symm] at nl
      exact nl
    obtain ⟨b0, hb0, hv0⟩ := id hB
    have npr : p ≠ r := ne_of_none hb0 nr
    have npl : p ≠ l := ne_of_none hb0 nl0
    have s1 : Same H (upd (upd H r (.lst ys)) l (.lst [])) := (same_upd nr).trans (same_upd nl)
    refine ⟨_, _, rfl, ?_⟩
    refine ⟨_, rfl, a, ys, rfl, .inl (s1.seq hS), (ys.length : Int), rfl, by omega, by omega, ?_⟩
    refine for_range (n := ys.length) (lo := 0) (fun i σ H2 => ∃ (v : Option V) (rs fs : List V), σ = [some (.ref p), some (.ref a), some (.ref r), some (.ref l), v] ∧ Upto p H H2 ∧ BagAt H2 p ∧ H2 r = some (.lst rs) ∧ H2 l = some (.lst fs) ∧ fs.length = i ∧ (rs ++ fs).Perm ys)
      ⟨none, ys, [], rfl, .of s1, ⟨b0, by rw [upd_ne npl, upd_ne npr]; exact hb0, hv0⟩, by rw [upd_ne nrl, upd_same], upd_same, rfl, by rw [List.append_nil]⟩ ?_ ?_
    · rintro i σ H2 hi ⟨v, rs, fs, rfl, u2, B2, hr2, hl2, hlen, hp⟩
      have hlr : rs.length + fs.length = ys.length := by
        have := hp.length_eq
        rw [List.length_append] at this
        exact this
      refine ⟨_, rfl, .inl ⟨rfl, _, .inl (.inl hl2)⟩, _, rfl, .inl ⟨rfl, _, .inl (.inl hr2)⟩, _, rfl, _, rfl, r, rs, rfl, .inl (.inl (.inl hr2)), p, (rs.length : Int), rfl, B2, by omega, by omega, fun d xs hd0 hd1 hx => ?_⟩
      obtain ⟨j, rfl⟩ : ∃ j : Nat, d = (j : Int) := ⟨d.toNat, by omega⟩
      have hj : j < rs.length := by omega
      refine ⟨r, rs, j, j, rs[j], rfl, rfl, by rw [upd_ne npr.symm]; exact hr2, by omega, by omega, ?_, List.getElem?_eq_getElem hj, ?_⟩
      · rw [seqIndex_of (by omega) (by omega)]
        rfl
      · refine ⟨l, fs, rs[j], rfl, rfl, by rw [upd_ne nrl.symm, upd_ne npl.symm]; exact hl2, small1000 (by omega), ?_⟩
        refine ⟨_, rs.eraseIdx j, fs ++ [rs[j]], rfl, ?_, ⟨xs, by rw [upd_ne npl, upd_ne npr, upd_same], hx⟩, by rw [upd_ne nrl, upd_same], upd_same, by simp [hlen], ?_⟩
        · intro b o hb hn
          rw [upd_ne (ne_of_none hb nl0), upd_ne (ne_of_none hb nr), upd_ne hn]
          exact u2 b o hb hn
        · refine List.Perm.trans ?_ hp
          exact perm_move hj
    · rintro σ H2 ⟨v, rs, fs, rfl, u2, B2, hr2, hl2, hlen, hp⟩
      have hlr : rs.length + fs.length = ys.length := by
        have := hp.length_eq
        rw [List.length_append] at this
        exact this
      have e : rs = [] := List.eq_nil_of_length_eq_zero (by omega)
      subst e
      exact ⟨_, rfl, k H2 l fs u2 B2 nl0 npl.symm hl2 hp⟩
end
end K0
end

/-! ## K0B -/
section
set_option Elab.async false
set_option linter.all false
set_option maxRecDepth 100000
namespace K0
open PySem PySem.Spec PyProof.Rows L2
theorem split_if {α : Type} {C : α → Prop} {G : Prop} (use : (∀ c, C c) → G) (key : ∀ c, C c) : G := use key
section
variable {P : Program} {w : World} {K : PySem.W.Frag} {mg : Str → Option Value} {base : Heap}
theorem cutV_sub {xs : List V} {a b : Option Int} {v : V} (h : v ∈ cutV xs a b) : v ∈ xs := by
  unfold cutV at h
  exact List.mem_of_mem_drop (List.mem_of_mem_take h)
theorem cutV_len {xs : List V} {a b : Option Int} : (cutV xs a b).length ≤ xs.length := by
  unfold cutV
  rw [List.length_take, List.length_drop]
  omega
theorem ok_bag {f : Addr} {fd : FuncData} (F : FnP K "_law_bag" sBag f fd) (B : Bl mg) : FnOk P w K mg base CX0 1 f fd ["_law_script", "_law_at", "_law_salt"] (spBag K) := by
  refine F.ok scBag (fun vs H Q E h => ?_) (fun cdv A outer s H vs Q E hr h => ?_)
  · obtain ⟨a, ns, i, z, rfl, _⟩ := h
    rfl
  · obtain ⟨a, ns, i, z, rfl, hS, hl, hi, hi2, hz, hz2, k⟩ := h
    refine ⟨_, PSs.nox (pss_cons
      (ps_set (i := 3) scBag.nd rfl (Or.inl rfl) (pe_ifExp (pt_cmpR op_lt (pv 1) (pe_callB call_len_seq (by rfl) B.len PySem.boot_len (pa_cons (pv 0) pa_nil)) (nomark _)) (pe_ix ix_list (pv 0) (pv 1) (fun _ _ => rfl)) pe_int))
      (pss_cons
      (ps_set (i := 4) scBag.nd rfl (Or.inl rfl) (pe_op op_add (pv 2) (pe_op op_mul pe_int (pv 1))))
      (pss_cons
      (ps_for PassesOwn.never rfl (pi_enum (by rfl) B.enumerate (pa_cons (pe_slice sl_list (pv 0) po_none (po_some pe_int)) pa_nil)) (pg_tup (by rfl) (pgs_cons (pg_name (i := 5) scBag.nd rfl (Or.inl rfl)) (pgs_cons (pg_name (i := 6) scBag.nd rfl (Or.inl rfl)) pgs_nil))) (pss_one
      (ps_set (i := 4) scBag.nd rfl (Or.inl rfl) (pe_op op_mod (pe_callTy call_int1 (by rfl) B.int (by decide +kernel) (pa_cons (pe_op op_add (pe_op op_add (pe_op op_add (pe_op op_mul (pv 4) pe_int) (pe_op op_mod (pe_callTy call_int1 (by rfl) B.int (by decide +kernel) (pa_cons (pv 6) pa_nil)) pe_int)) (pe_op op_mul pe_int (pv 5))) pe_int) pa_nil)) pe_int))))
      (pss_one
      (ps_ret (pe_lst (pa_cons (pe_ifExp (pt_cmpR op_ge (pe_callB call_abs (by rfl) B.abs (by decide +kernel) (pa_cons (pv 3) pa_nil)) (pe_op op_pow pe_int pe_int) (nomark _)) (pe_callB call_abs (by rfl) B.abs (by decide +kernel) (pa_cons (pv 3) pa_nil)) pe_int) (pa_cons (pv 4) pa_nil)))))))), ?_⟩
    refine ⟨_, rfl, _, rfl, a, _, rfl, .inl hS, i, (((ns.map V.int).length : Nat) : Int), rfl, rfl, _, rfl, ?_⟩
    refine split_if (α := Int) (C := ?C) ?use ?key
    case use =>
      intro key
      refine ite2 (fun hc => ?_) (fun hc => ?_)
      · have hc := of_decide_eq_true hc
        obtain ⟨j, ej⟩ : ∃ j : Nat, i = (j : Int) := ⟨i.toNat, by omega⟩
        rw [List.length_map] at hc
        have hj : j < ns.length := by omega
        obtain ⟨c, hcv⟩ : ∃ c : Int, (ns.map V.int)[j]? = some (.int c) := ⟨ns[j], by rw [List.getElem?_map, List.getElem?_eq_getElem hj]; rfl⟩
        refine ⟨_, rfl, _, rfl, a, _, _, _, rfl, rfl, hS, at_of ej hcv, ?_⟩
        exact key c
      · exact key 0
    case key =>
      intro c
      refine ⟨_, rfl, _, rfl, 1009, i, rfl, rfl, .inl ⟨by decide, by decide⟩, z, _, rfl, rfl, ?_⟩
      refine ⟨_, rfl, 63, rfl, a, _, rfl, hS, fun q nq => ⟨q, _, rfl, .inl (.inl upd_same), ?_⟩⟩
      refine for_it (walk_enum (xs := cutV (ns.map V.int) none (some 63))) (fun t σ H2 => ∃ (b : Int) (v1 v2 : Option V), σ = [some (.ref a), some (.int i), some (.int z), some (.int c), some (.int b), v1, v2] ∧ 0 ≤ b ∧ b < 2147483648 ∧ Same H H2 ∧ H2 q = some (.lst (cutV (ns.map V.int) none (some 63))))
        ⟨_, none, none, rfl, by omega, by omega, same_upd nq, upd_same⟩ (fun _ _ _ _ h => by obtain ⟨_, _, _, _, _, _, _, e⟩ := h; exact .inl (.inl e)) ?_ ?_
      · rintro t x σ H2 H3 ht ⟨b, v1, v2, rfl, hb0, hb1, sm, hq⟩ ⟨T, x1, x2, rfl, hT, rfl, e1, e2⟩
        have nq2 : q ≠ T := ne_of_none hq hT
        have ex1 : x1 = .int (t : Int) := (Option.some.inj e1).symm
        have hx2 : ∃ y : Int, x2 = .int y := by
          obtain ⟨y, _, ey⟩ := List.mem_map.mp (cutV_sub (List.mem_of_getElem? e2))
          exact ⟨y, ey.symm⟩
        obtain ⟨y, rfl⟩ := hx2
        subst ex1
        have ht' : t < 63 := by
          have h1 := cutV_len (xs := ns.map V.int) (a := none) (b := some 63)
          rw [List.length_map] at h1
          omega
        have r1 := mod_ok y (m := 2147483549) (by decide)
        have r2 := mod_ok (b * 44497 + y % 2147483549 + 71 * (t : Int) + 9) (m := 2147483549) (by decide)
        refine ⟨T, _, rfl, .inl (.inl upd_same), rfl, _, _, rfl, _, _, rfl, rfl, ?_⟩
        refine ⟨_, rfl, b, 44497, rfl, rfl, .inl ⟨by omega, by omega⟩, _, rfl, .inl ⟨y, rfl, _, _, rfl, rfl, (by show (0 : Int) < 2147483549; decide), _, _, rfl, rfl, ?_⟩⟩
        refine ⟨_, rfl, 71, (t : Int), rfl, rfl, .inl ⟨by decide, by decide⟩, _, _, rfl, rfl, _, _, rfl, rfl, .inl ⟨_, rfl, _, _, rfl, rfl, (by show (0 : Int) < 2147483549; decide), ?_⟩⟩
        refine ⟨_, _, _, rfl, r2.1, by omega, sm.trans (same_upd hT), ?_⟩
        rw [upd_ne nq2]
        exact hq
      · rintro σ H2 ⟨b, v1, v2, rfl, hb0, hb1, sm, hq⟩
        refine ⟨_, rfl, c, rfl, 10, 18, rfl, rfl, ⟨by decide, by decide, by decide⟩, _, _, rfl, rfl, _, rfl, ?_⟩
        have fin : ∀ (g : Int) (p : Addr), 0 ≤ g → H2 p = none → Q (.ref p) (upd H2 p (.lst [.int g, .int b])) := fun g p hg np =>
          k _ p (sm.trans (same_upd np)) (sm.free np) ⟨_, upd_same, g, b, rfl, hg, hb0, hb1⟩
        refine ite2 (fun _ => ?_) (fun _ => ?_)
        · refine ⟨_, rfl, c, rfl, _, rfl, by show 2 ≤ sizeLine; decide, fun p np => ?_⟩
          exact fin _ p (by split <;> omega) np
        · refine ⟨_, rfl, by show 2 ≤ sizeLine; decide, fun p np => ?_⟩
          exact fin 0 p (by omega) np
end
end K0
end

/-! ## K0M -/
section
set_option linter.all false
namespace K0
open PySem
/-! ### names -/
def Low (c : Nat) : Prop := 97 ≤ c ∧ c ≤ 122
structure NameOk (x : Str) : Prop where
  one : 1 ≤ x.cps.toList.length
  most : x.cps.toList.length ≤ 8
  low : ∀ c ∈ x.cps.toList, Low c
theorem str_ext {x y : Str} (h : x.cps.toList = y.cps.toList) : x = y := by
  cases x with | mk a => cases y with | mk b =>
  have e : a = b := Array.ext' h
  rw [e]
theorem app_list (x y : Str) : (x ++ y).cps.toList = x.cps.toList ++ y.cps.toList := Array.toList_append
/-- the k-th mark, many names being asked for -/
def markL (many start k : Nat) : List Nat := [97 + (start + 5 * k) % 26] ++ (if 26 < many then [97 + k / 26] else [])
def shapeL (base mark : List Nat) (k : Nat) : Nat → List Nat
  | 0 => base ++ mark
  | 1 => mark ++ base
  | 2 => mark ++ base.take (k % (base.length + 1))
  | _ => base.take 1 ++ mark ++ base.drop 1
def seaL : List Nat := [115, 101, 97]
def seasL : List Nat := [115, 101, 97, 115]
def fixL (l : List Nat) : List Nat := if l = seaL then seasL else l
theorem markL_len (many start k : Nat) : (markL many start k).length = if 26 < many then 2 else 1 := by
  unfold markL
  split <;> rfl
theorem markL_inj {many start k j : Nat} (hm : many ≤ 52) (hk : k < many) (hj : j < many) (h : markL many start k = markL many start j) : k = j := by
  unfold markL at h
  have h1 := (List.cons_eq_cons.mp h).1
  by_cases c : 26 < many
  · have h2 := (List.cons_eq_cons.mp h).2
    rw [if_pos c, if_pos c] at h2
    have h3 := (List.cons_eq_cons.mp h2).1
    omega
  · omega
theorem markL_low {many start k : Nat} (hm : many ≤ 52) (hk : k < many) : ∀ c ∈ markL many start k, Low c := by
  intro c hc
  unfold markL at hc
  rcases List.mem_append.mp hc with h | h
  · rw [List.mem_singleton.mp h]
    constructor <;> omega
  · split at h
    · rw [List.mem_singleton.mp h]
      constructor <;> omega
    · cases h
theorem shape_mark {base m1 m2 : List Nat} {k j : Nat} {s : Nat} (hl : m1.length = m2.length) (h : shapeL base m1 k s = shapeL base m2 j s) : m1 = m2 := by
  match s, h with
  | 0, h => exact List.append_cancel_left h
  | 1, h => exact List.append_cancel_right h
  | 2, h => exact List.append_inj_left h hl
  | s + 3, h =>
    have h : base.take 1 ++ m1 ++ base.drop 1 = base.take 1 ++ m2 ++ base.drop 1 := h
    exact List.append_cancel_left (List.append_cancel_right h)
theorem shape_len {base m1 m2 : List Nat} {k j : Nat} {s : Nat} (hl : m1.length = m2.length) (hs : s ≠ 2) : (shapeL base m1 k s).length = (shapeL base m2 j s).length := by
  match s, hs with
  | 0, _ => simp [shapeL, hl]
  | 1, _ => simp [shapeL, hl]
  | s + 3, _ => simp [shapeL, hl]
theorem fix_mark {base : List Nat} {many start k j s : Nat} (h : fixL (shapeL base (markL many start k) k s) = fixL (shapeL base (markL many start j) j s)) : markL many start k = markL many start j := by
  have hl : (markL many start k).length = (markL many start j).length := by rw [markL_len, markL_len]
  have mixed : ∀ {k j : Nat}, shapeL base (markL many start k) k s = seaL → shapeL base (markL many start j) j s = seasL → markL many start k = markL many start j := by
    intro k j e1 e2
    have hl : (markL many start k).length = (markL many start j).length := by rw [markL_len, markL_len]
    by_cases hs : s = 2
    · subst hs
      have e1 : markL many start k ++ base.take (k % (base.length + 1)) = seaL := e1
      have e2 : markL many start j ++ base.take (j % (base.length + 1)) = seasL := e2
      have t1 : markL many start k = seaL.take (markL many start k).length := by rw [← e1, List.take_left']; rfl
      have t2 : markL many start j = seasL.take (markL many start j).length := by rw [← e2, List.take_left']; rfl
      rw [t1, t2, ← hl, markL_len]
      split <;> rfl
    · have q := shape_len (base := base) (k := k) (j := j) hl hs
      rw [e1, e2] at q
      exact absurd q (by decide)
  unfold fixL at h
  by_cases c1 : shapeL base (markL many start k) k s = seaL
  · rw [if_pos c1] at h
    by_cases c2 : shapeL base (markL many start j) j s = seaL
    · exact shape_mark hl (c1.trans c2.symm)
    · rw [if_neg c2] at h
      exact mixed c1 h.symm
  · rw [if_neg c1] at h
    by_cases c2 : shapeL base (markL many start j) j s = seaL
    · rw [if_pos c2] at h
      exact (mixed c2 h).symm
    · rw [if_neg c2] at h
      exact shape_mark hl h
theorem fix_inj {base : List Nat} {many start k j s : Nat} (hm : many ≤ 52) (hk : k < many) (hj : j < many) (h : fixL (shapeL base (markL many start k) k s) = fixL (shapeL base (markL many start j) j s)) : k = j :=
  markL_inj hm hk hj (fix_mark h)
theorem fix_ne (l : List Nat) : fixL l ≠ seaL := by
  unfold fixL
  split
  · decide
  · assumption
theorem shape_low {base mark : List Nat} {k s : Nat} (hb : ∀ c ∈ base, Low c) (hm : ∀ c ∈ mark, Low c) : ∀ c ∈ shapeL base mark k s, Low c := by
  have app : ∀ {a b : List Nat}, (∀ c ∈ a, Low c) → (∀ c ∈ b, Low c) → ∀ c ∈ a ++ b, Low c := fun h1 h2 c hc => (List.mem_append.mp hc).elim (h1 c) (h2 c)
  match s with
  | 0 => exact app hb hm
  | 1 => exact app hm hb
  | 2 => exact app hm fun c hc => hb c (List.mem_of_mem_take hc)
  | s + 3 => exact app (app (fun c hc => hb c (List.mem_of_mem_take hc)) hm) fun c hc => hb c (List.mem_of_mem_drop hc)
theorem shape_size {base mark : List Nat} {k s : Nat} (hb : base.length ≤ 6) (hm : 1 ≤ mark.length ∧ mark.length ≤ 2) : 1 ≤ (shapeL base mark k s).length ∧ (shapeL base mark k s).length ≤ 8 := by
  match s with
  | 0 => simp only [shapeL, List.length_append]; omega
  | 1 => simp only [shapeL, List.length_append]; omega
  | 2 => simp only [shapeL, List.length_append, List.length_take]; omega
  | s + 3 => simp only [shapeL, List.length_append, List.length_take, List.length_drop]; omega
theorem fix_low {l : List Nat} (h : ∀ c ∈ l, Low c) : ∀ c ∈ fixL l, Low c := by
  unfold fixL
  split
  · intro c hc
    have : c = 115 ∨ c = 101 ∨ c = 97 ∨ c = 115 := by simpa [seasL] using hc
    constructor <;> omega
  · exact h
theorem fix_size {l : List Nat} (h : 1 ≤ l.length ∧ l.length ≤ 8) : 1 ≤ (fixL l).length ∧ (fixL l).length ≤ 8 := by
  unfold fixL
  split
  · decide
  · exact h
/-! ### no name goes on from another one -/
theorem fix_take {l : List Nat} {n : Nat} (h : n ≤ 2) : (fixL l).take n = l.take n := by
  unfold fixL
  split
  · rename_i e
    subst e
    match n, h with
    | 0, _ => rfl
    | 1, _ => rfl
    | 2, _ => rfl
  · rfl
theorem fix_len (l : List Nat) : l.length ≤ (fixL l).length := by
  unfold fixL
  split
  · rename_i e
    subst e
    decide
  · exact Nat.le_refl _
theorem fix_on {base t : List Nat} {many start i j s : Nat} (hm : many ≤ 52) (hi : i < many) (hj : j < many) (ht : t ≠ []) (h1 : ∀ l, seasL = l ++ t → l.length = 3 → False)
    (h : fixL (shapeL base (markL many start j) j s) = fixL (shapeL base (markL many start i) i s) ++ t) : False := by
  have hl : (markL many start i).length = (markL many start j).length := by rw [markL_len, markL_len]
  have hmu : 1 ≤ (markL many start i).length ∧ (markL many start i).length ≤ 2 := by
    rw [markL_len]
    split <;> omega
  by_cases hs : s = 2
  · subst hs
    have e1 : (fixL (shapeL base (markL many start j) j 2)).take (markL many start j).length = markL many start j := by
      rw [fix_take (by omega)]
      exact List.take_left
    have e2 : (fixL (shapeL base (markL many start i) i 2)).take (markL many start i).length = markL many start i := by
      rw [fix_take (by omega)]
      exact List.take_left
    have hz : (markL many start i).length ≤ (fixL (shapeL base (markL many start i) i 2)).length := by
      refine Nat.le_trans ?_ (fix_len _)
      show _ ≤ (markL many start i ++ base.take (i % (base.length + 1))).length
      rw [List.length_append]
      omega
    have e3 : markL many start j = markL many start i := by
      rw [← e1, h, ← hl, List.take_append_of_le_length hz, e2]
    have e4 := markL_inj hm hj hi e3
    subst e4
    have := congrArg List.length h
    rw [List.length_append] at this
    exact ht (List.eq_nil_of_length_eq_zero (by omega))
  · have q := shape_len (base := base) (k := i) (j := j) hl hs
    have ht1 : 1 ≤ t.length := by
      cases t with
      | nil => exact absurd rfl ht
      | cons _ _ => rw [List.length_cons]; omega
    have hL := congrArg List.length h
    rw [List.length_append] at hL
    have hi2 := fix_len (shapeL base (markL many start i) i s)
    by_cases c : shapeL base (markL many start j) j s = seaL
    · have e1 : fixL (shapeL base (markL many start j) j s) = seasL := by unfold fixL; rw [if_pos c]
      rw [c] at q
      rw [e1] at hL h
      have q3 : seaL.length = 3 := rfl
      have q4 : seasL.length = 4 := rfl
      exact h1 _ h (by omega)
    · have e1 : fixL (shapeL base (markL many start j) j s) = shapeL base (markL many start j) j s := by unfold fixL; rw [if_neg c]
      rw [e1] at hL
      omega
theorem fix_q {base : List Nat} {many start i j s : Nat} (hm : many ≤ 52) (hi : i < many) (hj : j < many) : fixL (shapeL base (markL many start j) j s) ≠ fixL (shapeL base (markL many start i) i s) ++ [113] := fun h =>
  fix_on hm hi hj (by decide) (fun l e _ => by
    have := congrArg List.getLast? e
    rw [List.getLast?_append] at this
    have h2 : seasL.getLast? = some 113 := by rw [this]; rfl
    exact absurd h2 (by decide)) h
theorem fix_dd {base : List Nat} {many start i j s : Nat} (hm : many ≤ 52) (hi : i < many) (hj : j < many) : fixL (shapeL base (markL many start j) j s) ≠ fixL (shapeL base (markL many start i) i s) ++ fixL (shapeL base (markL many start i) i s) := fun h => by
  have hmu : 1 ≤ (markL many start i).length := by
    rw [markL_len]
    split <;> omega
  have hge : ∀ k, 1 ≤ (markL many start k).length → 1 ≤ (shapeL base (markL many start k) k s).length := fun k hk => by
    match s with
    | 0 => simp only [shapeL, List.length_append]; omega
    | 1 => simp only [shapeL, List.length_append]; omega
    | 2 => simp only [shapeL, List.length_append, List.length_take]; omega
    | s + 3 => simp only [shapeL, List.length_append, List.length_take, List.length_drop]; omega
  have h1 := Nat.le_trans (hge i hmu) (fix_len _)
  refine fix_on hm hi hj (fun z => by rw [z] at h1; exact absurd h1 (by decide)) (fun l e hl => ?_) h
  have e1 := congrArg List.length e
  rw [List.length_append, hl] at e1
  have q4 : seasL.length = 4 := rfl
  rw [q4] at e1
  have e2 := congrArg List.length h
  rw [List.length_append] at e2
  have e3 : (fixL (shapeL base (markL many start i) i s)).length = 1 := by omega
  have e4 : (fixL (shapeL base (markL many start j) j s)).length = 2 := by omega
  have hl2 : (markL many start i).length = (markL many start j).length := by rw [markL_len, markL_len]
  by_cases hs : s = 2
  · subst hs
    have f1 : (fixL (shapeL base (markL many start j) j 2)).take (markL many start j).length = markL many start j := by
      rw [fix_take (by rw [markL_len]; split <;> omega)]
      exact List.take_left
    have f2 : (fixL (shapeL base (markL many start i) i 2)).take (markL many start i).length = markL many start i := by
      rw [fix_take (by rw [markL_len]; split <;> omega)]
      exact List.take_left
    have hz : (markL many start i).length ≤ (fixL (shapeL base (markL many start i) i 2)).length := by
      refine Nat.le_trans ?_ (fix_len _)
      show _ ≤ (markL many start i ++ base.take (i % (base.length + 1))).length
      rw [List.length_append]
      omega
    have f3 : markL many start j = markL many start i := by
      rw [← f1, h, ← hl2, List.take_append_of_le_length hz, f2]
    have f4 := markL_inj hm hj hi f3
    subst f4
    omega
  · have q := shape_len (base := base) (k := i) (j := j) hl2 hs
    have g1 := fix_len (shapeL base (markL many start i) i s)
    unfold fixL at e4
    split at e4
    · revert e4
      decide
    · omega
end K0
end

/-! ## K0N -/
section
set_option Elab.async false
set_option linter.all false
set_option maxRecDepth 100000
namespace K0
open PySem PySem.Spec PyProof.Rows L2
abbrev scNames_N : List Str := ["_law_bag_here", "_law_many", "_law_letters", "_law_base", "_law_start", "_law_shape", "_law_found", "_law_k", "_law_mark", "_law_some"]
abbrev scNames_S : Stmt := sNames
theorem scNames : FnScope scNames_N ["_law_bag_here", "_law_many"] (defScope sNames) := ⟨rfl, rfl, rfl, by decide +kernel, rfl, by decide +kernel, by decide +kernel⟩
/-- a list of unlike good names -/
structure NamesOk (ns : List Str) : Prop where
  ok : ∀ x ∈ ns, NameOk x
  sea : ∀ x ∈ ns, x ≠ "sea"
  nd : ns.Nodup
  qq : ∀ x ∈ ns, (x ++ ("q" : Str)) ∉ ns
  dd : ∀ x ∈ ns, (x ++ x) ∉ ns
def spNames : Sp := fun vs H Q _ => ∃ (p : Addr) (m : Nat), vs = [.ref p, .int (m : Int)] ∧ BagAt H p ∧ 1 ≤ m ∧ m ≤ 52 ∧
  ∀ (H' : Hp) (l : Addr) (ns : List Str), Upto p H H' → BagAt H' p → H l = none → l ≠ p → H' l = some (.lst (ns.map V.str)) → ns.length = m → NamesOk ns → Q (.ref l) H'
theorem split_if' {α : Type} {R C : α → Prop} {G : Prop} (use : (∀ c, R c → C c) → G) (key : ∀ c, R c → C c) : G := use key
/-! ### texts -/
abbrev lettersT : Str := "abcdefghijklmnopqrstuvwxyz"
theorem letters_at : ∀ i : Nat, i < 26 → lettersT.cps[i]? = some (97 + i) := by decide +kernel
theorem letters_len : lettersT.length = 26 := by decide +kernel
theorem sea_list : ("sea" : Str).cps.toList = seaL := by decide +kernel
theorem seas_list : ("seas" : Str).cps.toList = seasL := by decide +kernel
theorem empty_list : ("" : Str).cps.toList = [] := by decide +kernel
def ofL (l : List Nat) : Str := ⟨l.toArray⟩
theorem ofL_list (l : List Nat) : (ofL l).cps.toList = l := rfl
theorem len_list (x : Str) : x.length = x.cps.toList.length := Array.length_toList.symm
theorem ofL_of (x : Str) : ofL x.cps.toList = x := str_ext rfl
theorem join_empty : ∀ cs : List Nat, (Str.join "" (cs.map fun c => ofL [c])).cps.toList = cs
  | [] => by decide +kernel
  | [c] => rfl
  | c :: d :: r => by
    have ih := join_empty (d :: r)
    show (ofL [c] ++ ("" : Str) ++ Str.join "" ((d :: r).map fun c => ofL [c])).cps.toList = c :: d :: r
    rw [app_list, app_list, empty_list, ih]
    rfl
theorem sum_ones (cs : List Nat) : ((cs.map fun c => ofL [c]).map (·.length)).sum = cs.length := by
  induction cs with
  | nil => rfl
  | cons c r ih =>
    rw [List.map_cons, List.map_cons, List.sum_cons, ih, List.length_cons]
    show 1 + r.length = r.length + 1
    omega
theorem cutS_take (z : Str) (n : Nat) : (cutS z none (some (n : Int))).cps.toList = z.cps.toList.take n := by
  unfold cutS
  rw [HT.sIx_none, HT.sIx_nat]
  show (z.cps.toList.drop 0).take (min n z.length - 0) = z.cps.toList.take n
  rw [List.drop_zero, Nat.sub_zero, len_list]
  exact (List.take_eq_take_min ..).symm
theorem cutS_drop (z : Str) (n : Nat) : (cutS z (some (n : Int)) none).cps.toList = z.cps.toList.drop n := by
  unfold cutS
  rw [HT.sIx_none, HT.sIx_nat]
  show (z.cps.toList.drop (min n z.length)).take (z.length - min n z.length) = z.cps.toList.drop n
  rw [len_list]
  by_cases h : n ≤ z.cps.toList.length
  · rw [Nat.min_eq_left h]
    exact List.take_of_length_le (by rw [List.length_drop]; omega)
  · rw [Nat.min_eq_right (by omega), Nat.sub_self, List.drop_of_length_le (Nat.le_refl _), List.drop_of_length_le (by omega)]
    rfl
theorem nodup_range {α : Type} (f : Nat → α) (m : Nat) (h : ∀ i j, i < m → j < m → f i = f j → i = j) : ((List.range m).map f).Nodup := by
  rw [List.Nodup, List.pairwise_map]
  refine List.Pairwise.imp_of_mem (fun {a b} ha hb hab e => hab (h a b (List.mem_range.mp ha) (List.mem_range.mp hb) e)) (List.nodup_range (n := m))
theorem ofL_inj {a b : List Nat} (h : ofL a = ofL b) : a = b := by
  have := congrArg (fun z : Str => z.cps.toList) h
  exact this
theorem names_ok {base : List Nat} {m st sh : Nat} (hb1 : ∀ c ∈ base, Low c) (hb2 : base.length ≤ 6) (hm2 : m ≤ 52) : NamesOk ((List.range m).map fun k => ofL (fixL (shapeL base (markL m st k) k sh))) := by
  refine ⟨?_, ?_, ?_, ?_, ?_⟩
  · intro x hx
    obtain ⟨j, hj, rfl⟩ := List.mem_map.mp hx
    have hj := List.mem_range.mp hj
    have h1 := markL_low (start := st) hm2 hj
    have h2 : 1 ≤ (markL m st j).length ∧ (markL m st j).length ≤ 2 := by
      rw [markL_len]
      split <;> omega
    have h3 := fix_size (shape_size (k := j) (s := sh) hb2 h2)
    exact ⟨h3.1, h3.2, fix_low (shape_low hb1 h1)⟩
  · intro x hx e
    obtain ⟨j, hj, rfl⟩ := List.mem_map.mp hx
    have q : (ofL (fixL (shapeL base (markL m st j) j sh))).cps.toList = seaL := by rw [e]; exact sea_list
    exact fix_ne _ q
  · refine nodup_range _ _ fun i j hi hj e => ?_
    exact fix_inj hm2 hi hj (ofL_inj e)
  · intro x hx hq
    obtain ⟨i, hi, rfl⟩ := List.mem_map.mp hx
    obtain ⟨j, hj, e⟩ := List.mem_map.mp hq
    have e2 := congrArg (fun z : Str => z.cps.toList) e
    have e3 : (ofL (fixL (shapeL base (markL m st i) i sh)) ++ ("q" : Str)).cps.toList = fixL (shapeL base (markL m st i) i sh) ++ [113] := by
      rw [app_list]
      rfl
    exact fix_q hm2 (List.mem_range.mp hi) (List.mem_range.mp hj) (e2.trans e3)
  · intro x hx hq
    obtain ⟨i, hi, rfl⟩ := List.mem_map.mp hx
    obtain ⟨j, hj, e⟩ := List.mem_map.mp hq
    have e2 := congrArg (fun z : Str => z.cps.toList) e
    have e3 : (ofL (fixL (shapeL base (markL m st i) i sh)) ++ ofL (fixL (shapeL base (markL m st i) i sh))).cps.toList = fixL (shapeL base (markL m st i) i sh) ++ fixL (shapeL base (markL m st i) i sh) := by
      rw [app_list]
      rfl
    exact fix_dd hm2 (List.mem_range.mp hi) (List.mem_range.mp hj) (e2.trans e3)
section
variable {P : Program} {w : World} {K : PySem.W.Frag} {mg : Str → Option Value} {base : Heap}
theorem ok_names {f fT fO : Addr} {fd fdT fdO : FuncData} (F : FnP K "_law_names" sNames f fd) (F_law_take : FnP K "_law_take" sTake fT fdT) (F_law_of : FnP K "_law_of" sOf fO fdO) (B : Bl mg) (g_law_take : mg "_law_take" = some (.ref fT)) (g_law_of : mg "_law_of" = some (.ref fO)) :
    FnOk P w K mg base CX0 3 f fd ["_law_bag_here", "_law_many"] spNames := by
  have G_law_take : FnOk P w K mg base CX0 1 fT fdT ["_law_bag_here", "_law_many"] spTake := ok_take F_law_take B
  have b_law_take : Binds K fdT ["_law_bag_here", "_law_many"] [] := F_law_take.bindsN fun _ _ _ _ _ _ us hl => match us, hl with | [_, _], _ => rfl
  have G_law_of : FnOk P w K mg base CX0 2 fO fdO ["_law_bag_here", "_law_some"] (spOf K) := ok_of F_law_of F_law_take B g_law_take
  have b_law_of : Binds K fdO ["_law_bag_here", "_law_some"] [] := F_law_of.bindsN fun _ _ _ _ _ _ us hl => match us, hl with | [_, _], _ => rfl
  refine F.ok scNames (fun vs H Q E h => ?_) (fun cdv A outer s H vs Q E hr h => ?_)
  · obtain ⟨p, m, rfl, _⟩ := h
    rfl
  · obtain ⟨p, m, rfl, hB, hm1, hm2, k⟩ := h
    have hr_law_take : Room 1 _ := hr.mono (by decide)
    have hr_law_of : Room 2 _ := hr.mono (by decide)
    refine ⟨_, PSs.nox (pss_cons
      (ps_set (i := 2) scNames.nd rfl (Or.inr rfl) pe_str)
      (pss_cons
      (ps_set (i := 3) scNames.nd rfl (Or.inl rfl) (pe_join pe_str (pe_lc (own := [("_law_k", 7)]) (g := gName 7) (tt := tYes) (by rfl) scNames.nd (pi_range1 (by rfl) B.range (pa_cons (pe_call G_law_of hr_law_of (by rfl) g_law_of F_law_of.kp b_law_of .nil pass0 (pa_cons (pv 0) (pa_cons (pe_lst (pa_cons pe_int (pa_cons pe_int (pa_cons pe_int (pa_cons pe_int (pa_cons pe_int pa_nil)))))) pa_nil))) pa_nil)) (blkOk_by (own := [("_law_k", 7)]) (N := scNames_N) (sc := defScope scNames_S) (by decide +kernel)) (fun _ _ _ _ _ => (pg_name (i := 7) scNames.nd rfl (Or.inl rfl))) (fun _ _ _ _ _ => pts_nil) (fun _ _ _ _ _ => (pe_item_str (pv 2) (pe_call G_law_take hr_law_take (by rfl) g_law_take F_law_take.kp b_law_take .nil pass0 (pa_cons (pv 0) (pa_cons pe_int pa_nil))) (fun _ _ => rfl))))))
      (pss_cons
      (ps_par (i := 4) (j := 5) (by rfl) scNames.nd rfl rfl (by decide) rfl rfl (pa_cons (pe_call G_law_take hr_law_take (by rfl) g_law_take F_law_take.kp b_law_take .nil pass0 (pa_cons (pv 0) (pa_cons pe_int pa_nil))) (pa_cons (pe_call G_law_take hr_law_take (by rfl) g_law_take F_law_take.kp b_law_take .nil pass0 (pa_cons (pv 0) (pa_cons pe_int pa_nil))) pa_nil)) (by rfl))
      (pss_cons
      (ps_set (i := 6) scNames.nd rfl (Or.inl rfl) (pe_lst pa_nil))
      (pss_cons
      (ps_for PassesOwn.never rfl (pi_range1 (by rfl) B.range (pa_cons (pv 1) pa_nil)) (pg_name (i := 7) scNames.nd rfl (Or.inl rfl)) (pss_cons
      (ps_set (i := 8) scNames.nd rfl (Or.inl rfl) (pe_op op_add_str (pe_item_str (pv 2) (pe_op op_mod (pe_op op_add (pv 4) (pe_op op_mul pe_int (pv 7))) pe_int) (fun _ _ => rfl)) (pe_ifExp (pt_cmpR op_gt (pv 1) pe_int (nomark _)) (pe_item_str (pv 2) (pe_op op_fdiv (pv 7) pe_int) (fun _ _ => rfl)) pe_str)))
      (pss_cons
      (ps_set (i := 9) scNames.nd rfl (Or.inl rfl) (pe_lst (pa_cons (pe_op op_add_str (pv 3) (pv 8)) (pa_cons (pe_op op_add_str (pv 8) (pv 3)) (pa_cons (pe_op op_add_str (pv 8) (pe_slice sl_str (pv 3) po_none (po_some (pe_op op_mod (pv 7) (pe_op op_add (pe_callB call_len_str (by rfl) B.len PySem.boot_len (pa_cons (pv 3) pa_nil)) pe_int))))) (pa_cons (pe_op op_add_str (pe_op op_add_str (pe_slice sl_str (pv 3) po_none (po_some pe_int)) (pv 8)) (pe_slice sl_str (pv 3) (po_some pe_int) po_none)) pa_nil))))))
      (pss_one
      (ps_expr (pe_bm PySem.F.plainAttrs_list PySem.F.slot_list_append PySem.F.type_list_append mt_append (pv 6) (pa_cons (pe_ifExp (pt_cmpR op_eq (pe_ix ix_list (pv 9) (pv 5) (fun _ _ => rfl)) pe_str (nomark _)) pe_str (pe_ix ix_list (pv 9) (pv 5) (fun _ _ => rfl))) pa_nil)))))))
      (pss_one
      (ps_ret (pv 6)))))))), ?_⟩
    obtain ⟨b0, hb0, hv0⟩ := id hB
    refine ⟨⟨_, rfl⟩, _, rfl, by show 5 ≤ sizeLine; decide, fun q nq => ?_⟩
    have npq : p ≠ q := ne_of_none hb0 nq
    refine ⟨p, q, [.int 0, .int 0, .int 1, .int 2, .int 6], rfl, ⟨b0, by rw [upd_ne npq]; exact hb0, hv0⟩, npq.symm, .inl (.inl upd_same), by decide, by decide, fun i0 v b1 hv hx1 => ?_⟩
    obtain ⟨n, hn6, rfl⟩ : ∃ n : Nat, n ≤ 6 ∧ v = V.int (n : Int) := by
      have hm : v ∈ ([.int 0, .int 0, .int 1, .int 2, .int 6] : List V) := List.mem_of_getElem? hv
      simp only [List.mem_cons, List.not_mem_nil, or_false] at hm
      rcases hm with rfl | rfl | rfl | rfl | rfl
      · exact ⟨0, by omega, rfl⟩
      · exact ⟨0, by omega, rfl⟩
      · exact ⟨1, by omega, rfl⟩
      · exact ⟨2, by omega, rfl⟩
      · exact ⟨6, by omega, rfl⟩
    refine ⟨(n : Int), rfl, by omega, by omega, fun D hD => ?_⟩
    have u1 : Upto p H (upd (upd H q (.lst [.int 0, .int 0, .int 1, .int 2, .int 6])) p (.lst b1)) := (Upto.of (same_upd nq)).trans Upto.at_
    have npD : p ≠ D := fun e => by
      rw [← e, upd_same] at hD
      cases hD
    refine lc_range (lo := 0) (n := ((n : Int) - 0).toNat) (fun i H2 => Upto p H H2 ∧ BagAt H2 p ∧ ∃ cs : List Nat, cs.length = i ∧ (∀ c ∈ cs, Low c) ∧ H2 D = some (.lst (cs.map fun c => V.str (ofL [c])))) ?_ ?_ ?_
    · exact ⟨u1.trans (Upto.of (same_upd hD)), ⟨b1, by rw [upd_ne npD, upd_same], hx1⟩, [], rfl, (fun c hc => nomatch hc), upd_same⟩
    · rintro i H2 hi ⟨u2, B2, cs, hl, hlow, hD2⟩
      have nlp : p ≠ D := npD
      refine ⟨rfl, ?_⟩
      unfold tYes
      refine iteT ?_
      refine ⟨_, rfl, _, rfl, p, 26, rfl, B2, by decide, by decide, fun r xs hr0 hr1 hx => ?_⟩
      have hrn : r.toNat < 26 := by omega
      refine ⟨lettersT, r, 97 + r.toNat, rfl, rfl, hr0, by omega, by rw [letters_len]; omega, letters_at _ hrn, ?_⟩
      refine ⟨cs.map fun c => V.str (ofL [c]), by rw [upd_ne npD.symm]; exact hD2, ?_, ?_, ?_, cs ++ [97 + r.toNat], ?_, ?_, ?_⟩
      · rw [List.length_map]
        exact small1000 (by omega)
      · intro b o hb hn
        have hbD : b ≠ D := by
          intro e
          have hh : (upd (upd H q (.lst [.int 0, .int 0, .int 1, .int 2, .int 6])) p (.lst b1)) b = some o := u1 b o hb hn
          rw [e, hD] at hh
          cases hh
        rw [upd_ne hbD, upd_ne hn]
        exact u2 b o hb hn
      · exact ⟨xs, by rw [upd_ne npD, upd_same], hx⟩
      · rw [List.length_append, hl]
        rfl
      · intro c hc
        rcases List.mem_append.mp hc with h | h
        · exact hlow c h
        · rw [List.mem_singleton.mp h]
          constructor <;> omega
      · rw [upd_same, List.map_append]
        rfl
    · rintro H2 ⟨u2, B2, cs, hl, hlow, hD2⟩
      have hl6 : cs.length ≤ 6 := by omega
      have hmap : (cs.map fun c => V.str (ofL [c])) = (cs.map fun c => ofL [c]).map V.str := by
        rw [List.map_map]
        rfl
      refine ⟨"", D, cs.map fun c => ofL [c], rfl, rfl, .inl (.inl (.inl (by rw [← hmap]; exact hD2))), ?_, ?_⟩
      · rw [sum_ones, List.length_map, show ("" : Str).length = 0 from rfl]
        omega
      · rw [TL.join_eq]
        generalize hbase : Str.join "" (cs.map fun c => ofL [c]) = base
        have hbl : base.cps.toList = cs := by rw [← hbase]; exact join_empty cs
        have hb1 : ∀ c ∈ base.cps.toList, Low c := by rw [hbl]; exact hlow
        have hb2 : base.cps.toList.length ≤ 6 := by rw [hbl]; exact hl6
        have hbz : base.length ≤ 6 := by rw [len_list]; exact hb2
        clear hbase hmap hbl hl6 hlow hl hD2 cs
        -- start, shape
        refine ⟨_, rfl, p, 26, rfl, B2, by decide, by decide, fun r1 xs1 hr10 hr11 hx1 => ?_⟩
        refine ⟨_, rfl, p, 4, rfl, ⟨xs1, upd_same, hx1⟩, by decide, by decide, fun r2 xs2 hr20 hr21 hx2 => ?_⟩
        obtain ⟨st, rfl⟩ : ∃ st : Nat, r1 = (st : Int) := ⟨r1.toNat, by omega⟩
        obtain ⟨sh, rfl⟩ : ∃ sh : Nat, r2 = (sh : Int) := ⟨r2.toNat, by omega⟩
        have hsh : sh < 4 := by omega
        refine ⟨_, _, rfl, Nat.zero_le _, fun l nl => ?_⟩
        have npl : p ≠ l := fun e => by
          rw [← e, upd_same] at nl
          cases nl
        have u3 : Upto p H (upd (upd H2 p (.lst xs1)) p (.lst xs2)) := (u2.trans Upto.at_).trans Upto.at_
        have nlH : H l = none := by
          cases e : H l with
          | none => rfl
          | some o =>
            rw [u3 l o e npl.symm] at nl
            cases nl
        refine ⟨_, rfl, (m : Int), rfl, by omega, by omega, ?_⟩
        refine for_range (lo := 0) (n := ((m : Int) - 0).toNat) (fun i σ H3 => ∃ (v7 v8 v9 : Option V), σ = [some (.ref p), some (.int (m : Int)), some (.str lettersT), some (.str base), some (.int (st : Int)), some (.int (sh : Int)), some (.ref l), v7, v8, v9] ∧
            Upto p H H3 ∧ BagAt H3 p ∧ H3 l = some (.lst (((List.range i).map fun k => ofL (fixL (shapeL base.cps.toList (markL m st k) k sh))).map V.str))) ?_ ?_ ?_
        · refine ⟨_, _, _, rfl, u3.trans (Upto.of (same_upd nl)), ⟨xs2, by rw [upd_ne npl, upd_same], hx2⟩, upd_same⟩
        · rintro i σ H3 hi ⟨v7, v8, v9, rfl, u4, B4, hl4⟩
          have him : i < m := by omega
          have hmod : (st + 5 * i) % 26 < 26 := Nat.mod_lt _ (by decide)
          refine ⟨_, rfl, _, rfl, _, rfl, 5, _, rfl, rfl, .inl ⟨by decide, by decide⟩, _, _, rfl, rfl, _, _, rfl, rfl, (by show (0 : Int) < 26; decide), ?_⟩
          refine ⟨lettersT, _, 97 + (st + 5 * i) % 26, rfl, rfl, by omega, by omega, by rw [letters_len]; omega, ?_, ?_⟩
          · rw [show (((st : Int) + 5 * (0 + (i : Int))) % 26).toNat = (st + 5 * i) % 26 by omega]
            exact letters_at _ hmod
          refine ⟨_, rfl, (m : Int), 26, rfl, rfl, _, rfl, ?_⟩
          refine split_if' (α := Str) (R := fun t => t.cps.toList = if 26 < m then [97 + i / 26] else []) (C := ?C) ?use ?key
          case use =>
            intro key
            refine ite2 (fun hc => ?_) (fun hc => ?_)
            · have hc := of_decide_eq_true hc
              have hc' : 26 < m := by omega
              refine ⟨_, rfl, _, rfl, _, 26, rfl, rfl, ⟨by decide, by decide⟩, ?_⟩
              refine ⟨lettersT, _, 97 + i / 26, rfl, rfl, by omega, by omega, by rw [letters_len]; omega, ?_, ?_⟩
              · rw [show ((0 + (i : Int)) / 26).toNat = i / 26 by omega]
                exact letters_at _ (by omega)
              · have hh : (⟨#[97 + i / 26]⟩ : Str).cps.toList = if 26 < m then [97 + i / 26] else [] := by rw [if_pos hc']
                generalize (⟨#[97 + i / 26]⟩ : Str) = t at hh
                exact key t hh
            · have hc' : ¬ 26 < m := fun z => hc (decide_eq_true (by omega))
              exact key "" (by rw [if_neg hc', empty_list])
          case key =>
            intro t ht
            have hml : ((⟨#[97 + (st + 5 * i) % 26]⟩ : Str) ++ t).cps.toList = markL m st i := by
              rw [app_list, ht]
              rfl
            have htl : t.length ≤ 1 := by
              rw [len_list, ht]
              split <;> simp
            refine ⟨_, _, rfl, rfl, ?_, ?_⟩
            · show 1 + t.length ≤ sizeLine
              exact Nat.le_of_lt (small1000 (by omega))
            generalize (⟨#[97 + (st + 5 * i) % 26]⟩ : Str) ++ t = mark at hml
            have hmz : mark.length ≤ 2 := by
              rw [len_list, hml, markL_len]
              split <;> omega
            -- the four texts
            have z1 : base.length + mark.length ≤ sizeLine := Nat.le_of_lt (small1000 (by omega))
            have z2 : mark.length + base.length ≤ sizeLine := Nat.le_of_lt (small1000 (by omega))
            have ek : (0 + (i : Int)) % ((base.length : Int) + 1) = ((i % (base.length + 1) : Nat) : Int) := by
              rw [Int.zero_add]
              exact (Int.natCast_emod i (base.length + 1)).symm
            have zc : ∀ a b : Option Int, (cutS base a b).length ≤ 6 := fun a b => Nat.le_trans (cutS_length base a b) hbz
            refine ⟨_, rfl, _, rfl, _, _, rfl, rfl, z1, _, rfl, _, rfl, _, _, rfl, rfl, z2, ?_⟩
            refine ⟨_, rfl, _, rfl, _, rfl, _, rfl, _, rfl, Nat.le_of_lt (small1000 (by omega)), _, _, rfl, rfl, _, _, rfl, rfl, (by show (0 : Int) < (base.length : Int) + 1; omega), _, rfl, base, rfl, Nat.le_of_lt (small1000 (by omega)), _, _, rfl, rfl, ?_, ?_⟩
            · have := zc none (some ((0 + (i : Int)) % ((base.length : Int) + 1)))
              exact Nat.le_of_lt (small1000 (by omega))
            have c1 := zc none (some 1)
            have c2 := zc (some 1) none
            have c3 : (cutS base none (some 1) ++ mark).length ≤ 8 := by
              rw [strLen_append]
              omega
            refine ⟨_, rfl, 1, rfl, base, rfl, Nat.le_of_lt (small1000 (by omega)), _, rfl, _, _, rfl, rfl, Nat.le_of_lt (small1000 (by omega)), _, rfl, 1, rfl, base, rfl, Nat.le_of_lt (small1000 (by omega)), _, _, rfl, rfl, Nat.le_of_lt (small1000 (by omega)), by show 4 ≤ sizeLine; decide, fun q2 nq2 => ?_⟩
            have e0 : base ++ mark = ofL (shapeL base.cps.toList mark.cps.toList i 0) := str_ext (by rw [app_list, ofL_list]; rfl)
            have e1 : mark ++ base = ofL (shapeL base.cps.toList mark.cps.toList i 1) := str_ext (by rw [app_list, ofL_list]; rfl)
            have e2 : mark ++ cutS base none (some ((0 + (i : Int)) % ((base.length : Int) + 1))) = ofL (shapeL base.cps.toList mark.cps.toList i 2) := str_ext (by
              rw [app_list, ofL_list, ek, cutS_take, len_list]
              rfl)
            have e3 : cutS base none (some 1) ++ mark ++ cutS base (some 1) none = ofL (shapeL base.cps.toList mark.cps.toList i 3) := str_ext (by
              rw [app_list, app_list, ofL_list, show (1 : Int) = ((1 : Nat) : Int) from rfl, cutS_take, cutS_drop]
              rfl)
            have hat : ([V.str (base ++ mark), V.str (mark ++ base), V.str (mark ++ cutS base none (some ((0 + (i : Int)) % ((base.length : Int) + 1)))), V.str (cutS base none (some 1) ++ mark ++ cutS base (some 1) none)] : List V)[sh]? = some (V.str (ofL (shapeL base.cps.toList mark.cps.toList i sh))) := by
              rw [e0, e1, e2, e3]
              match sh, hsh with
              | 0, _ => rfl
              | 1, _ => rfl
              | 2, _ => rfl
              | 3, _ => rfl
            have nlq : l ≠ q2 := ne_of_none hl4 nq2
            generalize ([V.str (base ++ mark), V.str (mark ++ base), V.str (mark ++ cutS base none (some ((0 + (i : Int)) % ((base.length : Int) + 1)))), V.str (cutS base none (some 1) ++ mark ++ cutS base (some 1) none)] : List V) = four at hat
            rw [hml] at hat
            have hl5 : (upd H3 q2 (.lst four)) l = some (.lst (((List.range i).map fun k => ofL (fixL (shapeL base.cps.toList (markL m st k) k sh))).map V.str)) := by
              rw [upd_ne nlq]
              exact hl4
            have u5 : Upto p H (upd H3 q2 (.lst four)) := u4.trans (Upto.of (same_upd nq2))
            have B5 : BagAt (upd H3 q2 (.lst four)) p := by
              obtain ⟨b, hb, hv⟩ := B4
              exact ⟨b, by rw [upd_ne (ne_of_none hb nq2)]; exact hb, hv⟩
            refine ⟨_, rfl, .inl ⟨rfl, _, .inl (.inl hl5)⟩, ?_⟩
            refine ⟨_, rfl, _, rfl, q2, _, _, _, rfl, rfl, .inl (.inl upd_same), atI_nat hat, rfl, _, rfl, ?_⟩
            have more : (((List.range i).map fun k => ofL (fixL (shapeL base.cps.toList (markL m st k) k sh))).map V.str) ++ [V.str (ofL (fixL (shapeL base.cps.toList (markL m st i) i sh)))] = ((List.range (i + 1)).map fun k => ofL (fixL (shapeL base.cps.toList (markL m st k) k sh))).map V.str := by
              rw [List.range_succ, List.map_append, List.map_append]
              rfl
            have fin : ∀ y : Str, y = ofL (fixL (shapeL base.cps.toList (markL m st i) i sh)) → Upto p H (upd (upd H3 q2 (.lst four)) l (.lst ((((List.range i).map fun k => ofL (fixL (shapeL base.cps.toList (markL m st k) k sh))).map V.str) ++ [V.str y]))) ∧
                BagAt (upd (upd H3 q2 (.lst four)) l (.lst ((((List.range i).map fun k => ofL (fixL (shapeL base.cps.toList (markL m st k) k sh))).map V.str) ++ [V.str y]))) p ∧
                (upd (upd H3 q2 (.lst four)) l (.lst ((((List.range i).map fun k => ofL (fixL (shapeL base.cps.toList (markL m st k) k sh))).map V.str) ++ [V.str y]))) l = some (.lst (((List.range (i + 1)).map fun k => ofL (fixL (shapeL base.cps.toList (markL m st k) k sh))).map V.str)) := by
              rintro y rfl
              refine ⟨?_, ?_, ?_⟩
              · intro b o hb hn
                rw [upd_ne (ne_of_none hb nlH)]
                exact u5 b o hb hn
              · obtain ⟨b, hb, hv⟩ := B5
                exact ⟨b, by rw [upd_ne npl]; exact hb, hv⟩
              · rw [upd_same, more]
            have sz : (((List.range i).map fun k => ofL (fixL (shapeL base.cps.toList (markL m st k) k sh))).map V.str).length < sizeLine := by
              rw [List.length_map, List.length_map, List.length_range]
              exact small1000 (by omega)
            refine ite2 (fun hc => ?_) (fun hc => ?_)
            · have hc := of_decide_eq_true hc
              have hc : ofL (shapeL base.cps.toList (markL m st i) i sh) = "sea" := V.str.inj hc
              have hL : shapeL base.cps.toList (markL m st i) i sh = seaL := by
                rw [← sea_list, ← hc, ofL_list]
              have ey : ("seas" : Str) = ofL (fixL (shapeL base.cps.toList (markL m st i) i sh)) := str_ext (by
                rw [seas_list, ofL_list, fixL, if_pos hL])
              obtain ⟨f1, f2, f3⟩ := fin _ ey
              exact ⟨l, _, _, rfl, rfl, hl5, sz, _, _, _, rfl, f1, f2, f3⟩
            · have hL : ¬ shapeL base.cps.toList (markL m st i) i sh = seaL := fun z => hc (decide_eq_true (by rw [z]; exact congrArg V.str (str_ext (by rw [sea_list, ofL_list]))))
              have ey : ofL (shapeL base.cps.toList (markL m st i) i sh) = ofL (fixL (shapeL base.cps.toList (markL m st i) i sh)) := by
                rw [fixL, if_neg hL]
              obtain ⟨f1, f2, f3⟩ := fin _ ey
              refine ⟨_, rfl, _, rfl, q2, _, _, _, rfl, rfl, .inl (.inl upd_same), atI_nat hat, ?_⟩
              exact ⟨l, _, _, rfl, rfl, hl5, sz, _, _, _, rfl, f1, f2, f3⟩
        · rintro σ H3 ⟨v7, v8, v9, rfl, u4, B4, hl4⟩
          have em : ((m : Int) - 0).toNat = m := by omega
          rw [em] at hl4
          exact ⟨_, rfl, k H3 l _ u4 B4 nlH npl.symm hl4 (by simp) (names_ok hb1 hb2 hm2)⟩
end
end K0
end

/-! ## K0R -/
section
set_option Elab.async false
set_option linter.all false
set_option maxRecDepth 100000
namespace K0
open PySem PySem.Spec PyProof.Rows L2
abbrev Row := Str × Str
/-- rows that make a river -/
structure GoodRows (R : List Row) : Prop where
  one : 1 ≤ R.length
  most : R.length ≤ 40
  nm : NamesOk (R.map (·.1))
  rank : ∃ rk : Str → Nat, ∀ r ∈ R, r.2 = "sea" ∨ (r.2 ∈ R.map (·.1) ∧ rk r.2 < rk r.1)
theorem NamesOk.perm {a b : List Str} (p : a.Perm b) (h : NamesOk b) : NamesOk a := ⟨fun x hx => h.ok x (p.mem_iff.mp hx), fun x hx => h.sea x (p.mem_iff.mp hx), p.nodup_iff.mpr h.nd, fun x hx hq => h.qq x (p.mem_iff.mp hx) (p.mem_iff.mp hq), fun x hx hq => h.dd x (p.mem_iff.mp hx) (p.mem_iff.mp hq)⟩
theorem GoodRows.perm {a b : List Row} (p : a.Perm b) (h : GoodRows b) : GoodRows a := by
  obtain ⟨rk, hr⟩ := h.rank
  refine ⟨by rw [p.length_eq]; exact h.one, by rw [p.length_eq]; exact h.most, h.nm.perm (p.map _), rk, fun r hm => ?_⟩
  rcases hr r (p.mem_iff.mp hm) with e | ⟨e1, e2⟩
  · exact .inl e
  · exact .inr ⟨(p.map _).mem_iff.mpr e1, e2⟩
theorem perm_lift {α β : Type} {f : α → β} {l1 l2 : List β} (p : l1.Perm l2) : ∀ xs : List α, l2 = xs.map f → ∃ xs' : List α, l1 = xs'.map f ∧ xs'.Perm xs := by
  induction p with
  | nil => intro xs e; cases xs with
    | nil => exact ⟨[], rfl, .nil⟩
    | cons a t => cases e
  | cons x _ ih => intro xs e; cases xs with
    | nil => cases e
    | cons a t =>
      injection e with e1 e2
      obtain ⟨t', h1, h2⟩ := ih t e2
      exact ⟨a :: t', by rw [List.map_cons, ← h1, e1], h2.cons a⟩
  | swap x y l => intro xs e; match xs, e with
    | a :: b :: t, e =>
      injection e with e1 e2
      injection e2 with e2 e3
      exact ⟨b :: a :: t, by rw [List.map_cons, List.map_cons, ← e1, ← e2, ← e3], .swap a b t⟩
  | trans _ _ ih1 ih2 =>
    intro xs e
    obtain ⟨ys, h1, h2⟩ := ih2 xs e
    obtain ⟨zs, h3, h4⟩ := ih1 ys h1
    exact ⟨zs, h3, h4.trans h2⟩
/-- a list of pairs of texts, each in a tuple of its own -/
structure RowsAt (H : Hp) (l : Addr) (AR : List (Addr × Row)) : Prop where
  lst : H l = some (.lst (AR.map fun q => V.ref q.1))
  tup : ∀ q ∈ AR, H q.1 = some (.tup [.str q.2.1, .str q.2.2])
abbrev rowsOf (AR : List (Addr × Row)) : List Row := AR.map (·.2)
theorem bag_ne {H : Hp} {p : Addr} {a : Addr} {xs : List V} (B : BagAt H p) (h : H a = some (.tup xs)) : a ≠ p := by
  obtain ⟨b, hb, _⟩ := B
  exact ne_of h hb (fun z => by cases z)
theorem RowsAt.upto {H H' : Hp} {p l : Addr} {AR : List (Addr × Row)} (r : RowsAt H l AR) (B : BagAt H p) (n : l ≠ p) (u : Upto p H H') : RowsAt H' l AR :=
  ⟨u _ _ r.lst n, fun q hq => u _ _ (r.tup q hq) (bag_ne B (r.tup q hq))⟩
theorem RowsAt.same {H H' : Hp} {l : Addr} {AR : List (Addr × Row)} (r : RowsAt H l AR) (u : Same H H') : RowsAt H' l AR :=
  ⟨u _ _ r.lst, fun q hq => u _ _ (r.tup q hq)⟩
def spLRiver : Sp := fun vs H Q _ => ∃ (p : Addr) (m : Nat), vs = [.ref p, .int (m : Int)] ∧ BagAt H p ∧ 1 ≤ m ∧ m ≤ 40 ∧
  ∀ (H' : Hp) (l : Addr) (AR : List (Addr × Row)), Upto p H H' → BagAt H' p → H l = none → l ≠ p → RowsAt H' l AR → GoodRows (rowsOf AR) → (rowsOf AR).length = m → Q (.ref l) H'
/-- rows built so far -/
structure Sofar (ns : List Str) (i : Nat) (R : List Row) : Prop where
  fst : R.map (·.1) = ns.take i
  snd : ∀ r ∈ R, r.2 = "sea" ∨ (r.2 ∈ ns ∧ ns.idxOf r.2 < ns.idxOf r.1)
theorem Sofar.good {ns : List Str} {R : List Row} (h : Sofar ns ns.length R) (hn : NamesOk ns) (h1 : 1 ≤ ns.length) (h2 : ns.length ≤ 40) : GoodRows R := by
  have e := h.fst
  rw [List.take_length] at e
  have el : R.length = ns.length := by rw [← e, List.length_map]
  refine ⟨by omega, by omega, by rw [e]; exact hn, fun x => ns.idxOf x, fun r hr => ?_⟩
  rw [e]
  exact h.snd r hr
theorem idx_at {ns : List Str} (hd : ns.Nodup) {i : Nat} {x : Str} (h : ns[i]? = some x) : ns.idxOf x = i := by
  obtain ⟨h1, h2⟩ := List.getElem?_eq_some_iff.mp h
  have h3 : ns.idxOf x < ns.length := List.idxOf_lt_length_iff.mpr (List.mem_of_getElem? h)
  have h4 : ns[ns.idxOf x]? = some x := by
    rw [List.getElem?_eq_getElem h3, List.getElem_idxOf h3]
  exact nd_ix hd h4 h
theorem Sofar.more {ns : List Str} {i : Nat} {R : List Row} (hd : ns.Nodup) (h : Sofar ns i R) {x y : Str} (hx : ns[i]? = some x) (hy : y = "sea" ∨ ∃ j, j < i ∧ ns[j]? = some y) : Sofar ns (i + 1) (R ++ [(x, y)]) := by
  refine ⟨?_, fun r hr => ?_⟩
  · rw [List.map_append, h.fst, List.take_add_one, hx]
    rfl
  · rcases List.mem_append.mp hr with hr | hr
    · exact h.snd r hr
    · rw [List.mem_singleton.mp hr]
      rcases hy with e | ⟨j, hj, e⟩
      · exact .inl e
      · refine .inr ⟨List.mem_of_getElem? e, ?_⟩
        show ns.idxOf y < ns.idxOf x
        rw [idx_at hd hx, idx_at hd e]
        exact hj
abbrev scLRiver_N : List Str := ["_law_bag_here", "_law_many", "_law_names_here", "_law_rows", "_law_k", "_law_way"]
theorem scLRiver : FnScope scLRiver_N ["_law_bag_here", "_law_many"] (defScope sLRiver) := ⟨rfl, rfl, rfl, by decide +kernel, rfl, by decide +kernel, by decide +kernel⟩
section
variable {P : Program} {w : World} {K : PySem.W.Frag} {mg : Str → Option Value} {base : Heap}
/-- the functions of the law's helpers, by their addresses -/
structure Hf (K : PySem.W.Frag) (mg : Str → Option Value) : Prop where
  B : Bl mg
  take : ∃ f fd, FnP K "_law_take" sTake f fd ∧ mg "_law_take" = some (.ref f)
  of : ∃ f fd, FnP K "_law_of" sOf f fd ∧ mg "_law_of" = some (.ref f)
  mixed : ∃ f fd, FnP K "_law_mixed" sMixed f fd ∧ mg "_law_mixed" = some (.ref f)
  names : ∃ f fd, FnP K "_law_names" sNames f fd ∧ mg "_law_names" = some (.ref f)
theorem ok_lriver {f : Addr} {fd : FuncData} (F : FnP K "_law_river" sLRiver f fd) (T : Hf K mg) : FnOk P w K mg base CX0 4 f fd ["_law_bag_here", "_law_many"] spLRiver := by
  obtain ⟨fT, fdT, F_law_take, g_law_take⟩ := T.take
  obtain ⟨fO, fdO, F_law_of, g_law_of⟩ := T.of
  obtain ⟨fM, fdM, F_law_mixed, g_law_mixed⟩ := T.mixed
  obtain ⟨fN, fdN, F_law_names, g_law_names⟩ := T.names
  have B := T.B
  have G_law_take : FnOk P w K mg base CX0 1 fT fdT ["_law_bag_here", "_law_many"] spTake := ok_take F_law_take B
  have b_law_take : Binds K fdT ["_law_bag_here", "_law_many"] [] := F_law_take.bindsN fun _ _ _ _ _ _ us hl => match us, hl with | [_, _], _ => rfl
  have G_law_mixed : FnOk P w K mg base CX0 2 fM fdM ["_law_bag_here", "_law_some"] (spMixed K) := ok_mixed F_law_mixed F_law_take B g_law_take
  have b_law_mixed : Binds K fdM ["_law_bag_here", "_law_some"] [] := F_law_mixed.bindsN fun _ _ _ _ _ _ us hl => match us, hl with | [_, _], _ => rfl
  have G_law_names : FnOk P w K mg base CX0 3 fN fdN ["_law_bag_here", "_law_many"] spNames := ok_names F_law_names F_law_take F_law_of B g_law_take g_law_of
  have b_law_names : Binds K fdN ["_law_bag_here", "_law_many"] [] := F_law_names.bindsN fun _ _ _ _ _ _ us hl => match us, hl with | [_, _], _ => rfl
  refine F.ok scLRiver (fun vs H Q E h => ?_) (fun cdv A outer s H vs Q E hr h => ?_)
  · obtain ⟨p, m, rfl, _⟩ := h
    rfl
  · obtain ⟨p, m, rfl, hB, hm1, hm2, k⟩ := h
    have hr_law_take : Room 1 _ := hr.mono (by decide)
    have hr_law_mixed : Room 2 _ := hr.mono (by decide)
    have hr_law_names : Room 3 _ := hr.mono (by decide)
    refine ⟨_, PSs.nox (pss_cons
      (ps_par (i := 2) (j := 3) (by rfl) scLRiver.nd rfl rfl (by decide) rfl rfl (pa_cons (pe_call G_law_names hr_law_names (by rfl) g_law_names F_law_names.kp b_law_names .nil pass0 (pa_cons (pv 0) (pa_cons (pv 1) pa_nil))) (pa_cons (pe_lst pa_nil) pa_nil)) (by rfl))
      (pss_cons
      (ps_for PassesOwn.never rfl (pi_range1 (by rfl) B.range (pa_cons (pv 1) pa_nil)) (pg_name (i := 4) scLRiver.nd rfl (Or.inl rfl)) (pss_cons
      (ps_set (i := 5) scLRiver.nd rfl (Or.inl rfl) (pe_call G_law_take hr_law_take (by rfl) g_law_take F_law_take.kp b_law_take .nil pass0 (pa_cons (pv 0) (pa_cons pe_int pa_nil))))
      (pss_one
      (ps_if (PW.pt (pw_or (pt_cmpR op_eq (pv 4) pe_int (nomark _)) (pw_or1 (pt_cmpR op_eq (pv 5) pe_int (nomark _))))) (pss_one
      (ps_expr (pe_bm PySem.F.plainAttrs_list PySem.F.slot_list_append PySem.F.type_list_append mt_append (pv 3) (pa_cons (pe_tup (pa_cons (pe_ix ix_list (pv 2) (pv 4) (fun _ _ => rfl)) (pa_cons pe_str pa_nil))) pa_nil)))) (pss_one
      (ps_expr (pe_bm PySem.F.plainAttrs_list PySem.F.slot_list_append PySem.F.type_list_append mt_append (pv 3) (pa_cons (pe_tup (pa_cons (pe_ix ix_list (pv 2) (pv 4) (fun _ _ => rfl)) (pa_cons (pe_ifExp (pt_cmpR op_lt (pv 5) pe_int (nomark _)) (pe_ix ix_list (pv 2) (pe_op op_sub (pv 4) pe_int) (fun _ _ => rfl)) (pe_ix ix_list (pv 2) (pe_call G_law_take hr_law_take (by rfl) g_law_take F_law_take.kp b_law_take .nil pass0 (pa_cons (pv 0) (pa_cons (pv 4) pa_nil))) (fun _ _ => rfl))) pa_nil))) pa_nil))))))))
      (pss_one
      (ps_ret (pe_call G_law_mixed hr_law_mixed (by rfl) g_law_mixed F_law_mixed.kp b_law_mixed .nil pass0 (pa_cons (pv 0) (pa_cons (pv 3) pa_nil))))))), ?_⟩
    refine ⟨_, rfl, _, rfl, p, m, rfl, hB, hm1, by omega, fun H1 n ns u1 B1 nn nnp hn hlen hok => ?_⟩
    refine ⟨Nat.zero_le _, fun l nl => ⟨_, _, rfl, ?_⟩⟩
    have nln : n ≠ l := ne_of_none hn nl
    obtain ⟨b1, hb1, hv1⟩ := id B1
    have npl : p ≠ l := ne_of_none hb1 nl
    have nlH : H l = none := by
      cases e : H l with
      | none => rfl
      | some o =>
        rw [u1 l o e npl.symm] at nl
        cases nl
    refine ⟨_, rfl, (m : Int), rfl, by omega, by omega, ?_⟩
    refine for_range (lo := 0) (n := ((m : Int) - 0).toNat) (fun i σ H3 => ∃ (v4 v5 : Option V) (AR : List (Addr × Row)), σ = [some (.ref p), some (.int (m : Int)), some (.ref n), some (.ref l), v4, v5] ∧ Upto p H H3 ∧ BagAt H3 p ∧ H3 n = some (.lst (ns.map V.str)) ∧ RowsAt H3 l AR ∧ Sofar ns i (rowsOf AR))
      ⟨none, none, [], rfl, u1.trans (Upto.of (same_upd nl)), ⟨b1, by rw [upd_ne npl]; exact hb1, hv1⟩, by rw [upd_ne nln]; exact hn, ⟨upd_same, fun q hq => nomatch hq⟩, ⟨by rw [List.take_zero]; rfl, fun r hr => nomatch hr⟩⟩ ?_ ?_
    · rintro i σ H3 hi ⟨v4, v5, AR, rfl, u3, B3, hn3, hR, hS⟩
      have him : i < ns.length := by omega
      have hnx : ns[i]? = some ns[i] := List.getElem?_eq_getElem him
      have hat : (ns.map V.str)[i]? = some (.str ns[i]) := by
        rw [List.getElem?_map, hnx]
        rfl
      have hARl : AR.length = i := by
        have := congrArg List.length hS.fst
        rw [List.length_map, List.length_map, List.length_take] at this
        omega
      have fin : ∀ (H4 : Hp) (t : Addr) (y : Str), Upto p H H4 → BagAt H4 p → H4 n = some (.lst (ns.map V.str)) → RowsAt H4 l AR → H4 t = none → (y = "sea" ∨ ∃ j, j < i ∧ ns[j]? = some y) →
          (upd H4 t (.tup [.str ns[i], .str y])) l = some (.lst (AR.map fun q => V.ref q.1)) ∧ (AR.map fun q => V.ref q.1).length < sizeLine ∧ ∃ AR' : List (Addr × Row),
          Upto p H (upd (upd H4 t (.tup [.str ns[i], .str y])) l (.lst ((AR.map fun q => V.ref q.1) ++ [.ref t]))) ∧ BagAt (upd (upd H4 t (.tup [.str ns[i], .str y])) l (.lst ((AR.map fun q => V.ref q.1) ++ [.ref t]))) p ∧
          (upd (upd H4 t (.tup [.str ns[i], .str y])) l (.lst ((AR.map fun q => V.ref q.1) ++ [.ref t]))) n = some (.lst (ns.map V.str)) ∧ RowsAt (upd (upd H4 t (.tup [.str ns[i], .str y])) l (.lst ((AR.map fun q => V.ref q.1) ++ [.ref t]))) l AR' ∧ Sofar ns (i + 1) (rowsOf AR') := by
        intro H4 t y u4 B4 hn4 hR4 ht hy
        have nlt : l ≠ t := ne_of_none hR4.lst ht
        have nnt : n ≠ t := ne_of_none hn4 ht
        obtain ⟨b4, hb4, hv4⟩ := B4
        have npt : p ≠ t := ne_of_none hb4 ht
        refine ⟨by rw [upd_ne nlt]; exact hR4.lst, by rw [List.length_map]; exact small1000 (by omega), AR ++ [(t, (ns[i], y))], ?_, ⟨b4, by rw [upd_ne npl, upd_ne npt]; exact hb4, hv4⟩, by rw [upd_ne nln, upd_ne nnt]; exact hn4, ⟨?_, ?_⟩, ?_⟩
        · intro b o hb hne
          have h4 := u4 b o hb hne
          rw [upd_ne (ne_of_none hb nlH), upd_ne (ne_of_none h4 ht)]
          exact h4
        · rw [upd_same, List.map_append]
          rfl
        · intro q hq
          rcases List.mem_append.mp hq with hq | hq
          · have h4 := hR4.tup q hq
            rw [upd_ne (ne_of h4 hR4.lst (fun z => by cases z)), upd_ne (ne_of_none h4 ht)]
            exact h4
          · rw [List.mem_singleton.mp hq, upd_ne nlt.symm, upd_same]
        · show Sofar ns (i + 1) ((AR ++ [(t, (ns[i], y))]).map (·.2))
          rw [List.map_append]
          exact hS.more hok.nd hnx hy
      have nlp : l ≠ p := npl.symm
      have nnp : n ≠ p := nnp
      have step : ∀ xs, BagV xs → Upto p H (upd H3 p (.lst xs)) ∧ BagAt (upd H3 p (.lst xs)) p ∧ (upd H3 p (.lst xs)) n = some (.lst (ns.map V.str)) ∧ RowsAt (upd H3 p (.lst xs)) l AR := fun xs hx =>
        ⟨u3.trans Upto.at_, ⟨xs, upd_same, hx⟩, by rw [upd_ne nnp]; exact hn3, hR.upto B3 nlp Upto.at_⟩
      refine ⟨_, rfl, p, 6, rfl, B3, by decide, by decide, fun r xs hr0 hr1 hx => ?_⟩
      obtain ⟨u4, B4, hn4, hR4⟩ := step xs hx
      refine ⟨_, rfl, rfl, _, rfl, ?_⟩
      refine split_if' (α := Unit) (R := fun _ => True) (C := fun _ => ?C) ?use ?key
      case use =>
        intro key
        refine ite2 (fun hc => ?_) (fun hc => ?_)
        · exact key () trivial
        · refine ⟨_, rfl, rfl, _, rfl, ?_⟩
          refine ite2 (fun hd => ?_) (fun hd => ?_)
          · exact key () trivial
          · have hi0 : 0 < i := by
              rcases Nat.eq_zero_or_pos i with e | e
              · subst e
                exact absurd (decide_eq_true rfl) hc
              · exact e
            refine ⟨_, rfl, .inl ⟨rfl, _, .inl (.inl hR4.lst)⟩, _, rfl, _, rfl, n, _, _, _, rfl, rfl, .inl (.inl hn4), at_of (by omega) hat, ?_⟩
            refine ⟨_, rfl, r, 4, rfl, rfl, _, rfl, ?_⟩
            refine ite2 (fun he => ?_) (fun he => ?_)
            · have hat2 : (ns.map V.str)[i - 1]? = some (.str ns[i - 1]) := by
                rw [List.getElem?_map, List.getElem?_eq_getElem (by omega)]
                rfl
              refine ⟨_, rfl, _, rfl, _, _, rfl, rfl, n, _, _, _, rfl, rfl, .inl (.inl hn4), at_of (j := i - 1) (by omega) hat2, ?_⟩
              refine ⟨by show 2 ≤ sizeLine; decide, fun t nt => ?_⟩
              obtain ⟨f1, f2, AR', f3, f4, f5, f6, f7⟩ := fin _ t ns[i - 1] u4 B4 hn4 hR4 nt (.inr ⟨i - 1, by omega, List.getElem?_eq_getElem (by omega)⟩)
              exact ⟨l, _, _, rfl, rfl, f1, f2, _, _, AR', rfl, f3, f4, f5, f6, f7⟩
            · refine ⟨_, rfl, _, rfl, _, rfl, p, _, rfl, B4, by omega, by omega, fun r2 xs2 hr20 hr21 hx2 => ?_⟩
              have hj : r2.toNat < i := by omega
              have hat2 : (ns.map V.str)[r2.toNat]? = some (.str ns[r2.toNat]) := by
                rw [List.getElem?_map, List.getElem?_eq_getElem (by omega)]
                rfl
              have u5 : Upto p H (upd (upd H3 p (.lst xs)) p (.lst xs2)) := u4.trans Upto.at_
              have hn5 : (upd (upd H3 p (.lst xs)) p (.lst xs2)) n = some (.lst (ns.map V.str)) := by
                rw [upd_ne nnp]
                exact hn4
              refine ⟨n, _, _, _, rfl, rfl, .inl (.inl hn5), at_of (j := r2.toNat) (by omega) hat2, ?_⟩
              refine ⟨by show 2 ≤ sizeLine; decide, fun t nt => ?_⟩
              obtain ⟨f1, f2, AR', f3, f4, f5, f6, f7⟩ := fin _ t ns[r2.toNat] u5 ⟨xs2, upd_same, hx2⟩ hn5 (hR4.upto B4 nlp Upto.at_) nt (.inr ⟨r2.toNat, hj, List.getElem?_eq_getElem (by omega)⟩)
              exact ⟨l, _, _, rfl, rfl, f1, f2, _, _, AR', rfl, f3, f4, f5, f6, f7⟩
      case key =>
        intro _ _
        refine ⟨_, rfl, .inl ⟨rfl, _, .inl (.inl hR4.lst)⟩, _, rfl, _, rfl, n, _, _, _, rfl, rfl, .inl (.inl hn4), at_of (by omega) hat, ?_⟩
        refine ⟨by show 2 ≤ sizeLine; decide, fun t nt => ?_⟩
        obtain ⟨f1, f2, AR', f3, f4, f5, f6, f7⟩ := fin _ t "sea" u4 B4 hn4 hR4 nt (.inl rfl)
        exact ⟨l, _, _, rfl, rfl, f1, f2, _, _, AR', rfl, f3, f4, f5, f6, f7⟩
    · rintro σ H3 ⟨v4, v5, AR, rfl, u3, B3, hn3, hR, hS⟩
      have em : ((m : Int) - 0).toNat = ns.length := by omega
      rw [em] at hS
      have hG : GoodRows (rowsOf AR) := hS.good hok (by omega) (by omega)
      have hlA : (rowsOf AR).length = AR.length := List.length_map _
      have hG1 := hG.most
      refine ⟨_, rfl, _, rfl, p, l, _, rfl, B3, npl.symm, .inl (.inl hR.lst), by rw [List.length_map]; omega, fun H5 l5 zs u5 B5 nl5 nl5p hl5 hp => ?_⟩
      obtain ⟨AR', e1, hp'⟩ := perm_lift hp AR rfl
      subst e1
      have nl5H : H l5 = none := by
        cases e : H l5 with
        | none => rfl
        | some o =>
          rw [u3 l5 o e nl5p] at nl5
          cases nl5
      refine k H5 l5 AR' (u3.trans u5) B5 nl5H nl5p ⟨hl5, fun q hq => ?_⟩ (hG.perm (hp'.map _)) ?_
      · have h3 := hR.tup q (hp'.mem_iff.mp hq)
        exact u5 _ _ h3 (bag_ne B3 h3)
      · rw [(hp'.map (·.2)).length_eq]
        have := congrArg List.length hS.fst
        rw [List.length_map, List.take_length] at this
        show (rowsOf AR).length = m
        omega
end
end K0
end

/-! ## K0P -/
section
set_option Elab.async false
set_option linter.all false
set_option maxRecDepth 100000
namespace L2
open PySem PySem.Spec PyProof.Rows
section
variable {X : Cx}
/-- name = {..} on one line, the name a local -/
theorem k0_setDc {i : Nat} {y : Str} {py : Pos} {kx vx tg iter : Expr} {ifs : List Expr} {scope : Scope} {own : List (Str × Nat)} {pos spos : Pos} {wi : TI} {g : TG} {tt : TT} {tk tv : TE} (hc : X.calm = true) (hN : X.N.Nodup) (hy : X.N[i]? = some y) (hyl : X.env.scope.names.lookup y = some .local)
    (hsw : swapsWith (.DictComp kx vx [⟨tg, iter, ifs, 0⟩] scope pos) (some (.Name y py)) spos.line X.env = pure true) (hi : PI X tg iter wi) (ok : BlkOk X.N X.env.scope scope own)
    (hg : ∀ (s : Shared) (H : Hp) (C : Addr) (cl : List (Str × Addr)) (fp : List Addr), PG (X.blk s H scope (compEnvC scope cl C X.env) fp) tg g) (ht : ∀ (s : Shared) (H : Hp) (C : Addr) (cl : List (Str × Addr)) (fp : List Addr), PTs (X.blk s H scope (compEnvC scope cl C X.env) fp) ifs tt)
    (hk : ∀ (s : Shared) (H : Hp) (C : Addr) (cl : List (Str × Addr)) (fp : List Addr), PE (X.blk s H scope (compEnvC scope cl C X.env) fp) kx tk)
    (he : ∀ (s : Shared) (H : Hp) (C : Addr) (cl : List (Str × Addr)) (fp : List Addr), PE (X.blk s H scope (compEnvC scope cl C X.env) fp) vx tv) (hs : ∀ x, foldedSetIterable iter X.env x = pure x := by intro _; rfl) :
    PS X (.Assign [.Name y py] (.DictComp kx vx [⟨tg, iter, ifs, 0⟩] scope pos) spos) (tAsg (tDc wi g tt tk tv (own.map (·.2))) (gName i)) := by
  refine ⟨fun pins s σ H D I h => ?_⟩
  rw [exec_Assign_Name_used _ _ _ _ hsw]
  refine wpAny_bind (wpAny_standAt (wpAny_bind ?_))
  show wpAny _ X.A (do let _ ← comprehension (.DictComp kx vx [⟨tg, iter, ifs, 0⟩] scope pos) scope X.env (firstIterPos [⟨tg, iter, ifs, 0⟩] pos) newDict false (eval iter X.env) (some (assign (.Name y py) X.env))) _ _ s
  have h : tDc wi g tt tk tv (own.map (·.2)) σ H (fun x H1 => gName i x σ H1 D.nx) := h
  refine wpAny_bind (thn (dc_core (Qf := fun _ s' => SP X pins D .next s') hc hN I hi ok hg ht hk he hs h fun L C s' m H' I' q hn f => ?_) fun _ s' hq => wpAny_pure (wpAny_pure hq))
  show wpAny _ _ (assign (.Name y py) X.env (.ref L)) _ _ _
  refine wpAny_assign_Name (store_ok2 (v := V.ref L) I' hN hy (.inl hyl) rfl (fun s2 I2 ⟨a, sb, ha⟩ => ?_) (.inr hyl))
  obtain ⟨f0, f1, f2, f3, f4, f5⟩ := f
  have haC : C ≠ a := by
    rcases ha with z | z
    · rw [z]; exact f1
    · exact fun e => f4 y a z e.symm
  refine ⟨m, hn.sameBut sb haC, fun h3 sb3 => ?_⟩
  exact ⟨_, H', I2.turned (t' := s2.toks) (fun b o hb e => (sb3.2 b hb).trans e) f0 f1 f3 f4 f5, q⟩
theorem k0_sw {kx vx : Expr} {gs : List Comprehension} {scope : Scope} {pos py : Pos} {y : Str} {l : Nat} {env : Env} (hk : env.scope.kind = .function) (hy : env.scope.names.lookup y = some .local) (hl : (py.line == pos.line) = true)
    (ha : (scope.names.any fun (n, k) => n == y && (k == .local || k == .cell)) = false) : swapsWith (.DictComp kx vx gs scope pos) (some (.Name y py)) l env = pure true := by
  have ky : env.kindOf y = some .local := hy
  have hb : env.blockKind = .function := by unfold Env.blockKind; rw [hk]; rfl
  unfold swapsWith
  simp only [hb, ky, ha, Expr.pos, hl]
  rfl
/-- len of a dict, locked or not -/
theorem k0_lenD : CallR X (.builtin "len") (fun xs H Q => ∃ a kvs, xs = [V.ref a] ∧ Rd H a (.dK kvs) ∧ Q (.int kvs.length) H) := by
  intro pins s σ H xs us Q I r h
  obtain ⟨a, kvs, rfl, ha, q⟩ := h
  obtain ⟨u, rfl, ru⟩ := vals1 r
  cases ru
  exact d_len I ha fun t s' I' => ⟨.int kvs.length, H, I', ⟨t, rfl⟩, q⟩
end
end L2
namespace K0
open PySem PySem.Spec PyProof.Rows L2
theorem iteD {c A B : Prop} [Decidable c] (hc : c) (h : A) : if decide c = true then A else B := by
  rw [decide_eq_true hc]
  exact iteT h
theorem iteDn {c A B : Prop} [Decidable c] (hc : ¬ c) (h : B) : if decide c = true then A else B := by
  rw [decide_eq_false hc]
  exact iteF h
/-- the module's constants -/
structure Gc (mg : Str → Option Value) (tS tM tL : Tok) : Prop where
  SEA : mg "SEA" = some (.str "sea" tS)
  MOST_ROWS : mg "MOST_ROWS" = some (.int 40 tM)
  LONGEST_NAME : mg "LONGEST_NAME" = some (.int 8 tL)
abbrev scIsName_N : List Str := ["value", "letter"]
abbrev scIsName_S : Stmt := sIsName
theorem scIsName : FnScope scIsName_N ["value"] (defScope sIsName) := ⟨rfl, rfl, rfl, by decide +kernel, rfl, by decide +kernel, by decide +kernel⟩
theorem scIsRow : FnScope ["entry"] ["entry"] (defScope sIsRow) := ⟨rfl, rfl, rfl, by decide +kernel, rfl, by decide +kernel, by decide +kernel⟩
def spIsName : Sp := fun vs H Q _ => ∃ x : Str, vs = [.str x] ∧ NameOk x ∧ ∀ H', Same H H' → Q (.bl true) H'
/-- a row: a name that is not the sea's, and a name -/
structure RowOk (r : Row) : Prop where
  a : NameOk r.1
  b : NameOk r.2
  s : r.1 ≠ "sea"
def spIsRow (K : PySem.W.Frag) : Sp := fun vs H Q _ => ∃ (t : Addr) (r : Row), vs = [.ref t] ∧ H t = some (.tup [.str r.1, .str r.2]) ∧ RowOk r ∧ ∀ H', Same H H' → Q (.bl true) H'
theorem le_low1 {c : Nat} (h : Low c) : (!decide (([c] : List Nat) < [97])) = true := by
  have : ¬ ([c] : List Nat) < [97] := by
    intro z
    rw [List.cons_lt_cons_iff] at z
    rcases z with z | ⟨_, z⟩
    · have := h.1; omega
    · exact absurd z (List.not_lt_nil _)
  rw [decide_eq_false this]
  rfl
theorem le_low2 {c : Nat} (h : Low c) : (!decide (([122] : List Nat) < [c])) = true := by
  have : ¬ ([122] : List Nat) < [c] := by
    intro z
    rw [List.cons_lt_cons_iff] at z
    rcases z with z | ⟨_, z⟩
    · have := h.2; omega
    · exact absurd z (List.not_lt_nil _)
  rw [decide_eq_false this]
  rfl
theorem sea_ok : NameOk "sea" := ⟨by rw [sea_list]; decide, by rw [sea_list]; decide, by
  rw [sea_list]
  intro c hc
  have : c = 115 ∨ c = 101 ∨ c = 97 := by simpa [seaL] using hc
  constructor <;> omega⟩
section
variable {P : Program} {w : World} {K : PySem.W.Frag} {mg : Str → Option Value} {base : Heap} {tS tM tL : Tok}
theorem ok_isname {f : Addr} {fd : FuncData} (F : FnP K "is_name" sIsName f fd) (B : Bl mg) (C : Gc mg tS tM tL) : FnOk P w K mg base CX0 1 f fd ["value"] spIsName := by
  refine F.ok scIsName (fun vs H Q E h => ?_) (fun cdv A outer s H vs Q E hr h => ?_)
  · obtain ⟨x, rfl, _⟩ := h
    rfl
  · obtain ⟨x, rfl, hx, k⟩ := h
    refine ⟨_, PSs.nox (pss_cons
      (ps_if (pt_not (pt_val (pe_callB call_isi (by rfl) B.isinstance (by decide +kernel) (pa_cons (pv 0) (pa_cons (pe_bltn (v := .ty "str") (by rfl) B.str (by decide +kernel) rfl) pa_nil))))) (pss_one
      (ps_ret pe_bl)) pss_nil)
      (pss_one
      (ps_ret (pe_and (pe_chain op_le op_le pe_int (pe_callB call_len_str (by rfl) B.len PySem.boot_len (pa_cons (pv 0) pa_nil)) (pe_glob (v := .int 8) (by rfl) C.LONGEST_NAME ⟨_, rfl⟩)) (pe_one (pe_callB (cr_all rfl) (by rfl) B.all (by decide +kernel) (pa_cons (pe_lc (own := [("letter", 1)]) (g := gName 1) (tt := tYes) (by rfl) scIsName.nd (pi_str (pv 0)) (blkOk_by (own := [("letter", 1)]) (N := scIsName_N) (sc := defScope scIsName_S) (by decide +kernel)) (fun _ _ _ _ _ => (pg_name (i := 1) scIsName.nd rfl (Or.inl rfl))) (fun _ _ _ _ _ => pts_nil) (fun _ _ _ _ _ => (pe_chain op_le_str op_le_str pe_str (pv 1) pe_str))) pa_nil))))))), ?_⟩
    refine ⟨_, rfl, .str x, .ty "str", _, _, true, rfl, .ty "str", .base (.str x), kit_ty (by decide +kernel), _, rfl, ?_⟩
    refine iteF ?_
    have hz : x.length ≤ sizeLine := Nat.le_of_lt (small1000 (by have := hx.most; rw [len_list]; omega))
    have hz1 : 1 ≤ x.length := by rw [len_list]; exact hx.one
    have hz2 : x.length ≤ 8 := by rw [len_list]; exact hx.most
    refine ⟨_, rfl, x, rfl, hz, 1, (x.length : Int), rfl, rfl, _, rfl, ?_⟩
    refine iteD (by omega) ?_
    refine ⟨_, _, rfl, rfl, _, rfl, ?_⟩
    refine iteD (by omega) ?_
    refine ⟨_, rfl, x, rfl, fun D hD => ?_⟩
    refine lc_it (walk_str (z := x)) (fun i H2 => Same H H2 ∧ H2 D = some (.lst ((List.replicate i true).map V.bl))) ⟨same_upd hD, upd_same⟩ (fun _ _ _ _ => trivial) ?_ ?_
    · rintro i v H2 H3 hi ⟨s2, hD2⟩ ⟨e, c, hc, ev⟩
      subst e
      subst ev
      have hlow : Low c := hx.low c (by
        rw [← Array.getElem?_toList] at hc
        exact List.mem_of_getElem? hc)
      refine ⟨rfl, ?_⟩
      unfold tYes
      refine iteT ?_
      refine ⟨_, rfl, "a", ⟨#[c]⟩, rfl, rfl, _, rfl, ?_⟩
      have q1 := le_low1 hlow
      have q2 := le_low2 hlow
      refine Eq.mpr (if_pos q1) ?_
      refine ⟨⟨#[c]⟩, "z", rfl, rfl, _, hD2, ?_, fun b o hb => ?_, ?_⟩
      · rw [List.length_map, List.length_replicate]
        have h8 := hx.most
        rw [Array.length_toList] at h8
        exact small1000 (by omega)
      · rw [upd_ne (ne_of_none hb hD)]
        exact s2 b o hb
      · rw [upd_same, List.replicate_succ', List.map_append]
        have q3 : (!decide ((("z" : Str)).cps.toList < (⟨#[c]⟩ : Str).cps.toList)) = true := q2
        rw [q3]
        rfl
    · rintro H2 ⟨s2, hD2⟩
      refine ⟨D, List.replicate x.cps.size true, rfl, .inl (.inl hD2), ?_⟩
      have e : ((List.replicate x.cps.size true).all id) = true := by
        rw [List.all_eq_true]
        intro b hb
        exact (List.mem_replicate.mp hb).2
      rw [e]
      exact k H2 s2
theorem ok_isrow {f fN : Addr} {fd fdN : FuncData} (F : FnP K "_is_row" sIsRow f fd) (F_is_name : FnP K "is_name" sIsName fN fdN) (gis_name : mg "is_name" = some (.ref fN)) (B : Bl mg) (C : Gc mg tS tM tL) : FnOk P w K mg base CX0 2 f fd ["entry"] (spIsRow K) := by
  have Gis_name : FnOk P w K mg base CX0 1 fN fdN ["value"] spIsName := ok_isname F_is_name B C
  have bis_name : Binds K fdN ["value"] [] := F_is_name.bindsN fun _ _ _ _ _ _ us hl => match us, hl with | [_], _ => rfl
  refine F.ok scIsRow (fun vs H Q E h => ?_) (fun cdv A outer s H vs Q E hr h => ?_)
  · obtain ⟨t, r, rfl, _⟩ := h
    rfl
  · obtain ⟨t, r, rfl, ht, hR, k⟩ := h
    have hris_name : Room 1 _ := hr.mono (by decide)
    have Fis_name := F_is_name
    refine ⟨_, PSs.nox (pss_cons
      (ps_if (PW.pt (pw_or (pt_not (pt_val (pe_callB call_isi (by rfl) B.isinstance (by decide +kernel) (pa_cons (pv 0) (pa_cons (pe_bltn (v := .ty "tuple") (by rfl) B.tuple (by decide +kernel) rfl) pa_nil))))) (pw_or1 (pt_cmpR op_ne (pe_callB call_len_seq (by rfl) B.len PySem.boot_len (pa_cons (pv 0) pa_nil)) pe_int (nomark _))))) (pss_one
      (ps_ret pe_bl)) pss_nil)
      (pss_one
      (ps_ret (pe_and (pe_call Gis_name hris_name (by rfl) gis_name Fis_name.kp bis_name .nil pass0 (pa_cons (pe_ix ix_tup (pv 0) pe_int (fun _ _ => rfl)) pa_nil)) (pe_and (pe_call Gis_name hris_name (by rfl) gis_name Fis_name.kp bis_name .nil pass0 (pa_cons (pe_ix ix_tup (pv 0) pe_int (fun _ _ => rfl)) pa_nil)) (pe_one (pe_cmpR op_ne (pe_ix ix_tup (pv 0) pe_int (fun _ _ => rfl)) (pe_glob (v := .str "sea") (by rfl) C.SEA ⟨_, rfl⟩) (nomark _)))))))), ?_⟩
    have g : ∀ H', Same H H' → SqT K H' t [.str r.1, .str r.2] := fun H' s => .inl (.inl (s _ _ ht))
    refine ⟨_, rfl, .ref t, .ty "tuple", _, _, true, rfl, .ty "tuple", .base (.tup ht), kit_ty (by decide +kernel), _, rfl, ?_⟩
    refine iteF ?_
    refine ⟨_, rfl, t, _, rfl, .inr (g _ (.refl _)), rfl, _, rfl, ?_⟩
    refine iteNS rfl ?_
    refine ⟨_, rfl, t, _, _, _, rfl, rfl, g _ (.refl _), atI_nat (j := 0) rfl, r.1, rfl, hR.a, fun H1 s1 => ⟨_, rfl, iteT ?_⟩⟩
    refine ⟨_, rfl, t, _, _, _, rfl, rfl, g _ s1, atI_nat (j := 1) rfl, r.2, rfl, hR.b, fun H2 s2 => ⟨_, rfl, iteT ?_⟩⟩
    refine ⟨_, rfl, t, _, _, _, rfl, rfl, g _ (s1.trans s2), atI_nat (j := 0) rfl, rfl, ?_⟩
    have e : (!decide (V.str r.1 = V.str "sea")) = true := by
      rw [decide_eq_false (fun z => hR.s (V.str.inj z))]
      rfl
    show Q (.bl (!decide (V.str r.1 = V.str "sea"))) H2
    rw [e]
    exact k H2 (s1.trans s2)
end
end K0
end

/-! ## K0Q -/
section
set_option Elab.async false
set_option linter.all false
set_option maxRecDepth 100000
namespace K0
open PySem PySem.Spec PyProof.Rows L2
/-! ### dicts by names -/
def kmap (f : Str → V) (ns : List Str) : List (Key × V) := ns.map fun n => ((Sum.inr n : Key), f n)
theorem kmap_len (f : Str → V) (ns : List Str) : (kmap f ns).length = ns.length := List.length_map _
theorem kmap_keys (f : Str → V) (ns : List Str) : (kmap f ns).map (·.1) = ns.map Sum.inr := by
  unfold kmap
  rw [List.map_map]
  rfl
theorem kmap_not {f : Str → V} {ns : List Str} {x : Str} (h : x ∉ ns) : valV (kmap f ns) (Sum.inr x) = none := by
  cases e : valV (kmap f ns) (Sum.inr x) with
  | none => rfl
  | some v =>
    have m := valV_in e
    rw [kmap_keys] at m
    obtain ⟨y, hy, ey⟩ := List.mem_map.mp m
    rw [Sum.inr.inj ey] at hy
    exact absurd hy h
theorem kmap_at {f : Str → V} : ∀ {ns : List Str} {x : Str}, x ∈ ns → valV (kmap f ns) (Sum.inr x) = some (f x)
  | n :: r, x, h => by
    by_cases e : n = x
    · subst e
      unfold kmap valV
      rw [List.map_cons, List.find?_cons_of_pos (by simp)]
      rfl
    · have h' : x ∈ r := (List.mem_cons.mp h).resolve_left fun z => e z.symm
      have ih := kmap_at (f := f) h'
      unfold kmap valV at ih ⊢
      rw [List.map_cons, List.find?_cons_of_neg (by simp [e])]
      exact ih
theorem kmap_put {f : Str → V} {ns : List Str} {x : Str} (h : x ∉ ns) : putK (kmap f ns) (Sum.inr x) (f x) = kmap f (ns ++ [x]) := by
  rw [putK_new _ (kmap_not h)]
  unfold kmap
  rw [List.map_append]
  rfl
theorem GoodRows.row {R : List Row} (g : GoodRows R) {r : Row} (h : r ∈ R) : RowOk r := by
  have h1 : r.1 ∈ R.map (·.1) := List.mem_map.mpr ⟨r, h, rfl⟩
  obtain ⟨rk, hr⟩ := g.rank
  refine ⟨g.nm.ok _ h1, ?_, g.nm.sea _ h1⟩
  rcases hr r h with e | ⟨e, _⟩
  · rw [e]
    exact sea_ok
  · exact g.nm.ok _ e
theorem row_at {AR : List (Addr × Row)} {i : Nat} {x : V} (e : (AR.map fun q => V.ref q.1)[i]? = some x) (hi : i < AR.length) : x = .ref AR[i].1 := by
  rw [List.getElem?_map, List.getElem?_eq_getElem hi] at e
  exact (Option.some.inj e).symm
theorem nmlen (AR : List (Addr × Row)) : ((rowsOf AR).map (·.1)).length = AR.length := by rw [List.length_map, List.length_map]
abbrev scNeedRows_N : List Str := ["rows", "weirs", "place", "entry", "_", "low"]
theorem scNeedRows : FnScope scNeedRows_N ["rows"] (defScope sNeedRows) := ⟨rfl, rfl, rfl, by decide +kernel, rfl, by decide +kernel, by decide +kernel⟩
def spNeedRows (K : PySem.W.Frag) : Sp := fun vs H Q _ => ∃ (l : Addr) (AR : List (Addr × Row)), vs = [.ref l] ∧ RowsAt H l AR ∧ GoodRows (rowsOf AR) ∧ ∀ H', Same H H' → Q .non H'
section
variable {P : Program} {w : World} {K : PySem.W.Frag} {mg : Str → Option Value} {base : Heap} {tS tM tL : Tok}
theorem ok_needrows {f fN fR : Addr} {fd fdN fdR : FuncData} (F : FnP K "_need_rows" sNeedRows f fd) (F_is_name : FnP K "is_name" sIsName fN fdN) (gis_name : mg "is_name" = some (.ref fN))
    (F_is_row : FnP K "_is_row" sIsRow fR fdR) (g_is_row : mg "_is_row" = some (.ref fR)) (B : Bl mg) (C : Gc mg tS tM tL) : FnOk P w K mg base CX0 3 f fd ["rows"] (spNeedRows K) := by
  have G_is_row : FnOk P w K mg base CX0 2 fR fdR ["entry"] (spIsRow K) := ok_isrow F_is_row F_is_name gis_name B C
  have b_is_row : Binds K fdR ["entry"] [] := F_is_row.bindsN fun _ _ _ _ _ _ us hl => match us, hl with | [_], _ => rfl
  refine F.ok scNeedRows (fun vs H Q E h => ?_) (fun cdv A outer s H vs Q E hr h => ?_)
  · obtain ⟨l, AR, rfl, _⟩ := h
    rfl
  · obtain ⟨l, AR, rfl, hR, hG, k⟩ := h
    have hu := hu_of hr
    have hr_is_row : Room 2 _ := hr.mono (by decide)
    refine ⟨_, PSs.nox (pss_cons
      (ps_if (PW.pt (pw_or (pt_not (pt_val (pe_callB call_isi (by rfl) B.isinstance (by decide +kernel) (pa_cons (pv 0) (pa_cons (pe_bltn (v := .ty "list") (by rfl) B.list (by decide +kernel) rfl) pa_nil))))) (pw_or1 (pt_not (pt_chain op_le op_le pe_int (pe_callB call_len_seq (by rfl) B.len PySem.boot_len (pa_cons (pv 0) pa_nil)) (pe_glob (v := .int 40) (by rfl) C.MOST_ROWS ⟨_, rfl⟩)))))) (pss_one
      ps_never) pss_nil)
      (pss_cons
      (ps_set (i := 1) scNeedRows.nd rfl (Or.inl rfl) pe_dnewK)
      (pss_cons
      (ps_for PassesOwn.never rfl (pi_enum (by rfl) B.enumerate (pa_cons (pv 0) pa_nil)) (pg_tup (by rfl) (pgs_cons (pg_name (i := 2) scNeedRows.nd rfl (Or.inl rfl)) (pgs_cons (pg_name (i := 3) scNeedRows.nd rfl (Or.inl rfl)) pgs_nil))) (pss_cons
      (ps_if (PW.pt (pw_or (pt_not (pt_val (pe_call G_is_row hr_is_row (by rfl) g_is_row F_is_row.kp b_is_row .nil pass0 (pa_cons (pv 3) pa_nil)))) (pw_or1 (pt_cmp (pc_din hu (pe_ix ix_tup (pv 3) pe_int (fun _ _ => rfl)) (pv 1)))))) (pss_one
      ps_never) pss_nil)
      (pss_one
      (ps_dput hu (pv 1) (pe_ix ix_tup (pv 3) pe_int (fun _ _ => rfl)) pe_bl rfl))))
      (pss_one
      (ps_for PassesOwn.never rfl (pi_enum (by rfl) B.enumerate (pa_cons (pv 0) pa_nil)) (pg_tup (by rfl) (pgs_cons (pg_name (i := 2) scNeedRows.nd rfl (Or.inl rfl)) (pgs_cons (pg_tup (by rfl) (pgs_cons (pg_name (i := 4) scNeedRows.nd rfl (Or.inl rfl)) (pgs_cons (pg_name (i := 5) scNeedRows.nd rfl (Or.inl rfl)) pgs_nil))) pgs_nil))) (pss_one
      (ps_if (PW.pt (pw_and (pt_cmpR op_ne (pv 5) (pe_glob (v := .str "sea") (by rfl) C.SEA ⟨_, rfl⟩) (nomark _)) (pw_and1 (pt_cmp (pc_dnotin hu (pv 5) (pv 1)))))) (pss_one
      ps_never) pss_nil))))))), ?_⟩
    refine ⟨_, rfl, .ref l, .ty "list", _, _, true, rfl, .ty "list", .base (.lst hR.lst), kit_ty (by decide +kernel), _, rfl, ?_⟩
    refine iteF ?_
    have hlen : (AR.map fun q => V.ref q.1).length = (rowsOf AR).length := by rw [List.length_map, List.length_map]
    have ho := hG.one
    have hm := hG.most
    refine ⟨_, rfl, l, _, rfl, .inl (.inl (.inl hR.lst)), 1, _, rfl, rfl, _, rfl, ?_⟩
    refine iteD (by omega) ?_
    refine ⟨_, _, rfl, rfl, _, rfl, ?_⟩
    refine iteNS (by omega) ?_
    intro D hD
    have s0 : Same H (upd H D (.dK [])) := same_upd hD
    have hnd := hG.nm.nd
    -- the first loop
    refine ⟨_, rfl, l, _, rfl, s0.seq (.inl (.inl hR.lst)), ?_⟩
    refine for_it (walk_enum (xs := AR.map fun q => V.ref q.1)) (fun i σ H2 => ∃ (v2 v3 v4 v5 : Option V), σ = [some (.ref l), some (.ref D), v2, v3, v4, v5] ∧ Same H H2 ∧ H2 D = some (.dK (kmap (fun _ => .bl true) (((rowsOf AR).map (·.1)).take i))))
      ⟨_, _, _, _, rfl, s0, by rw [upd_same, List.take_zero]; rfl⟩ (fun _ _ _ _ h => by obtain ⟨_, _, _, _, _, s, _⟩ := h; exact s.seq (.inl (.inl hR.lst))) ?_ ?_
    · rintro i x σ H2 H3 hi ⟨v2, v3, v4, v5, rfl, s2, hD2⟩ ⟨T, x1, x2, rfl, hT, rfl, e1, e2⟩
      rw [List.length_map] at hi
      have hx1 : x1 = .int (i : Int) := (Option.some.inj e1).symm
      subst hx1
      have hx2 : x2 = .ref AR[i].1 := row_at e2 hi
      subst hx2
      have hmem : AR[i] ∈ AR := List.getElem_mem hi
      have hrow : AR[i].2 ∈ rowsOf AR := List.mem_map.mpr ⟨_, hmem, rfl⟩
      have hok := hG.row hrow
      have s3 : Same H (upd H2 T (.tup [.int (i : Int), .ref AR[i].1])) := s2.trans (same_upd hT)
      have hD3 : (upd H2 T (.tup [.int (i : Int), .ref AR[i].1])) D = some (.dK (kmap (fun _ => .bl true) (((rowsOf AR).map (·.1)).take i))) := by
        rw [upd_ne (ne_of_none hD2 hT)]
        exact hD2
      have hni : ((rowsOf AR).map (·.1))[i]? = some AR[i].2.1 := by
        rw [List.getElem?_map, List.getElem?_map, List.getElem?_eq_getElem hi]
        rfl
      have hnot : AR[i].2.1 ∉ ((rowsOf AR).map (·.1)).take i := by
        intro hm2
        obtain ⟨j, hj⟩ := List.getElem?_of_mem hm2
        have hji : j < i := by
          have := (List.getElem?_eq_some_iff.mp hj).1
          rw [List.length_take] at this
          omega
        rw [List.getElem?_take_of_lt hji] at hj
        have := nd_ix hnd hj hni
        omega
      refine ⟨T, _, rfl, .inl (.inl upd_same), rfl, _, _, rfl, _, _, rfl, rfl, ?_⟩
      refine ⟨_, rfl, AR[i].1, AR[i].2, rfl, s3 _ _ (hR.tup _ hmem), hok, fun H4 s4 => ⟨_, rfl, ?_⟩⟩
      refine iteF ?_
      have s5 : Same H H4 := s3.trans s4
      have hD4 := s4 _ _ hD3
      have ht4 : SqT K H4 AR[i].1 [.str AR[i].2.1, .str AR[i].2.2] := .inl (.inl (s5 _ _ (hR.tup _ hmem)))
      refine ⟨_, rfl, AR[i].1, _, _, _, rfl, rfl, ht4, atI_nat (j := 0) rfl, _, rfl, D, _, rfl, DGet.k (k := Sum.inr AR[i].2.1) hD4, _, rfl, ?_⟩
      rw [kmap_not hnot]
      refine iteF ?_
      refine ⟨_, rfl, _, rfl, AR[i].1, _, _, _, rfl, rfl, ht4, atI_nat (j := 0) rfl, D, _, rfl, DPut.k (k := Sum.inr AR[i].2.1) hD4 ?_, ?_⟩
      · rw [kmap_len, List.length_take, nmlen]
        rw [List.length_map] at hm
        exact small1000 (by omega)
      · refine ⟨_, _, _, _, rfl, fun b o hb => ?_, ?_⟩
        · rw [upd_ne (ne_of_none hb hD)]
          exact s5 b o hb
        · have := kmap_put (f := fun _ => .bl true) hnot
          rw [upd_same, this, List.take_add_one, hni]
          rfl
    · rintro σ H2 ⟨v2, v3, v4, v5, rfl, s2, hD2⟩
      rw [List.take_of_length_le (by rw [List.length_map, List.length_map, List.length_map]; exact Nat.le_refl _)] at hD2
      obtain ⟨rk, hrk⟩ := hG.rank
      refine ⟨_, rfl, l, _, rfl, s2.seq (.inl (.inl hR.lst)), ?_⟩
      refine for_it (walk_enum (xs := AR.map fun q => V.ref q.1)) (fun i σ H3 => ∃ (v2 v3 v4 v5 : Option V), σ = [some (.ref l), some (.ref D), v2, v3, v4, v5] ∧ Same H2 H3)
        ⟨_, _, _, _, rfl, .refl _⟩ (fun _ _ _ _ h => by obtain ⟨_, _, _, _, _, s⟩ := h; exact (s2.trans s).seq (.inl (.inl hR.lst))) ?_ ?_
      · rintro i x σ H3 H4 hi ⟨v2, v3, v4, v5, rfl, s3⟩ ⟨T, x1, x2, rfl, hT, rfl, e1, e2⟩
        rw [List.length_map] at hi
        have hx2 : x2 = .ref AR[i].1 := row_at e2 hi
        subst hx2
        have hmem : AR[i] ∈ AR := List.getElem_mem hi
        have hrow : AR[i].2 ∈ rowsOf AR := List.mem_map.mpr ⟨_, hmem, rfl⟩
        have s4 : Same H2 (upd H3 T (.tup [x1, .ref AR[i].1])) := s3.trans (same_upd hT)
        have ht4 : SqT K (upd H3 T (.tup [x1, .ref AR[i].1])) AR[i].1 [.str AR[i].2.1, .str AR[i].2.2] := .inl (.inl (s4 _ _ (s2 _ _ (hR.tup _ hmem))))
        refine ⟨T, _, rfl, .inl (.inl upd_same), rfl, _, _, rfl, _, _, rfl, _, _, rfl, ht4, rfl, _, _, rfl, _, _, rfl, rfl, rfl, ?_⟩
        have hc : AR[i].2.2 = "sea" ∨ AR[i].2.2 ∈ (rowsOf AR).map (·.1) := by
          rcases hrk _ hrow with e | ⟨e, _⟩
          · exact .inl e
          · exact .inr e
        refine ⟨_, rfl, rfl, _, rfl, ?_⟩
        refine ite2 (fun h1 => ?_) (fun h1 => ?_)
        · have hmm : AR[i].2.2 ∈ (rowsOf AR).map (·.1) := by
            rcases hc with e | e
            · rw [decide_eq_true (congrArg V.str e)] at h1
              cases h1
            · exact e
          refine ⟨_, rfl, _, rfl, D, _, rfl, DGet.k (k := Sum.inr AR[i].2.2) (s4 _ _ hD2), _, rfl, ?_⟩
          rw [kmap_at hmm]
          refine iteF ?_
          exact ⟨_, _, _, _, rfl, s4⟩
        · exact ⟨_, _, _, _, rfl, s4⟩
      · rintro σ H3 ⟨v2, v3, v4, v5, rfl, s3⟩
        exact k H3 (s2.trans s3)
end
end K0
end

/-! ## K0C -/
section
set_option Elab.async false
set_option linter.all false
set_option maxRecDepth 100000
namespace K0
open PySem PySem.Spec PyProof.Rows L2
/-! ### courses -/
def lowR (R : List Row) (x : Str) : Str := ((R.find? fun r => decide (r.1 = x)).map (·.2)).getD "sea"
def itr (low : Str → Str) : Nat → Str → Str
  | 0, x => x
  | n + 1, x => low (itr low n x)
theorem itr_shift (low : Str → Str) : ∀ (n : Nat) (x : Str), itr low (n + 1) x = itr low n (low x)
  | 0, _ => rfl
  | n + 1, x => by
    show low (itr low (n + 1) x) = low (itr low n (low x))
    rw [itr_shift low n x]
def crs (low : Str → Str) : Nat → Str → List Str
  | 0, _ => []
  | n + 1, x => if x = "sea" then [] else x :: crs low n (low x)
def course (R : List Row) (x : Str) : List Str := crs (lowR R) R.length x
theorem low_row {R : List Row} {x : Str} (h : x ∈ R.map (·.1)) : ∃ r ∈ R, r.1 = x ∧ r.2 = lowR R x := by
  unfold lowR
  cases e : R.find? (fun r => decide (r.1 = x)) with
  | none =>
    obtain ⟨r, hr, er⟩ := List.mem_map.mp h
    have := List.find?_eq_none.mp e r hr
    exact absurd (decide_eq_true er) this
  | some r =>
    have h1 := List.mem_of_find?_eq_some e
    have h2 := List.find?_some e
    exact ⟨r, h1, of_decide_eq_true h2, rfl⟩
theorem low_at {R : List Row} (hd : (R.map (·.1)).Nodup) {r : Row} (h : r ∈ R) : lowR R r.1 = r.2 := by
  obtain ⟨q, hq, e1, e2⟩ := low_row (List.mem_map.mpr ⟨r, h, rfl⟩)
  obtain ⟨i, hi⟩ := List.getElem?_of_mem h
  obtain ⟨j, hj⟩ := List.getElem?_of_mem hq
  have g1 : (R.map (·.1))[i]? = some r.1 := by rw [List.getElem?_map, hi]; rfl
  have g2 : (R.map (·.1))[j]? = some r.1 := by rw [List.getElem?_map, hj, ← e1]; rfl
  have : i = j := nd_ix hd g1 g2
  subst this
  rw [hi] at hj
  rw [← e2, Option.some.inj hj]
theorem sub_length : ∀ {c ns : List Str}, c.Nodup → (∀ x ∈ c, x ∈ ns) → c.length ≤ ns.length
  | [], _, _, _ => Nat.zero_le _
  | a :: r, ns, h, hs => by
    obtain ⟨h1, h2⟩ := List.nodup_cons.mp h
    have ha : a ∈ ns := hs a List.mem_cons_self
    have ih := sub_length (ns := ns.erase a) h2 fun x hx => (List.mem_erase_of_ne (fun e => h1 (by rw [← e]; exact hx))).mpr (hs x (List.mem_cons_of_mem _ hx))
    rw [List.length_erase_of_mem ha] at ih
    have : 0 < ns.length := List.length_pos_of_mem ha
    rw [List.length_cons]
    omega
theorem crs_full (low : Str → Str) : ∀ (m n : Nat) (x : Str), m ≤ n → (∀ i, i < m → itr low i x ≠ "sea") → itr low m x = "sea" → crs low n x = (List.range m).map fun i => itr low i x
  | 0, n, x, _, _, h => by
    have h : x = "sea" := h
    subst h
    cases n with
    | zero => rfl
    | succ n => rfl
  | m + 1, 0, _, h, _, _ => absurd h (by omega)
  | m + 1, n + 1, x, h, h1, h2 => by
    have h0 : x ≠ "sea" := h1 0 (by omega)
    have ih := crs_full low m n (low x) (by omega) (fun i hi => by rw [← itr_shift]; exact h1 (i + 1) (by omega)) (by rw [← itr_shift]; exact h2)
    show (if x = "sea" then [] else x :: crs low n (low x)) = _
    rw [if_neg h0, ih, List.range_succ_eq_map, List.map_cons, List.map_map]
    refine congrArg (x :: ·) (List.map_congr_left fun i _ => ?_)
    exact (itr_shift low i x).symm
theorem reach {R : List Row} {rk : Str → Nat} (hr : ∀ r ∈ R, r.2 = "sea" ∨ (r.2 ∈ R.map (·.1) ∧ rk r.2 < rk r.1)) : ∀ (k : Nat) (x : Str), rk x ≤ k → x ∈ R.map (·.1) →
    ∃ m, 1 ≤ m ∧ (∀ i, i < m → itr (lowR R) i x ∈ R.map (·.1)) ∧ (∀ i j, i < j → j < m → rk (itr (lowR R) j x) < rk (itr (lowR R) i x)) ∧ itr (lowR R) m x = "sea" := by
  intro k
  induction k with
  | zero =>
    intro x hk hx
    obtain ⟨r, hrm, e1, e2⟩ := low_row hx
    rcases hr r hrm with e | ⟨e, h⟩
    · refine ⟨1, Nat.le_refl _, fun i hi => ?_, fun i j hij hj => by omega, ?_⟩
      · have : i = 0 := by omega
        subst this
        exact hx
      · show lowR R x = "sea"
        rw [← e2, e]
    · rw [e1] at h
      omega
  | succ k ih =>
    intro x hk hx
    obtain ⟨r, hrm, e1, e2⟩ := low_row hx
    rcases hr r hrm with e | ⟨e, h⟩
    · refine ⟨1, Nat.le_refl _, fun i hi => ?_, fun i j hij hj => by omega, ?_⟩
      · have : i = 0 := by omega
        subst this
        exact hx
      · show lowR R x = "sea"
        rw [← e2, e]
    · rw [e1, e2] at h
      rw [e2] at e
      obtain ⟨m, h1, h2, h3, h4⟩ := ih (lowR R x) (by omega) e
      have first : ∀ j, j < m → rk (itr (lowR R) j (lowR R x)) < rk x := by
        intro j hj
        rcases Nat.eq_zero_or_pos j with z | z
        · subst z
          exact h
        · exact Nat.lt_trans (h3 0 j z hj) h
      refine ⟨m + 1, by omega, fun i hi => ?_, fun i j hij hj => ?_, by rw [itr_shift]; exact h4⟩
      · cases i with
        | zero => exact hx
        | succ i =>
          rw [itr_shift]
          exact h2 i (by omega)
      · cases j with
        | zero => omega
        | succ j =>
          rw [itr_shift]
          cases i with
          | zero => exact first j (by omega)
          | succ i =>
            rw [itr_shift]
            exact h3 i j (by omega) (by omega)
/-- the course of a weir, and how long it is -/
structure CourseIs (R : List Row) (x : Str) (m : Nat) : Prop where
  one : 1 ≤ m
  most : m ≤ R.length
  eq : course R x = (List.range m).map fun i => itr (lowR R) i x
  mem : ∀ i, i < m → itr (lowR R) i x ∈ R.map (·.1)
  sea : itr (lowR R) m x = "sea"
theorem course_is {R : List Row} (g : GoodRows R) {x : Str} (hx : x ∈ R.map (·.1)) : ∃ m, CourseIs R x m := by
  obtain ⟨rk, hr⟩ := g.rank
  obtain ⟨m, h1, h2, h3, h4⟩ := reach hr (rk x) x (Nat.le_refl _) hx
  have hm : m ≤ R.length := by
    have nd : ((List.range m).map fun i => itr (lowR R) i x).Nodup := nodup_range _ _ fun i j hi hj e => by
      rcases Nat.lt_trichotomy i j with z | z | z
      · have := h3 i j z hj
        rw [e] at this
        omega
      · exact z
      · have := h3 j i z hi
        rw [e] at this
        omega
    have := sub_length nd fun y hy => by
      obtain ⟨i, hi, e⟩ := List.mem_map.mp hy
      rw [← e]
      exact h2 i (List.mem_range.mp hi)
    rw [List.length_map, List.length_range, List.length_map] at this
    exact this
  exact ⟨m, h1, hm, crs_full _ _ _ _ hm (fun i hi => g.nm.sea _ (h2 i hi)) h4, h2, h4⟩
theorem CourseIs.len {R : List Row} {x : Str} {m : Nat} (c : CourseIs R x m) : (course R x).length = m := by
  rw [c.eq, List.length_map, List.length_range]
end K0
end

/-! ## K0D -/
section
set_option Elab.async false
set_option linter.all false
set_option maxRecDepth 100000
namespace K0
open PySem PySem.Spec PyProof.Rows L2
abbrev nmsOf (R : List Row) : List Str := R.map (·.1)
abbrev belowK (R : List Row) : List (Key × V) := kmap (fun y => .str (lowR R y)) (nmsOf R)
abbrev scCourse_N : List Str := ["below", "weir", "course"]
theorem scCourse : FnScope scCourse_N ["below", "weir"] (defScope sCourse) := ⟨rfl, rfl, rfl, by decide +kernel, rfl, by decide +kernel, by decide +kernel⟩
def spCourse (K : PySem.W.Frag) : Sp := fun vs H Q _ => ∃ (d : Addr) (R : List Row) (x : Str), vs = [.ref d, .str x] ∧ Rd H d (.dK (belowK R)) ∧ GoodRows R ∧ x ∈ nmsOf R ∧
  ∀ (H' : Hp) (t : Addr), Same H H' → H t = none → H' t = some (.tup ((course R x).map V.str)) → Q (.ref t) H'
theorem same_rd {H H' : Hp} {a : Addr} {u : HO} (s : Same H H') (r : Rd H a u) : Rd H' a u := r.elim (fun h => .inl (s _ _ h)) fun ⟨o, h⟩ => .inr ⟨o, s _ _ h⟩
theorem dget_rk {H : Hp} {a : Addr} {kvs : List (Key × V)} {k : Key} (e : Rd H a (.dK kvs)) : DGet H a (kV k) (valV kvs k) := .inl ⟨kvs, k, e, rfl, rfl⟩
theorem dget_rn {H : Hp} {a : Addr} {f : Str → V} {ns : List Str} {x : Str} (e : Rd H a (.dK (kmap f ns))) (h : x ∈ ns) : DGet H a (.str x) (some (f x)) := by
  have := dget_rk (k := Sum.inr x) e
  rw [kmap_at h] at this
  exact this
theorem last_of {m : Nat} {f : Nat → Str} (h : 1 ≤ m) : atI (((List.range m).map f).map V.str) (-1) = some (.str (f (m - 1))) := by
  unfold atI ixN
  rw [List.length_map, List.length_map, List.length_range, if_neg (by omega), if_pos (by omega)]
  show (((List.range m).map f).map V.str)[((-1 : Int) + (m : Int)).toNat]? = _
  rw [show ((-1 : Int) + (m : Int)).toNat = m - 1 by omega, List.getElem?_map, List.getElem?_map, List.getElem?_range (by omega)]
  rfl
section
variable {P : Program} {w : World} {K : PySem.W.Frag} {mg : Str → Option Value} {base : Heap} {tS tM tL : Tok}
theorem ok_course {f : Addr} {fd : FuncData} (F : FnP K "_course" sCourse f fd) (B : Bl mg) (C : Gc mg tS tM tL) : FnOk P w K mg base CX0 1 f fd ["below", "weir"] (spCourse K) := by
  refine F.ok scCourse (fun vs H Q E h => ?_) (fun cdv A outer s H vs Q E hr h => ?_)
  · obtain ⟨d, R, x, rfl, _⟩ := h
    rfl
  · obtain ⟨d, R, x, rfl, hd, hG, hx, k⟩ := h
    have hu := hu_of hr
    obtain ⟨m, hC⟩ := course_is hG hx
    refine ⟨_, PSs.nox (pss_cons
      (ps_set (i := 2) scCourse.nd rfl (Or.inl rfl) (pe_lst (pa_cons (pv 1) pa_nil)))
      (pss_cons
      (ps_while PassesOwn.never (PW.pt (pw_and (pt_cmpR op_ne (pe_dget hu (pv 0) (pe_ix ix_list (pv 2) (pe_un un_neg pe_int) (fun _ _ => rfl)) (fun _ _ => rfl)) (pe_glob (v := .str "sea") (by rfl) C.SEA ⟨_, rfl⟩) (nomark _)) (pw_and1 (pt_cmpR op_le (pe_callB call_len_seq (by rfl) B.len PySem.boot_len (pa_cons (pv 2) pa_nil)) (pe_callB k0_lenD (by rfl) B.len PySem.boot_len (pa_cons (pv 0) pa_nil)) (nomark _))))) (pss_one
      (ps_expr (pe_bm PySem.F.plainAttrs_list PySem.F.slot_list_append PySem.F.type_list_append mt_append (pv 2) (pa_cons (pe_dget hu (pv 0) (pe_ix ix_list (pv 2) (pe_un un_neg pe_int) (fun _ _ => rfl)) (fun _ _ => rfl)) pa_nil)))))
      (pss_one
      (ps_ret (pe_callTy call_tuple_of (by rfl) B.tuple (by decide +kernel) (pa_cons (pv 2) pa_nil)))))), ?_⟩
    refine ⟨_, rfl, by show 1 ≤ sizeLine; decide, fun c nc => ?_⟩
    have s0 : Same H (upd H c (.lst [.str x])) := same_upd nc
    refine while_by (fun σ H2 => ∃ i, 1 ≤ i ∧ i ≤ m ∧ σ = [some (.ref d), some (.str x), some (.ref c)] ∧ Same H H2 ∧ H2 c = some (.lst (((List.range i).map fun j => itr (lowR R) j x).map V.str)))
      (fun _ H2 => match H2 c with | some (.lst xs) => m - xs.length | _ => 0) ⟨1, Nat.le_refl _, hC.one, rfl, s0, upd_same⟩ ?_ ?_
    · rintro σ H2 ⟨i, h1, h2, rfl, s2, hc⟩
      have hmem : itr (lowR R) (i - 1) x ∈ nmsOf R := hC.mem _ (by omega)
      refine ⟨_, rfl, _, rfl, 1, rfl, c, _, _, _, rfl, rfl, .inl (.inl hc), last_of h1, d, _, rfl, dget_rn (same_rd s2 hd) hmem, rfl, _, rfl, ?_⟩
      have enext : lowR R (itr (lowR R) (i - 1) x) = itr (lowR R) i x := by
        have e : i = i - 1 + 1 := by omega
        exact (congrArg (fun j => itr (lowR R) j x) e).symm
      have hl0 : (((List.range i).map fun j => itr (lowR R) j x).map V.str).length = i := by
        rw [List.length_map, List.length_map, List.length_range]
      have hn0 : (belowK R).length = R.length := by
        rw [kmap_len, List.length_map]
      have hmost := hC.most
      have hRm := hG.most
      refine ite2 (fun h => ?_) (fun h => ?_)
      · have him : i < m := by
          rcases Nat.lt_or_ge i m with z | z
          · exact z
          · have e : i = m := by omega
            have e2 : V.str (lowR R (itr (lowR R) (i - 1) x)) = V.str "sea" := by rw [enext, e, hC.sea]
            rw [decide_eq_true e2] at h
            cases h
        refine ⟨_, rfl, c, _, rfl, .inl (.inl (.inl hc)), _, rfl, d, _, rfl, same_rd s2 hd, _, _, rfl, rfl, _, rfl, ?_⟩
        refine iteD (by omega) ?_
        refine ⟨_, rfl, .inl ⟨rfl, _, .inl (.inl hc)⟩, _, rfl, _, rfl, 1, rfl, c, _, _, _, rfl, rfl, .inl (.inl hc), last_of h1, d, _, rfl, dget_rn (same_rd s2 hd) hmem, ?_⟩
        refine ⟨c, _, _, rfl, rfl, hc, by rw [hl0]; exact small1000 (by omega), ?_⟩
        have ecat : (((List.range i).map fun j => itr (lowR R) j x).map V.str) ++ [V.str (lowR R (itr (lowR R) (i - 1) x))] = ((List.range (i + 1)).map fun j => itr (lowR R) j x).map V.str := by
          rw [List.range_succ, List.map_append, List.map_append, enext]
          rfl
        rw [ecat]
        refine ⟨⟨i + 1, by omega, by omega, rfl, fun b o hb => ?_, upd_same⟩, ?_⟩
        · rw [upd_ne (ne_of_none hb nc)]
          exact s2 b o hb
        · show (match upd H2 c (.lst (((List.range (i + 1)).map fun j => itr (lowR R) j x).map V.str)) c with | some (.lst xs) => m - xs.length | _ => 0) < (match H2 c with | some (.lst xs) => m - xs.length | _ => 0)
          rw [upd_same, hc]
          show m - (((List.range (i + 1)).map fun j => itr (lowR R) j x).map V.str).length < m - (((List.range i).map fun j => itr (lowR R) j x).map V.str).length
          rw [hl0, List.length_map, List.length_map, List.length_range]
          omega
      · have him : i = m := by
          rcases Nat.lt_or_ge i m with z | z
          · exfalso
            have hne := hG.nm.sea _ (hC.mem i z)
            refine h ?_
            rw [enext, decide_eq_false (fun q => hne (V.str.inj q))]
            rfl
          · omega
        subst him
        refine ⟨_, rfl, c, _, rfl, .inl ⟨.inl (.inl hc), fun t nt => ?_⟩⟩
        rw [← hC.eq]
        exact k _ t (s2.trans (same_upd nt)) (s2.free nt) upd_same
    · intro σ H2 Q1 Q2 hQ h
      obtain ⟨v1, e1, v2, e2, i, e3, p, xs, j, v, e4, e5, h6, h7, a, u, e8, g, hs, b, e9, h⟩ := h
      refine ⟨v1, e1, v2, e2, i, e3, p, xs, j, v, e4, e5, h6, h7, a, u, e8, g, hs, b, e9, ?_⟩
      cases b with
      | false => exact hQ _ _ h
      | true =>
        obtain ⟨w1, f1, q, ys, f2, f3, w2, f4, q2, kv, f5, f6, n1, n2, f7, f8, b2, f9, h⟩ := h
        exact ⟨w1, f1, q, ys, f2, f3, w2, f4, q2, kv, f5, f6, n1, n2, f7, f8, b2, f9, hQ _ _ h⟩
end
end K0
end

/-! ## K0E -/
section
set_option Elab.async false
set_option linter.all false
set_option maxRecDepth 100000
namespace L2
open PySem PySem.Spec PyProof.Rows
/-! ### enumerate of a dict -/
section
variable {prog : Program} {w : World} {A : Around} {E : Value → Shared → Prop} {s : Shared}
theorem k0_key_item {it d : Addr} {i n ep : Nat} {od : Obj} {es : Array DictEntry} {en : DictEntry} {Q : Value → Shared → Prop} (hit : s.heap.IsKeyIter it d i n ep) (hod : s.heap.get? d = some od) (hdd : od.data = .dict es ep)
    (hsz : es.size = n) (hx : es[i]? = some en) (hQ : ∀ h', h'.IsKeyIter it d (i + 1) n ep → Heap.SameBut it s.heap h' → Q en.key { s with heap := h' }) : wpAny (model prog w) A (Builtin.SmallTypes.nextOf (.ref it)) Q E s := by
  obtain ⟨o, ho, hc, hd⟩ := id hit
  unfold Builtin.SmallTypes.nextOf
  refine wpAny_bind (wpAny_callSpecial?_slot (name := Str.ofString "__next__") hit.typeIs F.slot_dict_keyiterator_next
    (wpAny_call_entry F.slot_dict_keyiterator_next hit.typeIs F.entry_dict_keyiterator_next ?_ (F.args_dict_keyiterator_next_1 _)))
  refine wpAny_bind (wpAny_pure ?_)
  refine wpAny_bind ?_
  refine wpAny_bind ?_
  first | refine wpAny_bind (wpAny_typeNameOfWhole_keyiter hit.typeIs (wpAny_pure ?_)) | refine wpAny_bind (wpAny_typeNameOf_keyiter hit.typeIs (wpAny_pure ?_))
  refine wpAny_bind (wpAny_fieldsOf ho hd ?_)
  have hown : Builtin.Dict_items.ownsTuple "dict_keyiterator" = false := by decide
  simp only [hown, Bool.false_eq_true, if_false]
  show wpAny _ _ (if (Value.ref d == Value.none) = true then _ else _) _ _ s
  rw [if_neg (show ¬ ((Value.ref d == Value.none) = true) from Bool.false_ne_true)]
  refine wpAny_bind (wpAny_pure ?_)
  refine wpAny_bind (wpAny_dictEntries hod hdd ?_)
  rw [if_neg (by rw [hsz]; simp)]
  refine wpAny_bind (wpAny_pure ?_)
  refine wpAny_bind (wpAny_dictEpoch hod hdd ?_)
  rw [if_neg (by simp)]
  refine wpAny_pure ?_
  obtain ⟨hlt', hen⟩ := Array.getElem?_eq_some_iff.mp hx
  simp only [show ¬ ((i : Int) < 0) from by omega, if_false, Int.toNat_natCast, Array.getElem?_eq_getElem hlt']
  refine wpAny_bind ?_
  first | refine wpAny_bind (wpAny_typeNameOfWhole_keyiter hit.typeIs (wpAny_pure ?_)) | refine wpAny_bind (wpAny_typeNameOf_keyiter hit.typeIs (wpAny_pure ?_))
  refine wpAny_bind (wpAny_isOneOf_keyiter hit.typeIs ?_)
  show wpAny _ _ (setField (.ref it) 1 (rawInt ((i : Int) + 1)) >>= _) _ _ s
  refine wpAny_bind (wpAny_setField ho hd (by simp) ?_)
  have hit' : (s.heap.update it (Obj.mapFields (·.setIfInBounds 1 (rawInt ((i : Int) + 1))))).IsKeyIter it d (i + 1) n ep :=
    ⟨_, Heap.get?_update_self _ ho (Obj.isFreed_of_fields (Obj.data_mapFields hd _)), (Obj.cls_mapFields ..).trans hc, by rw [Obj.data_mapFields hd]; simp [rawInt]⟩
  refine wpAny_bind (wpAny_holding ?_)
  refine wpAny_bind (wpAny_isOneOf_keyiter (s := { s with heap := s.heap.update it (Obj.mapFields (·.setIfInBounds 1 (rawInt ((i : Int) + 1)))) }) hit'.typeIs ?_)
  show wpAny _ _ (pure es[i].key) _ _ _
  rw [hen]
  exact wpAny_pure (wpAny_pure ⟨_, rfl, wpAny_pure (hQ _ hit' (Heap.SameBut.update ..))⟩)
theorem k0_key_end {it d : Addr} {i n ep : Nat} {od : Obj} {es : Array DictEntry} {Q : Value → Shared → Prop} (hh : A.handled = none) (hit : s.heap.IsKeyIter it d i n ep) (hod : s.heap.get? d = some od) (hdd : od.data = .dict es ep)
    (hsz : es.size = n) (hge : n ≤ i) (hE : ∀ h' e, Heap.ExtBut it s.heap h' → (∃ o, h'.get? e = some o ∧ o.cls = .type "StopIteration") → E (.ref e) { s with heap := h' }) : wpAny (model prog w) A (Builtin.SmallTypes.nextOf (.ref it)) Q E s := by
  obtain ⟨o, ho, hc, hd⟩ := id hit
  unfold Builtin.SmallTypes.nextOf
  refine wpAny_bind (wpAny_callSpecial?_slot (name := Str.ofString "__next__") hit.typeIs F.slot_dict_keyiterator_next
    (wpAny_call_entry F.slot_dict_keyiterator_next hit.typeIs F.entry_dict_keyiterator_next ?_ (F.args_dict_keyiterator_next_1 _)))
  refine wpAny_bind (wpAny_pure ?_)
  refine wpAny_bind ?_
  refine wpAny_bind ?_
  first | refine wpAny_bind (wpAny_typeNameOfWhole_keyiter hit.typeIs (wpAny_pure ?_)) | refine wpAny_bind (wpAny_typeNameOf_keyiter hit.typeIs (wpAny_pure ?_))
  refine wpAny_bind (wpAny_fieldsOf ho hd ?_)
  have hown : Builtin.Dict_items.ownsTuple "dict_keyiterator" = false := by decide
  simp only [hown, Bool.false_eq_true, if_false]
  show wpAny _ _ (if (Value.ref d == Value.none) = true then _ else _) _ _ s
  rw [if_neg (show ¬ ((Value.ref d == Value.none) = true) from Bool.false_ne_true)]
  refine wpAny_bind (wpAny_pure ?_)
  refine wpAny_bind (wpAny_dictEntries hod hdd ?_)
  rw [if_neg (by rw [hsz]; simp)]
  refine wpAny_bind (wpAny_pure ?_)
  refine wpAny_bind (wpAny_dictEpoch hod hdd ?_)
  rw [if_neg (by simp)]
  refine wpAny_pure ?_
  have hge' : es.size ≤ i := by rw [hsz]; exact hge
  simp only [show ¬ ((i : Int) < 0) from by omega, if_false, Int.toNat_natCast, Array.getElem?_eq_none hge']
  refine wpAny_bind ?_
  first | refine wpAny_bind (wpAny_typeNameOfWhole_keyiter hit.typeIs (wpAny_pure ?_)) | refine wpAny_bind (wpAny_typeNameOf_keyiter hit.typeIs (wpAny_pure ?_))
  show wpAny _ _ (setField (.ref it) 0 .none >>= _) _ _ s
  refine wpAny_bind (wpAny_setField ho hd (by simp) ?_)
  show wpAny _ _ (newExc (.type "StopIteration") [] >>= _) _ _ _
  refine wpAny_bind ?_
  simp only [newExc, newTuple]
  refine wpAny_bind (wpAny_newObj_type ?_ (by size_fits))
  refine wpAny_bind (m := firstArgMember _ _) (wpAny_of_eq (a := Value.none) (by first | rfl | (simp only [firstArgMember]; rfl)) ?_)
  refine wpAny_newObj_type ?_ (by size_fits)
  simp only [raiseNew]
  refine wpAny_bind (wpAny_handled ?_)
  first | rw [show A.in1.handled = none from hh] | rw [hh]
  refine wpAny_bind (wpAny_pure (wpAny_throw ?_))
  exact hE _ _ (((Heap.SameBut.update ..).extBut.push _).push _) ⟨_, Heap.get?_push_size _ rfl, rfl⟩
end
theorem k0_draws {prog : Program} {w : World} {A : Around} (hh : A.handled = none) (it d : Addr) (hne : d ≠ it) (od : Obj) (es : Array DictEntry) (ep : Nat) (hdd : od.data = .dict es ep) :
    Draws prog w A it [it, d] es.size (fun i v => ∃ en, es[i]? = some en ∧ v = en.key) (fun i h => h.IsKeyIter it d i es.size ep ∧ h.get? d = some od) where
  live := fun _ _ st => let ⟨o, ho, _⟩ := st.1; ⟨o, ho⟩
  frame := fun _ _ _ st hk => ⟨st.1.at fun o e => hk it (by simp) o e, hk d (by simp) _ st.2⟩
  item := fun i s Q E hi st hQ => by
    refine k0_key_item st.1 st.2 hdd rfl (en := es[i]) (by simp [hi]) fun h' hit' hs' => ?_
    exact hQ _ h' s.toks ⟨_, by simp [hi], rfl⟩ ⟨hit', (hs'.2 d hne).trans st.2⟩ hs'
  done := fun s Q E st hE => k0_key_end hh st.1 st.2 hdd rfl (Nat.le_refl _) hE
theorem k0_begins {d : Addr} {o : Obj} {es : Array DictEntry} {ep : Nat} (hd : (d == sysModules) = false) (hc : o.ExactDict) (hdat : o.data = .dict es ep) :
    PySem.Begins (.ref d) { cls := .type "dict_keyiterator", data := .fields #[.ref d, .int 0 0, .int es.size 0, .int ep 0] } fun h => h.get? d = some o where
  iter := fun prog w A E s Q ho h => iter_keys hd ho hc hdat h
  keeps := fun h h' x hk => hk d _ x
  free := rfl
set_option maxHeartbeats 1000000 in
theorem k0_meets {v : Value} {o : Obj} {H : Heap → Prop} (B : PySem.Begins v o H) :
    Meets (Builtin.«enumerate.__new__» ⟨[.type "enumerate", v], []⟩) (fun _ R s => H s.heap ∧
      R (.ok (.ret (.ref (s.heap.push o).objs.size))) { s with heap := (s.heap.push o).push { cls := .type "enumerate", data := .fields #[.none, .bool false, .ref s.heap.objs.size, rawInt 0, .none, .none] } }) :=
  .of_wp fun prog w A R s h => by
    obtain ⟨hp, g, d, tk, os⟩ := s; obtain ⟨h1, h⟩ := h
    have hsub := sub_enumerate
    have q1 : ∀ {A' : Around} {E : Value → Shared → Prop} {Q : Value → Shared → Prop}, Q (.ref hp.objs.size) ⟨hp.push o, g, d, tk, os⟩ → wpAny (model prog w) A' (pyIter v) Q E ⟨hp, g, d, tk, os⟩ :=
      fun q => B.iter prog w _ _ ⟨hp, g, d, tk, os⟩ _ h1 q
    wp_walk using q1
    refine wpAny_stack_any fun st => wpAny_pure ?_
    split
    · rename_i c _ _ _ _ _
      cases (c == Value.type "enumerate")
      · wp_walk using q1
        exact ⟨_, rfl, h⟩
      · wp_walk using q1
        exact ⟨_, rfl, h⟩
    · wp_walk using q1
      exact ⟨_, rfl, h⟩
section
variable {prog : Program} {w : World} {A : Around} {E : Value → Shared → Prop} {s : Shared}
theorem k0_enum_call {v : Value} {o : Obj} {H : Heap → Prop} {Q : Value → Shared → Prop} (B : PySem.Begins v o H) (h1 : H s.heap)
    (h : ∀ h', IsEnum h' (s.heap.objs.size + 1) s.heap.objs.size 0 .none → h'.get? s.heap.objs.size = some o → h'.objs.size = s.heap.objs.size + 2 →
      (∀ b o, s.heap.get? b = some o → h'.get? b = some o) → Q (.ref (s.heap.objs.size + 1)) { s with heap := h' }) :
    wpAny (model prog w) A (call (.type "enumerate") [v]) Q E s := by
  refine callType_new F.called_enumerate (by decide) (F.typeCall_enumerate_1 _) (F.newCall_enumerate_1 _) (fun obj => F.args_object_init_2 obj _) F.entry_enumerate_new
    (k0_meets B) ⟨h1, ?_⟩
  have hz : (s.heap.push o).objs.size = s.heap.objs.size + 1 := Heap.size_push ..
  show _ ∧ _
  rw [hz]
  have he : IsEnum ((s.heap.push o).push { cls := .type "enumerate", data := .fields #[.none, .bool false, .ref s.heap.objs.size, rawInt 0, .none, .none] }) (s.heap.objs.size + 1) s.heap.objs.size 0 .none := by
    have := Heap.get?_push_size (s.heap.push o) (o := { cls := .type "enumerate", data := .fields #[.none, .bool false, .ref s.heap.objs.size, rawInt 0, .none, .none] }) rfl
    rw [hz] at this; exact this
  refine ⟨⟨_, he, rfl⟩, h _ he (Heap.get?_push_of_some _ (Heap.get?_push_size _ B.free)) (by rw [Heap.size_push, hz]) fun b o x => Heap.get?_push_of_some _ (Heap.get?_push_of_some _ x)⟩
end
/-- the keys of the locked dict at d, each with its number in a new pair -/
def ItEd (d : Addr) (o : Obj) (kvs : List (Key × V)) : It :=
  ⟨fun i H => H d = some (.frz o (.dK kvs)) ∧ i < kvs.length, fun i H v H' => ∃ T k u, v = .ref T ∧ H T = none ∧ H' = upd H T (.tup [.int (i : Nat), kV k]) ∧ kvs[i]? = some (k, u), fun i H => H d = some (.frz o (.dK kvs)) ∧ kvs.length ≤ i⟩
theorem turn_enumD {P : Program} {w : World} {K : PySem.W.Frag} {elts : List Expr} {kk : Nat} {tpos : Pos} {d : Addr} {o : Obj} {es : Array DictEntry} {ep : Nat} {kvs : List (Key × V)} (e it : Addr) (hod : o.data = .dict es ep) (hsz0 : es.size = kvs.length) :
    Turn P w K (.Tuple elts kk tpos) (ItEd d o kvs) [e, it] e (fun i h => (∃ old, IsEnum h e it ((i : Nat) : Int) old) ∧ h.IsKeyIter it d i es.size ep ∧ e ≠ it) where
  mem := by simp
  obj := fun i h st b hb => by
    obtain ⟨⟨old, he⟩, ⟨o', ho, hc, hd⟩, _⟩ := st
    have e' : b = e ∨ b = it := by simpa using hb
    rcases e' with z | z
    · rw [z]; exact ⟨_, he, fun v q => nomatch q⟩
    · rw [z]; exact ⟨o', ho, fun v q => by rw [hd] at q; cases q⟩
  keep := fun i h h' st k => let ⟨⟨old, he⟩, hi, hne⟩ := st; ⟨⟨old, k e (by simp) _ he⟩, hi.at fun o q => k it (by simp) o q, hne⟩
  item := by
    intro X hP hw hK hc i pins s σ H E I hf st hg
    subst hP hw hK
    obtain ⟨⟨old, he⟩, hit, hne⟩ := st
    obtain ⟨hd, hi⟩ := hg
    obtain ⟨hs, hgd, hx, es', ep', vs, hdt, hsz, kv, hm⟩ := I.frzK hd
    obtain ⟨rfl, rfl⟩ := dict_ep hod hdt
    have hel : e < s.heap.objs.size := Heap.lt_size he
    have hil : it < s.heap.objs.size := by obtain ⟨_, q, _⟩ := hit; exact Heap.lt_size q
    have hed : e ≠ d := fun z => by
      have q := he
      unfold IsEnum at q
      rw [z, hgd] at q
      rw [Option.some.inj q] at hod
      cases hod
    have hid : it ≠ d := fun z => by
      obtain ⟨o', q, _, hdd⟩ := id hit
      rw [z, hgd] at q
      rw [← Option.some.inj q, hod] at hdd
      cases hdd
    refine wpAny_pyNext_enum_itemD (k0_draws (A := X.A.in1) (show X.A.in1.handled = none from I.ok.hd hc) it d (Ne.symm hid) o es' ep' hod) he ⟨hit, hgd⟩ (by omega) hne (by simp [hne, hed]) fun x h' tk hP ho hit' hT hsz' hk => ?_
    obtain ⟨en, hen, rfl⟩ := hP
    obtain ⟨⟨k, v⟩, hkv⟩ : ∃ p, kvs[i]? = some p := ⟨kvs[i], List.getElem?_eq_getElem hi⟩
    have rk : RelV (kV k) en.key := by
      obtain ⟨u, hu, ru⟩ := kv_get kv hkv
      obtain ⟨od, es2, hod2, hcd, hdd, hkk, hp, hn⟩ := id hm
      rw [hgd] at hod2
      cases hod2
      obtain ⟨rfl, _⟩ := dict_ep hod hdd
      exact relV_key (hp.get? (by rw [Array.getElem?_toList]; exact hen) hu).1
    refine ⟨_, rfl, wpAny_letOwnedTupleGo_enum (s := { s with heap := h', toks := tk + 1 }) ho fun h'' he' sb => ?_⟩
    have hT2 : h''.get? s.heap.objs.size = some { cls := .type "tuple", data := .seq #[.int i tk, en.key] } := (sb.2 _ (Nat.ne_of_gt hel)).trans hT
    have new : ObjOk X.prog X.w (upd H s.heap.objs.size (.tup [.int (i : Nat), kV k])) h'' s.heap.objs.size (.tup [.int (i : Nat), kV k]) :=
      ⟨by show 2 ≤ sizeLine; decide, [.int i tk, en.key], .cons ⟨_, rfl⟩ (.cons rk .nil), ⟨_, hT2, rfl, _, rfl⟩⟩
    have I1 : Inv X pins σ (upd H s.heap.objs.size (.tup [.int (i : Nat), kV k])) { s with heap := h'', toks := tk + 1 } :=
      I.turnedNew (ch := [e, it]) (fun b ob hb q => (sb.2 b (fun z => hb (by simp [z]))).trans (hk b ob (fun z => hb (by simp [z])) (fun z => hb (by simp [z])) q)) hf (Nat.le_refl _) new
    refine ⟨.ref s.heap.objs.size, _, I1, rfl, ⟨_, k, v, rfl, I.hok.fresh (Nat.le_refl _), rfl, hkv⟩, ⟨⟨en.key, ?_⟩, hit'.1.at fun o q => (sb.2 it (Ne.symm hne)).trans q, hne⟩, fun b hb => ?_⟩
    · have e1 : ((i + 1 : Nat) : Int) = (i : Int) + 1 := by omega
      rw [e1]; exact he'
    · have hb' : b < s.heap.objs.size := by
        have e' : b = e ∨ b = it := by simpa using hb
        rcases e' with z | z
        · rw [z]; exact hel
        · rw [z]; exact hil
      rw [upd_ne (Nat.ne_of_lt hb')]
      exact (hf b hb).1
  done := by
    intro X hP hw hK hc i pins s σ H E I hf st hg
    subst hP hw hK
    obtain ⟨⟨old, he⟩, hit, hne⟩ := st
    obtain ⟨hd, hi⟩ := hg
    obtain ⟨hs, hgd, hx, es', ep', vs, hdt, hsz, kv, hm⟩ := I.frzK hd
    obtain ⟨rfl, rfl⟩ := dict_ep hod hdt
    obtain ⟨f0, f1, f2, f3, f4, f5⟩ := hf it (by simp)
    have hT : s.TypeIs (.ref e) "enumerate" := ⟨_, he, rfl⟩
    unfold pyNext
    refine wpAny_bind (wpAny_attempt (wpAny_callSpecial?_slot (name := Str.ofString "__next__") hT F.slot_enumerate_next
      (wpAny_call_entry F.slot_enumerate_next hT F.entry_enumerate_next ?_ (F.args_enumerate_next_1 _))))
    show wpAny _ _ (field (.ref e) 2 >>= _) _ _ _
    refine wpAny_bind (wpAny_field he rfl (x := .ref it) rfl ?_)
    refine wpAny_bind (k0_key_end (I.ok.hd hc) hit hgd hod rfl (by omega) fun h' x he' hx' => ?_)
    obtain ⟨o', ho, hc'⟩ := hx'
    refine wpAny_bind (wpAny_isInstance (T := "StopIteration") (b := true) ⟨o', ho, hc'⟩ isSubtype_stop ?_)
    exact wpAny_pure ⟨rfl, I.turned (t' := s.toks) (fun b ob hb q => he' b ob hb q) f0 f1 f3 f4 f5⟩
  self := fun A i s Q E st h => let ⟨⟨_, he⟩, _⟩ := st; wpAny_pyIter_enum he h
def iEnumD (ta : TA) : TI := fun σ H R => ta σ H fun vs H1 => ∃ d o kvs, vs = [.ref d] ∧ H1 d = some (.frz o (.dK kvs)) ∧ R (ItEd d o kvs) H1
theorem pi_enumD {X : Cx} {e : Expr} {ta : TA} {p pos tpos : Pos} {elts : List Expr} {kk : Nat} (hg : Gl X "enumerate") (hm : X.mg "enumerate" = none) (ha : PA X [e] ta) (hs : starEach [e] X.env = [(false, eval e X.env)] := by rfl) :
    PI X (.Tuple elts kk tpos) (.Call (.Name "enumerate" p) [e] [] pos) (iEnumD ta) := by
  refine ⟨fun pins s σ H R I h => ?_⟩
  refine Call_ (ld_blt I hg hm boot_enumerate (PyProof.Rows.callWith_type1 (thn (ha.run pos pins s σ H _ I h) fun us s1 ⟨vs, H1, I1, r1, q1⟩ => ?_) hs rfl))
  obtain ⟨d, o, kvs, ex, hd, q⟩ := q1
  subst ex
  cases r1 with
  | cons r rr =>
    cases rr
    cases r
    obtain ⟨hss, hgd, hx, es, ep, vs, hdt, hsz, kv, hm2⟩ := I1.frzK hd
    refine k0_enum_call (k0_begins hss hx hdt) hgd fun h' he hit hsz' hk => wpAny_pyIter_enum he ?_
    have I2 : Inv X pins σ H1 { s1 with heap := h' } := I1.kept (t' := s1.toks) hk
    refine ⟨s1.heap.objs.size + 1, [s1.heap.objs.size + 1, s1.heap.objs.size], _, _, H1, rfl, I2, turn_enumD (s1.heap.objs.size + 1) s1.heap.objs.size hdt hsz, ⟨⟨.none, he⟩, ⟨_, hit, rfl, rfl⟩, Nat.succ_ne_self _⟩, fun b hb => ?_, q⟩
    have e' : b = s1.heap.objs.size + 1 ∨ b = s1.heap.objs.size := by simpa using hb
    have hle : s1.heap.objs.size ≤ b := by
      rcases e' with z | z
      · rw [z]; exact Nat.le_add_right _ _
      · rw [z]; exact Nat.le_refl _
    exact I1.fpOk hle (I1.hok.fresh hle)
theorem walk_enumD {d : Addr} {o : Obj} {kvs : List (Key × V)} : Walk (ItEd d o kvs) kvs.length (fun H => H d = some (.frz o (.dK kvs))) (YPair (fun i => some (.int (i : Nat))) (fun i => kvs[i]?.map fun kv => kV kv.1)) := by
  refine ⟨fun _ _ hi q => ⟨q, hi⟩, fun _ q => ⟨q, Nat.le_refl _⟩, fun i H x H' _ _ y => ?_⟩
  obtain ⟨T, k, v, h2, h3, h4, h1⟩ := y
  exact ⟨T, .int (i : Nat), kV k, h2, h3, h4, rfl, by simp [h1]⟩
/-- a dict comprehension over a walk -/
theorem dc_it {J : It} {n : Nat} {G : Hp → Prop} {Y : Nat → Hp → V → Hp → Prop} (w : Walk J n G Y) {g : TG} {tt : TT} {tk tv : TE} {vs : List Nat} {σ : St} {H1 : Hp} {D : Addr} {Qd : Hp → Prop} (Pv : Nat → Hp → Prop) (h0 : Pv 0 (upd H1 D (.dK []))) (hG : ∀ i H, i ≤ n → Pv i H → G H)
    (hs : ∀ i x H H', i < n → Pv i H → Y i H x H' → g x (wipe σ vs) H' fun σ2 H2 => wipe σ2 vs = wipe σ vs ∧ tt σ2 H2 fun b H3 =>
      if b = true then tk σ2 H3 fun y H4 => tv σ2 H4 fun z H5 => ∃ kvs k, y = kV k ∧ H5 D = some (.dK kvs) ∧ kvs.length < sizeLine ∧ Pv (i + 1) (upd H5 D (.dK (putK kvs k z))) else Pv (i + 1) H3) (hd : ∀ H, Pv n H → Qd H) :
    ∃ W : Nat → Nat → Hp → Prop, (∃ m, W 0 m (upd H1 D (.dK []))) ∧ ∀ i m H, W i m H →
      (J.stop i H ∧ Qd H) ∨ (J.go i H ∧ ∃ Nx : Hp → Prop, (∀ H', Nx H' → ∃ m', m' < m ∧ W (i + 1) m' H') ∧ ∀ x H', J.yld i H x H' → g x (wipe σ vs) H' fun σ2 H2 => wipe σ2 vs = wipe σ vs ∧ tt σ2 H2 fun b H3 =>
        if b = true then tk σ2 H3 fun y H4 => tv σ2 H4 fun z H5 => ∃ kvs k, y = kV k ∧ H5 D = some (.dK kvs) ∧ kvs.length < sizeLine ∧ Nx (upd H5 D (.dK (putK kvs k z))) else Nx H3) := by
  refine ⟨fun i m H => m = n - i ∧ i ≤ n ∧ Pv i H, ⟨n, by simp, Nat.zero_le _, h0⟩, ?_⟩
  rintro i m H ⟨rfl, hi, p⟩
  have q := hG i H hi p
  by_cases hlt : i < n
  · refine .inr ⟨w.goes i H hlt q, Pv (i + 1), fun H' p' => ⟨n - (i + 1), by omega, rfl, hlt, p'⟩, fun x H' y => hs i x H H' hlt p (w.yields i H x H' hlt q y)⟩
  · have e : i = n := by omega
    subst e
    exact .inl ⟨w.stops H q, hd H p⟩
end L2
end

/-! ## K0F -/
section
set_option Elab.async false
set_option linter.all false
set_option maxRecDepth 100000
namespace K0
open PySem PySem.Spec PyProof.Rows L2
theorem same_unlock {H H' : Hp} {d : Addr} {u z : HO} (h : H d = some u) (s : Same (upd H d z) H') : Same H (upd H' d u) := fun b o hb => by
  by_cases e : b = d
  · rw [e] at hb ⊢
    rw [upd_same, ← hb, h]
  · rw [upd_ne e]
    exact s b o (by rw [upd_ne e]; exact hb)
theorem kmap_congr {f g : Str → V} : ∀ {ns : List Str}, (∀ x ∈ ns, f x = g x) → kmap f ns = kmap g ns
  | [], _ => rfl
  | n :: r, h => by
    unfold kmap
    rw [List.map_cons, List.map_cons, h n List.mem_cons_self]
    exact congrArg _ (kmap_congr fun x hx => h x (List.mem_cons_of_mem _ hx))
/-- a dict from each of these names to a tuple of its own of texts -/
structure TupsAt (H : Hp) (c : Addr) (ns : List Str) (g : Str → List Str) : Prop where
  ex : ∃ ta : Str → Addr, H c = some (.dK (kmap (fun x => .ref (ta x)) ns)) ∧ ∀ x ∈ ns, H (ta x) = some (.tup ((g x).map V.str))
theorem TupsAt.same {H H' : Hp} {c : Addr} {ns : List Str} {g : Str → List Str} (t : TupsAt H c ns g) (s : Same H H') : TupsAt H' c ns g := by
  obtain ⟨ta, h1, h2⟩ := t.ex
  exact ⟨ta, s _ _ h1, fun x hx => s _ _ (h2 x hx)⟩
/-- one more -/
theorem tups_more {H : Hp} {D t : Addr} {ns : List Str} {g : Str → List Str} {x : Str} {ta : Str → Addr} (h1 : H D = some (.dK (kmap (fun y => .ref (ta y)) ns))) (h2 : ∀ y ∈ ns, H (ta y) = some (.tup ((g y).map V.str)))
    (hx : x ∉ ns) (ht : H t = some (.tup ((g x).map V.str))) : TupsAt (upd H D (.dK (putK (kmap (fun y => .ref (ta y)) ns) (Sum.inr x) (.ref t)))) D (ns ++ [x]) g := by
  have htD : t ≠ D := ne_of ht h1 (fun z => by cases z)
  refine ⟨fun y => if y = x then t else ta y, ?_, fun y hy => ?_⟩
  · rw [upd_same]
    have e1 : kmap (fun y => .ref (ta y)) ns = kmap (fun y => V.ref (if y = x then t else ta y)) ns := kmap_congr fun y hy => by
      rw [if_neg (fun e => hx (by rw [← e]; exact hy))]
    rw [e1]
    have := kmap_put (f := fun y => V.ref (if y = x then t else ta y)) hx
    rw [if_pos rfl] at this
    rw [this]
  · show upd H D (.dK (putK (kmap (fun y => .ref (ta y)) ns) (Sum.inr x) (.ref t))) (if y = x then t else ta y) = some (.tup ((g y).map V.str))
    rcases List.mem_append.mp hy with h | h
    · rw [if_neg (fun e => hx (by rw [← e]; exact h)), upd_ne (ne_of (h2 y h) h1 (fun z => by cases z))]
      exact h2 y h
    · rw [List.mem_singleton.mp h, if_pos rfl, upd_ne htD]
      exact ht
theorem nodup_take {ns : List Str} (hd : ns.Nodup) {i : Nat} {x : Str} (h : ns[i]? = some x) : x ∉ ns.take i := by
  intro hm2
  obtain ⟨j, hj⟩ := List.getElem?_of_mem hm2
  have hji : j < i := by
    have := (List.getElem?_eq_some_iff.mp hj).1
    rw [List.length_take] at this
    omega
  rw [List.getElem?_take_of_lt hji] at hj
  have := nd_ix hd hj h
  omega
theorem kmap_get {f : Str → V} {ns : List Str} {i : Nat} {k : Key} {v : V} (h : (kmap f ns)[i]? = some (k, v)) : ∃ x, ns[i]? = some x ∧ k = Sum.inr x ∧ v = f x := by
  unfold kmap at h
  rw [List.getElem?_map] at h
  cases e : ns[i]? with
  | none => rw [e] at h; cases h
  | some x =>
    rw [e] at h
    injection h with h
    injection h with h1 h2
    exact ⟨x, rfl, h1.symm, h2.symm⟩
abbrev scFind_N : List Str := ["below", "weir", "courses", "place"]
abbrev scFind_S : Stmt := sFind
theorem scFind : FnScope scFind_N ["below"] (defScope sFind) := ⟨rfl, rfl, rfl, by decide +kernel, rfl, by decide +kernel, by decide +kernel⟩
def spFind (K : PySem.W.Frag) : Sp := fun vs H Q _ => ∃ (d : Addr) (R : List Row), vs = [.ref d] ∧ H d = some (.dK (belowK R)) ∧ GoodRows R ∧
  ∀ (H' : Hp) (c : Addr), Same H H' → H c = none → TupsAt H' c (nmsOf R) (course R) → Q (.ref c) H'
section
variable {P : Program} {w : World} {K : PySem.W.Frag} {mg : Str → Option Value} {base : Heap} {tS tM tL : Tok}
theorem ok_find {f fC : Addr} {fd fdC : FuncData} (F : FnP K "_find_courses" sFind f fd) (F_course : FnP K "_course" sCourse fC fdC) (g_course : mg "_course" = some (.ref fC)) (B : Bl mg) (C : Gc mg tS tM tL) : FnOk P w K mg base CX0 2 f fd ["below"] (spFind K) := by
  have G_course : FnOk P w K mg base CX0 1 fC fdC ["below", "weir"] (spCourse K) := ok_course F_course B C
  have b_course : Binds K fdC ["below", "weir"] [] := F_course.bindsN fun _ _ _ _ _ _ us hl => match us, hl with | [_, _], _ => rfl
  refine F.ok scFind (fun vs H Q E h => ?_) (fun cdv A outer s H vs Q E hr h => ?_)
  · obtain ⟨d, R, rfl, _⟩ := h
    rfl
  · obtain ⟨d, R, rfl, hd, hG, k⟩ := h
    have hu := hu_of hr
    have hr_course : Room 1 _ := hr.mono (by decide)
    refine ⟨_, PSs.nox (pss_cons
      (ps_lock (k0_setDc (i := 2) (own := [("weir", 1)]) (g := gName 1) (tt := tYes) (by rfl) scFind.nd rfl rfl (k0_sw rfl rfl rfl (by decide +kernel)) (pi_keys (pv 0)) (blkOk_by (own := [("weir", 1)]) (N := scFind_N) (sc := defScope scFind_S) (by decide +kernel)) (fun _ _ _ _ _ => (pg_name (i := 1) scFind.nd rfl (Or.inl rfl))) (fun _ _ _ _ _ => pts_nil) (fun _ _ _ _ _ => (pv 1)) (fun _ _ _ _ _ => (pe_call G_course hr_course (by rfl) g_course F_course.kp b_course .nil pass0 (pa_cons (pv 0) (pa_cons (pv 1) pa_nil))))))
      (pss_cons
      (ps_lock (ps_for PassesOwn.never rfl (pi_enumD (by rfl) B.enumerate (pa_cons (pv 2) pa_nil)) (pg_tup (by rfl) (pgs_cons (pg_name (i := 3) scFind.nd rfl (Or.inl rfl)) (pgs_cons (pg_name (i := 1) scFind.nd rfl (Or.inl rfl)) pgs_nil))) (pss_one (ps_if (pt_cmpR op_gt (pe_callB call_len_seq (by rfl) B.len PySem.boot_len (pa_cons (pe_dget hu (pv 2) (pv 1) (fun _ _ => rfl)) pa_nil)) (pe_callB k0_lenD (by rfl) B.len PySem.boot_len (pa_cons (pv 0) pa_nil)) (nomark _)) (pss_one ps_never) pss_nil))))
      (pss_one
      (ps_ret (pv 2))))), ?_⟩
    have hnd := hG.nm.nd
    have hRm := hG.most
    have hnl : (nmsOf R).length = R.length := List.length_map _
    refine ⟨d, _, hd, trivial, fun od => ?_⟩
    refine ⟨_, rfl, d, od, rfl, .inl ⟨_, upd_same, fun D hD => ?_⟩⟩
    have s0 : Same (upd H d (.frz od (.dK (belowK R)))) (upd (upd H d (.frz od (.dK (belowK R)))) D (.dK [])) := same_upd hD
    have ndD : d ≠ D := ne_of_none upd_same hD
    have hfz : ∀ H2, Same (upd H d (.frz od (.dK (belowK R)))) H2 → H2 d = some (.frz od (.dK (belowK R))) := fun H2 s => s _ _ upd_same
    refine dc_it (walk_keys (kvs := belowK R)) (fun i H2 => Same (upd H d (.frz od (.dK (belowK R)))) H2 ∧ TupsAt H2 D ((nmsOf R).take i) (course R)) ⟨s0, ⟨fun _ => 0, by rw [upd_same, List.take_zero]; rfl, fun x hx => by rw [List.take_zero] at hx; cases hx⟩⟩ (fun i H2 hi h => hfz _ h.1) ?_ ?_
    · rintro i x H2 H3 hi ⟨s2, T2⟩ ⟨e, k0, v0, hkv, ev⟩
      subst e
      subst ev
      obtain ⟨x, hx, rfl, rfl⟩ := kmap_get hkv
      have hxm : x ∈ nmsOf R := List.mem_of_getElem? hx
      refine ⟨rfl, ?_⟩
      unfold tYes
      refine iteT ?_
      refine ⟨_, rfl, _, rfl, _, rfl, d, R, x, rfl, .inr ⟨od, hfz _ s2⟩, hG, hxm, fun H4 t s4 nt ht => ?_⟩
      obtain ⟨ta, h1, h2⟩ := (T2.same s4).ex
      refine ⟨_, Sum.inr x, rfl, h1, ?_, fun b o hb => ?_, ?_⟩
      · rw [kmap_len, List.length_take]
        exact small1000 (by omega)
      · rw [upd_ne (ne_of_none hb hD)]
        exact s4 _ _ (s2 b o hb)
      · have hm := tups_more h1 h2 (nodup_take hnd hx) ht
        rw [List.take_add_one, hx]
        exact hm
    · rintro H2 ⟨s2, T2⟩
      rw [kmap_len, List.take_length] at T2
      refine ⟨hfz _ s2, ?_⟩
      have s3 : Same H (upd H2 d (.dK (belowK R))) := same_unlock hd s2
      have T3 : TupsAt (upd H2 d (.dK (belowK R))) D (nmsOf R) (course R) := by
        obtain ⟨ta, h1, h2⟩ := T2.ex
        refine ⟨ta, by rw [upd_ne ndD.symm]; exact h1, fun x hx => ?_⟩
        rw [upd_ne (ne_of (h2 x hx) (hfz _ s2) (fun z => by cases z))]
        exact h2 x hx
      have hD3 : H D = none := by
        rw [upd_ne ndD.symm] at hD
        exact hD
      generalize hH3 : upd H2 d (.dK (belowK R)) = H3 at s3 T3
      obtain ⟨ta, h1, h2⟩ := T3.ex
      refine ⟨D, _, h1, trivial, fun oD => ?_⟩
      have hl1 : (upd H3 D (.frz oD (.dK (kmap (fun x => .ref (ta x)) (nmsOf R))))) D = some (.frz oD (.dK (kmap (fun x => .ref (ta x)) (nmsOf R)))) := upd_same
      refine ⟨_, rfl, D, oD, _, rfl, upd_same, ?_⟩
      refine for_it walk_enumD (fun i σ H4 => ∃ (v1 v3 : Option V), σ = [some (.ref d), v1, some (.ref D), v3] ∧ Same (upd H3 D (.frz oD (.dK (kmap (fun x => .ref (ta x)) (nmsOf R))))) H4) ⟨_, _, rfl, .refl _⟩ (fun i σ H4 hi h => by
        obtain ⟨_, _, _, s⟩ := h
        exact s _ _ hl1) ?_ ?_
      · rintro i x σ H4 H5 hi ⟨v1, v3, rfl, s4⟩ ⟨T, x1, x2, rfl, hT, rfl, e1, e2⟩
        rw [kmap_len] at hi
        obtain ⟨x, hx, rfl⟩ : ∃ x, (nmsOf R)[i]? = some x ∧ x2 = .str x := by
          refine ⟨(nmsOf R)[i], List.getElem?_eq_getElem hi, ?_⟩
          have e2 : ((kmap (fun x => V.ref (ta x)) (nmsOf R))[i]?.map fun kv => kV kv.1) = some x2 := e2
          unfold kmap at e2
          rw [List.getElem?_map, List.getElem?_eq_getElem hi] at e2
          exact (Option.some.inj e2).symm
        have hxm : x ∈ nmsOf R := List.mem_of_getElem? hx
        obtain ⟨m, hC⟩ := course_is hG hxm
        have s5 : Same (upd H3 D (.frz oD (.dK (kmap (fun x => .ref (ta x)) (nmsOf R))))) (upd H4 T (.tup [x1, .str x])) := s4.trans (same_upd hT)
        have hDr : Rd (upd H4 T (.tup [x1, .str x])) D (.dK (kmap (fun x => .ref (ta x)) (nmsOf R))) := .inr ⟨oD, s5 _ _ hl1⟩
        have hta : (upd H4 T (.tup [x1, .str x])) (ta x) = some (.tup ((course R x).map V.str)) := by
          refine s5 _ _ ?_
          rw [upd_ne (ne_of (h2 x hxm) h1 (fun z => by cases z))]
          exact h2 x hxm
        have hd3 : (upd H3 D (.frz oD (.dK (kmap (fun x => .ref (ta x)) (nmsOf R))))) d = some (.dK (belowK R)) := by
          rw [upd_ne ndD, ← hH3, upd_same]
        refine ⟨T, _, rfl, .inl (.inl upd_same), rfl, _, _, rfl, _, _, rfl, rfl, ?_⟩
        refine ⟨_, rfl, _, rfl, D, _, rfl, dget_rn hDr hxm, ta x, _, rfl, .inr (.inl (.inl hta)), _, rfl, d, _, rfl, .inl (s5 _ _ hd3), _, _, rfl, rfl, _, rfl, ?_⟩
        refine iteDn ?_ ?_
        · have h1 := hC.most
          rw [List.length_map, hC.len, kmap_len, hnl]
          omega
        · exact ⟨_, _, rfl, s5⟩
      · rintro σ H4 ⟨v1, v3, rfl, s4⟩
        refine ⟨s4 _ _ hl1, ?_⟩
        have s5 : Same H3 (upd H4 D (.dK (kmap (fun x => .ref (ta x)) (nmsOf R)))) := same_unlock h1 s4
        exact ⟨_, rfl, k _ D (s3.trans s5) hD3 (T3.same s5)⟩
end
end K0
end

/-! ## K0S -/
section
set_option Elab.async false
set_option linter.all false
set_option maxRecDepth 100000
namespace TS3
open PySem PyProof.Rows TS
/-- a tuple of two ints and a text -/
def Tri (h : Heap) (v : Value) (i j : Int) (x : Str) : Prop := ∃ a o xs n t u w, v = .ref a ∧ h.get? a = some o ∧ o.cls = .type "tuple" ∧ o.data = .seq xs n ∧ xs.toList = [.int i t, .int j u, .str x w]
theorem Tri.keeps {h h' : Heap} {v : Value} {i j : Int} {x : Str} (T : Tri h v i j x) (k : ∀ b o, h.get? b = some o → o.cls = .type "tuple" → h'.get? b = some o) : Tri h' v i j x := by
  obtain ⟨a, o, xs, n, t, u, w, e, h1, h2, h3, h4⟩ := T
  exact ⟨a, o, xs, n, t, u, w, e, k a o h1 h2, h2, h3, h4⟩
theorem Tri.uniq {h : Heap} {v : Value} {i j i' j' : Int} {x x' : Str} (T : Tri h v i j x) (T' : Tri h v i' j' x') : i = i' ∧ j = j' ∧ x = x' := by
  obtain ⟨a, o, xs, n, t, u, w, e, h1, h2, h3, h4⟩ := T
  obtain ⟨a', o', xs', n', t', u', w', e', k1, k2, k3, k4⟩ := T'
  rw [e] at e'
  cases e'
  rw [h1] at k1
  cases k1
  rw [h3] at k3
  cases k3
  rw [h4] at k4
  injection k4 with q1 q2
  injection q2 with q2 q3
  injection q3 with q3 _
  cases q1
  cases q2
  cases q3
  exact ⟨rfl, rfl, rfl⟩
/-- what is sorted: the second numbers below 100, each with one first number and text -/
structure TrisOk (h : Heap) (vs : List Value) (f : Int → Int) (g : Int → Str) : Prop where
  at_ : ∀ v ∈ vs, ∃ j, Tri h v (f j) j (g j) ∧ 0 ≤ j ∧ j < 100
theorem TrisOk.keeps {h h' : Heap} {vs : List Value} {f : Int → Int} {g : Int → Str} (x : TrisOk h vs f g) (k : ∀ b o, h.get? b = some o → o.cls = .type "tuple" → h'.get? b = some o) : TrisOk h' vs f g :=
  ⟨fun v hv => let ⟨j, t, r⟩ := x.at_ v hv; ⟨j, t.keeps k, r⟩⟩
theorem firsts {h : Heap} {f : Int → Int} {g : Int → Str} : ∀ vs : List Value, TrisOk h vs f g → ∃ fs, PySem.W.KatTups h vs fs ∧ fs.length = vs.length ∧ ∀ z, z ∈ fs → ∃ n t, z = Value.int n t
  | [], _ => ⟨[], PySem.W.KatTups.nil, rfl, fun f hf => by simp at hf⟩
  | v :: vs, x => by
    obtain ⟨fs, k, hl, hi⟩ := firsts vs ⟨fun u hu => x.at_ u (List.mem_cons_of_mem _ hu)⟩
    obtain ⟨j, ⟨a, o, xs, n, t, u, w, e, h1, h2, h3, h4⟩, _⟩ := x.at_ v (List.mem_cons_self ..)
    subst e
    refine ⟨.int (f j) t :: fs, PySem.W.KatTups.cons h1 h2 h3 ?_ k, by simp [hl], ?_⟩
    · have z := congrArg (fun l : List Value => l[0]?) h4
      simpa using z
    · intro z hz
      rcases List.mem_cons.mp hz with rfl | hz
      · exact ⟨_, t, rfl⟩
      · exact hi z hz
section
variable {prog : Program} {w : World} {A : Around} {E : Value → Shared → Prop} {s : Shared}
theorem kind3 {f : Int → Int} {g : Int → Str} {vs : List Value} (h2 : 2 ≤ vs.length) (x : TrisOk s.heap vs f g) (r : Value → Int) (hr : ∀ v, v ∈ vs → ∀ i j y, Tri s.heap v i j y → r v = i * 100 + j) (Q : SortKind → Shared → Prop)
    (h : ∀ κ, Cmp prog w A s κ (pairsOf vs) r → Q κ s) : wpAny (model prog w) A (keyKind' vs.toArray) Q E s := by
  obtain ⟨fs, k, hl, hi⟩ := firsts vs x
  refine PySem.W.kat_kind (T := Value.type "int") k (by omega) (fun f hf => ?_) rfl (h _ ?_)
  · obtain ⟨n, t, rfl⟩ := hi f hf
    exact PySem.W.Looks.of_pure rfl
  · intro p q hp hq Q' E' hQ
    rw [pairsOf_toList] at hp hq
    obtain ⟨j, tp, j0, j1⟩ := x.at_ _ (mem_zip_self hp).2
    obtain ⟨l, tq, l0, l1⟩ := x.at_ _ (mem_zip_self hq).2
    have ep := hr _ (mem_zip_self hp).2 _ _ _ tp
    have eq2 := hr _ (mem_zip_self hq).2 _ _ _ tq
    have hQ' : Q' (decide (f j * 100 + j < f l * 100 + l)) s := by
      have z : decide (r p.1 < r q.1) = decide (f j * 100 + j < f l * 100 + l) := by rw [ep, eq2]
      rw [← z]; exact hQ
    obtain ⟨a, o, xs, n, t, u, w1, e1, ho, hc, hdt, i⟩ := tp
    obtain ⟨a', o', ys, n', t', u', w2, e2, ho', hc', hdt', i'⟩ := tq
    rw [e1, e2]
    refine PySem.W.kat_lt ho hdt ho' hdt' ?_
    have sz : decide (xs.size < ys.size) = false := by
      have l1 := congrArg List.length i
      have l2 := congrArg List.length i'
      rw [Array.length_toList] at l1 l2
      exact decide_eq_false (by rw [l1, l2]; exact Nat.lt_irrefl _)
    rw [sz, i, i']
    show PySem.W.KatLex prog w A _ false Q' [(Value.int (f j) t, Value.int (f l) t'), (Value.int j u, Value.int l u'), (Value.str (g j) w1, Value.str (g l) w2)] 0 s
    refine PySem.W.kat_cons (wpAny_eqBool_int ?_)
    by_cases e : f j = f l
    · rw [e, beq_self_eq_true]
      refine PySem.W.kat_yes (PySem.W.kat_cons (wpAny_eqBool_int ?_))
      by_cases e3 : j = l
      · subst e3
        rw [beq_self_eq_true]
        refine PySem.W.kat_yes (PySem.W.kat_cons (wpAny_eqBool_str ?_))
        rw [decide_eq_true rfl]
        refine PySem.W.kat_yes (PySem.W.kat_nil ?_)
        rw [decide_eq_false (Int.lt_irrefl _)] at hQ'
        exact hQ'
      · rw [show (j == l) = false from beq_eq_false_iff_ne.mpr e3]
        refine PySem.W.kat_no (oneLt_ints _ ?_)
        have d : decide (f j * 100 + j < f l * 100 + l) = decide (j < l) := decide_eq_decide.mpr (by rw [e]; omega)
        rw [d] at hQ'
        exact hQ'
    · rw [show (f j == f l) = false from beq_eq_false_iff_ne.mpr e]
      refine PySem.W.kat_no (oneLt_ints _ ?_)
      have d : decide (f j * 100 + j < f l * 100 + l) = decide (f j < f l) := decide_eq_decide.mpr (by omega)
      rw [d] at hQ'
      exact hQ'
/-- the second number as the heap tells it -/
noncomputable def rankOf (h : Heap) (v : Value) : Int := open Classical in if x : ∃ r : Int, ∃ i j y, Tri h v i j y ∧ r = i * 100 + j then x.choose else 0
theorem rankOf_eq {h : Heap} {v : Value} {i j : Int} {y : Str} (T : Tri h v i j y) : rankOf h v = i * 100 + j := by
  have x : ∃ r : Int, ∃ i j y, Tri h v i j y ∧ r = i * 100 + j := ⟨_, i, j, y, T, rfl⟩
  unfold rankOf
  rw [dif_pos x]
  obtain ⟨i', j', y', T', e⟩ := x.choose_spec
  obtain ⟨e1, e2, _⟩ := T.uniq T'
  rw [e, e1, e2]
theorem sort3 {a : Addr} {vs : List Value} {n : Nat} {f : Int → Int} {g : Int → Str} {P : PySem.Fin → Shared → Prop} (ho : s.heap.get? a = some (seqObj "list" vs.toArray n)) (h64 : vs.length < 64) (x : TrisOk s.heap vs f g)
    (r : Value → Int) (hr : ∀ v, v ∈ vs → ∀ i j y, Tri s.heap v i j y → r v = i * 100 + j)
    (h : ∀ out : Array Value, out.toList.Perm vs → P (.done (.ret .none)) { s with heap := sortedHeap s.heap a vs out }) :
    wpAny (model prog w) A (Builtin.«list.sort» ⟨[.ref a], []⟩) P E s := by
  have keep : ∀ b o, s.heap.get? b = some o → o.cls = .type "tuple" → (midHeap s.heap a vs).get? b = some o := fun b o e hc => by
    refine midHeap_old ?_ e
    rintro rfl
    rw [ho] at e
    have e' : seqObj "list" vs.toArray n = o := Option.some.inj e
    rw [← e'] at hc
    have c' : Value.type "list" = Value.type "tuple" := hc
    injection c' with c''
    exact absurd c'' (by decide)
  refine SK.plain_sort (r := r) ho h64 (fun h2 Q hQ => ?_) fun ps out h1 h2 h3 => ?_
  · refine kind3 (s := { s with heap := midHeap s.heap a vs }) h2 (x.keeps keep) r (fun v hv i j y t => ?_) Q hQ
    obtain ⟨j0, t0, _⟩ := x.at_ v hv
    obtain ⟨e1, e2, e3⟩ := t.uniq (t0.keeps keep)
    rw [e1, e2]
    exact hr v hv _ _ _ t0
  · obtain ⟨p, o⟩ := out_rank h1 h2 h3
    exact h out p
theorem sorted3 {l : Addr} {vs : List Value} {f : Int → Int} {g : Int → Str} {Q : Value → Shared → Prop} (hl : s.heap.IsList l vs.toArray) (h64 : vs.length < 64) (x : TrisOk s.heap vs f g)
    (h : ∀ out : Array Value, out.toList.Perm vs → Q (.ref (s.heap.objs.size + 1)) { s with heap := sortedAll s.heap vs out }) :
    wpAny (model prog w) A (call (.builtin "sorted") [.ref l]) Q E s := by
  refine Calls.call_function_entry kind_sorted plain_sorted entry_sorted (args_sorted1 _) ?_
  unfold Builtin.«sorted»
  refine wpAny_bind (m := checkCount "sorted" 1 1 _) (wpAny_pure ?_)
  refine wpAny_bind (collect_list hl ?_ (by rw [sizeLine_eq]; omega))
  refine wpAny_bind (wpAny_newList ?_ (by rw [sizeLine_eq]; omega))
  have hsz : ((s.heap.push (seqObj "list" #[] 0)).update s.heap.objs.size (Obj.mapSeq (· ++ vs.toArray))).objs.size = s.heap.objs.size + 1 := by
    rw [Heap.size_update, size_push']
  have hoL : (((s.heap.push (seqObj "list" #[] 0)).update s.heap.objs.size (Obj.mapSeq (· ++ vs.toArray))).push (seqObj "list" vs.toArray 0)).get? (s.heap.objs.size + 1) = some (seqObj "list" vs.toArray 0) := by
    rw [← hsz]; exact Heap.get?_push_size _ rfl
  have keep : ∀ b o, s.heap.get? b = some o → o.cls = .type "tuple" → (((s.heap.push (seqObj "list" #[] 0)).update s.heap.objs.size (Obj.mapSeq (· ++ vs.toArray))).push (seqObj "list" vs.toArray 0)).get? b = some o := fun b o q _ => by
    have hlt : b < s.heap.objs.size := Heap.lt_size q
    rw [Heap.get?_push_ne _ _ _ (by rw [hsz]; exact Nat.ne_of_lt (Nat.lt_succ_of_lt hlt)), Heap.get?_update_ne _ _ _ _ (Nat.ne_of_lt hlt), Heap.get?_push_ne _ _ _ (Nat.ne_of_lt hlt)]
    exact q
  show wpAny _ _ _ _ _ { s with heap := ((s.heap.push (seqObj "list" #[] 0)).update s.heap.objs.size (Obj.mapSeq (· ++ vs.toArray))).push (seqObj "list" vs.toArray 0) }
  rw [hsz]
  refine wpAny_bind (wpAny_holding (wpAny_call_entry slot_list_sort ⟨_, hoL, rfl⟩ entry_list_sort (sort3 hoL h64 (x.keeps keep) (rankOf s.heap) (fun v hv i j y t => ?_) fun out a1 => ⟨_, rfl, ?_⟩) (args_list_sort _)))
  · obtain ⟨j0, t0, _⟩ := x.at_ v hv
    obtain ⟨e1, e2, _⟩ := t.uniq (t0.keeps keep)
    rw [e1, e2]
    exact rankOf_eq t0
  · exact wpAny_pure ⟨_, rfl, h out a1⟩
end
end TS3
namespace L2
open PySem PySem.Spec PyProof.Rows
/-- sorted(xs), xs a list of fewer than 64 tuples of two ints and a text, the second ints unlike: some arrangement -/
def k0_rSorted3 (K : PySem.W.Frag) : List V → Hp → VK → Prop := fun vs H Q => ∃ (a : Addr) (xs : List V) (f : Int → Int) (g : Int → Str), vs = [V.ref a] ∧ SqL K H a xs ∧ xs.length < 64 ∧ (∀ x ∈ xs, ∃ t j, x = V.ref t ∧ H t = some (.tup [.int (f j), .int j, .str (g j)]) ∧ 0 ≤ j ∧ j < 100) ∧
  ∀ (ys : List V) (p : Addr), ys.Perm xs → H p = none → Q (.ref p) (upd H p (.lst ys))
theorem k0_sorted3 {X : Cx} : CallR X (.builtin "sorted") (k0_rSorted3 X.K) := by
  intro pins s σ H vs us Q I r h
  obtain ⟨a, xs, f, g, rfl, hs, h64, hx, q⟩ := h
  obtain ⟨its, rv, hl, hz⟩ := I.list hs
  rw [Vals.ref1 r]
  obtain ⟨e1, e2⟩ := bkV_refs rv fun x m => by
    obtain ⟨t, j, e, _⟩ := hx x m
    exact ⟨t, e⟩
  refine TS3.sorted3 (f := f) (g := g) hl.isList (by rw [← rv.length]; exact h64) ⟨fun v hv => ?_⟩ fun out h1 => ?_
  · obtain ⟨t, rfl⟩ := e2 v hv
    have hm : V.ref t ∈ xs := by
      rw [e1]
      exact List.mem_map.mpr ⟨_, hv, rfl⟩
    obtain ⟨t', j, e, ht, hj0, hj1⟩ := hx _ hm
    cases e
    obtain ⟨_, its2, r2, o, ho, hc, n, hd⟩ := I.hok _ _ ht
    refine ⟨j, ?_, hj0, hj1⟩
    cases r2 with
    | cons ra r2 =>
      cases r2 with
      | cons rb r2 =>
        cases r2 with
        | cons rc r2 =>
          cases r2
          obtain ⟨ta, rfl⟩ := ra
          obtain ⟨tb, rfl⟩ := rb
          obtain ⟨tc, rfl⟩ := rc
          exact ⟨t, o, _, n, ta, tb, tc, rfl, ho, hc, hd, rfl⟩
  · obtain ⟨ep, he'⟩ := PyProof.Rows.sortedAll_at s.heap its out
    have h3 : ∀ u ∈ out.toList, ∃ a, u = Value.ref a := fun u hu => e2 u (h1.mem_iff.mp hu)
    have hp : (out.toList.map bkV).Perm xs := by
      rw [e1]
      exact h1.map bkV
    have hlen : (out.toList.map bkV).length ≤ sizeLine := by
      rw [hp.length_eq]
      exact hz
    exact ⟨.ref _, upd H (s.heap.objs.size + 1) (.lst (out.toList.map bkV)), I.laid (t' := s.toks) (fun _ _ => PyProof.Rows.sortedAll_old) (Nat.le_succ _) ⟨hlen, out.toList, ep, bkV_vals h3, he'⟩, rfl, q _ _ hp (I.hok.fresh (Nat.le_succ _))⟩
end L2
end

/-! ## K0V -/
section
set_option Elab.async false
set_option linter.all false
set_option maxRecDepth 100000
namespace L2
open PySem PySem.Spec PyProof.Rows
/-! ### rules with the text's part named, for the blocks of comprehensions -/
section
variable {X : Cx} {K : PySem.W.Frag}
theorem inK (e : X.K = K := by rfl) : OpR X (compareOp .In) (rIn K false) := e ▸ op_in_seq
theorem notInK (e : X.K = K := by rfl) : OpR X (compareOp .NotIn) (rIn K true) := e ▸ op_notIn_seq
theorem ixLK (e : X.K = K := by rfl) : IxR X (rIxL K) := e ▸ ix_list
theorem ixTK (e : X.K = K := by rfl) : IxR X (rIxT K) := e ▸ ix_tup
theorem lenK (e : X.K = K := by rfl) : CallR X (.builtin "len") (fun xs H Q => ∃ p ys, xs = [.ref p] ∧ (SqL K H p ys ∨ SqT K H p ys) ∧ Q (.int ys.length) H) := e ▸ call_len_seq
theorem listK (e : X.K = K := by rfl) : CallR X (.type "list") (fun xs H Q => ∃ p ys, xs = [.ref p] ∧ (SqL K H p ys ∨ SqT K H p ys) ∧ ∀ l, H l = none → Q (.ref l) (upd H l (.lst ys))) := e ▸ call_list_of
theorem tupleK (e : X.K = K := by rfl) : CallR X (.type "tuple") (fun xs H Q => ∃ p ys, xs = [.ref p] ∧ ((SqL K H p ys ∧ ∀ l, H l = none → Q (.ref l) (upd H l (.tup ys))) ∨ (SqT K H p ys ∧ Q (.ref p) H))) := e ▸ call_tuple_of
theorem fldK {o : Expr} {f : Str} {pos : Pos} {ta : TE} (he : PE X o ta) (hb : attributeBase o f X.env (eval o X.env) = eval o X.env) (e : X.K = K := by rfl) : PE X (.Attribute o f pos) (tFld K ta f) := e ▸ pe_fld he hb
theorem tgK {es : List Expr} {k : Nat} {pos : Pos} {t : TGs} {n : Nat} (hc : X.calm = true) (h : PGs X es t)
    (hn : (assignEach es X.env).length = n := by rfl) (hst : (assignEach es X.env).findIdx? (·.1) = none := by rfl) (e : X.K = K := by rfl) : PG X (.Tuple es k pos) (gTup K n t) := e ▸ pg_tup hc h hn hst
end
end L2
end

/-! ## K0G -/
section
set_option Elab.async false
set_option linter.all false
set_option maxRecDepth 100000
namespace K0
open PySem PySem.Spec PyProof.Rows L2
def aboveR (R : List Row) (y : Str) : List Str := (nmsOf R).filter fun x => decide (lowR R x = y)
def upR (R : List Row) (y : Str) : List Str := (nmsOf R).filter fun x => decide (y ∈ course R x)
abbrev scAbove_N : List Str := ["below", "low", "weir"]
abbrev scAbove_S : Stmt := sAbove
theorem scAbove : FnScope scAbove_N ["below", "low"] (defScope sAbove) := ⟨rfl, rfl, rfl, by decide +kernel, rfl, by decide +kernel, by decide +kernel⟩
abbrev scUp_N : List Str := ["courses", "low", "weir"]
abbrev scUp_S : Stmt := sUp
theorem scUp : FnScope scUp_N ["courses", "low"] (defScope sUp) := ⟨rfl, rfl, rfl, by decide +kernel, rfl, by decide +kernel, by decide +kernel⟩
abbrev scOrder_N : List Str := ["courses", "rows", "place", "weir", "row"]
abbrev scOrder_S : Stmt := sOrder
theorem scOrder : FnScope scOrder_N ["courses"] (defScope sOrder) := ⟨rfl, rfl, rfl, by decide +kernel, rfl, by decide +kernel, by decide +kernel⟩
def spAbove : Sp := fun vs H Q _ => ∃ (d : Addr) (R : List Row) (y : Str), vs = [.ref d, .str y] ∧ H d = some (.dK (belowK R)) ∧ GoodRows R ∧
  ∀ (H' : Hp) (t : Addr), Same H H' → H t = none → H' t = some (.tup ((aboveR R y).map V.str)) → Q (.ref t) H'
def spUp : Sp := fun vs H Q _ => ∃ (c : Addr) (R : List Row) (y : Str), vs = [.ref c, .str y] ∧ TupsAt H c (nmsOf R) (course R) ∧ GoodRows R ∧
  ∀ (H' : Hp) (t : Addr), Same H H' → H t = none → H' t = some (.tup ((upR R y).map V.str)) → Q (.ref t) H'
def spOrder : Sp := fun vs H Q _ => ∃ (c : Addr) (R : List Row), vs = [.ref c] ∧ TupsAt H c (nmsOf R) (course R) ∧ GoodRows R ∧
  ∀ (H' : Hp) (t : Addr) (xs : List V), Same H H' → H t = none → H' t = some (.tup xs) → Q (.ref t) H'
theorem inV_str (y : Str) (l : List Str) : inV (.str y) (l.map V.str) = decide (y ∈ l) := by
  unfold inV
  rw [List.any_map]
  by_cases h : y ∈ l
  · rw [decide_eq_true h]
    exact List.any_eq_true.mpr ⟨y, h, beq_self_eq_true y⟩
  · rw [decide_eq_false h, List.any_eq_false]
    intro x hx e
    have e : (x == y) = true := e
    rw [eq_of_beq e] at hx
    exact h hx
theorem flat_strs (l : List Str) : (l.map V.str).all flatV = true := by
  rw [List.all_map]
  exact List.all_eq_true.mpr fun _ _ => rfl
theorem filter_take {p : Str → Bool} {ns : List Str} {i : Nat} {x : Str} (h : ns[i]? = some x) : (ns.take (i + 1)).filter p = (ns.take i).filter p ++ (if p x = true then [x] else []) := by
  rw [List.take_add_one, h, List.filter_append]
  show _ ++ [x].filter p = _
  by_cases e : p x = true
  · rw [List.filter_cons_of_pos e, if_pos e]
    rfl
  · rw [List.filter_cons_of_neg e, if_neg e]
    rfl
section
variable {P : Program} {w : World} {K : PySem.W.Frag} {mg : Str → Option Value} {base : Heap} {tS tM tL : Tok}
theorem ok_above {f : Addr} {fd : FuncData} (F : FnP K "_directly_above" sAbove f fd) (B : Bl mg) : FnOk P w K mg base CX0 1 f fd ["below", "low"] spAbove := by
  refine F.ok scAbove (fun vs H Q E h => ?_) (fun cdv A outer s H vs Q E hr h => ?_)
  · obtain ⟨d, R, y, rfl, _⟩ := h
    rfl
  · obtain ⟨d, R, y, rfl, hd, hG, k⟩ := h
    have hu := hu_of hr
    refine ⟨_, PSs.nox (pss_one
      (ps_ret (pe_callTy (tupleK (K := K)) (by rfl) B.tuple (by decide +kernel) (pa_cons (pe_lock (pe_lc (own := [("weir", 2)]) (g := gName 2) (by rfl) scAbove.nd (pi_keys (pv 0)) (blkOk_by (own := [("weir", 2)]) (N := scAbove_N) (sc := defScope scAbove_S) (by decide +kernel)) (fun _ _ _ _ _ => (pg_name (i := 2) scAbove.nd rfl (Or.inl rfl))) (fun _ _ _ _ _ => (pts_one (pt_cmpR op_eq (pe_dget hu (pv 0) (pv 2) (fun _ _ => rfl)) (pv 1) (nomark _)))) (fun _ _ _ _ _ => (pv 2)))) pa_nil)))), ?_⟩
    have hnd := hG.nm.nd
    have hRm := hG.most
    have hnl : (nmsOf R).length = R.length := List.length_map _
    refine ⟨d, _, hd, trivial, fun od => ?_⟩
    refine ⟨_, rfl, d, od, rfl, .inl ⟨_, upd_same, fun D hD => ?_⟩⟩
    have s0 : Same (upd H d (.frz od (.dK (belowK R)))) (upd (upd H d (.frz od (.dK (belowK R)))) D (.lst [])) := same_upd hD
    have ndD : d ≠ D := ne_of_none upd_same hD
    have hfz : ∀ H2, Same (upd H d (.frz od (.dK (belowK R)))) H2 → H2 d = some (.frz od (.dK (belowK R))) := fun H2 s => s _ _ upd_same
    refine lc_it (walk_keys (kvs := belowK R)) (fun i H2 => Same (upd H d (.frz od (.dK (belowK R)))) H2 ∧ H2 D = some (.lst ((((nmsOf R).take i).filter fun x => decide (lowR R x = y)).map V.str))) ⟨s0, by rw [upd_same, List.take_zero]; rfl⟩ (fun i H2 hi h => hfz _ h.1) ?_ ?_
    · rintro i x H2 H3 hi ⟨s2, hl⟩ ⟨e, k0, v0, hkv, ev⟩
      subst e
      subst ev
      obtain ⟨x, hx, rfl, rfl⟩ := kmap_get hkv
      have hxm : x ∈ nmsOf R := List.mem_of_getElem? hx
      refine ⟨rfl, ?_⟩
      refine ⟨_, rfl, _, rfl, d, _, rfl, dget_rn (.inr ⟨od, hfz _ s2⟩) hxm, _, rfl, rfl, _, rfl, ?_⟩
      have hft := filter_take (p := fun x => decide (lowR R x = y)) hx
      refine ite2 (fun h => ?_) (fun h => ?_)
      · have h := V.str.inj (of_decide_eq_true h)
        rw [if_pos (decide_eq_true h)] at hft
        refine ⟨_, rfl, _, hl, ?_, fun b o hb => ?_, ?_⟩
        · rw [List.length_map]
          have := List.length_filter_le (fun x => decide (lowR R x = y)) ((nmsOf R).take i)
          rw [List.length_take] at this
          exact small1000 (by omega)
        · rw [upd_ne (ne_of_none hb hD)]
          exact s2 b o hb
        · rw [upd_same, hft, List.map_append]
          rfl
      · have h : ¬ lowR R x = y := fun z => h (decide_eq_true (congrArg V.str z))
        rw [if_neg (by rw [decide_eq_false h]; exact Bool.false_ne_true), List.append_nil] at hft
        refine ⟨s2, ?_⟩
        rw [hft]
        exact hl
    · rintro H2 ⟨s2, hl⟩
      rw [kmap_len, List.take_length] at hl
      refine ⟨hfz _ s2, ?_⟩
      have s3 : Same H (upd H2 d (.dK (belowK R))) := same_unlock hd s2
      have hl3 : (upd H2 d (.dK (belowK R))) D = some (.lst ((aboveR R y).map V.str)) := by
        rw [upd_ne ndD.symm]
        exact hl
      refine ⟨D, _, rfl, .inl ⟨.inl (.inl hl3), fun t nt => ?_⟩⟩
      exact k _ t (s3.trans (same_upd nt)) (s3.free nt) upd_same
theorem ok_up {f : Addr} {fd : FuncData} (F : FnP K "_find_upstream" sUp f fd) (B : Bl mg) : FnOk P w K mg base CX0 1 f fd ["courses", "low"] spUp := by
  refine F.ok scUp (fun vs H Q E h => ?_) (fun cdv A outer s H vs Q E hr h => ?_)
  · obtain ⟨d, R, y, rfl, _⟩ := h
    rfl
  · obtain ⟨d, R, y, rfl, hT, hG, k⟩ := h
    have hu := hu_of hr
    obtain ⟨ta, hd, ht⟩ := hT.ex
    refine ⟨_, PSs.nox (pss_one
      (ps_ret (pe_callTy (tupleK (K := K)) (by rfl) B.tuple (by decide +kernel) (pa_cons (pe_lock (pe_lc (own := [("weir", 2)]) (g := gName 2) (by rfl) scUp.nd (pi_keys (pv 0)) (blkOk_by (own := [("weir", 2)]) (N := scUp_N) (sc := defScope scUp_S) (by decide +kernel)) (fun _ _ _ _ _ => (pg_name (i := 2) scUp.nd rfl (Or.inl rfl))) (fun _ _ _ _ _ => (pts_one (pt_cmpR (inK (K := K)) (pv 1) (pe_dget hu (pv 0) (pv 2) (fun _ _ => rfl)) (by rfl)))) (fun _ _ _ _ _ => (pv 2)))) pa_nil)))), ?_⟩
    have hnd := hG.nm.nd
    have hRm := hG.most
    have hnl : (nmsOf R).length = R.length := List.length_map _
    refine ⟨d, _, hd, trivial, fun od => ?_⟩
    refine ⟨_, rfl, d, od, rfl, .inl ⟨_, upd_same, fun D hD => ?_⟩⟩
    have s0 : Same (upd H d (.frz od (.dK (kmap (fun x => .ref (ta x)) (nmsOf R))))) (upd (upd H d (.frz od (.dK (kmap (fun x => .ref (ta x)) (nmsOf R))))) D (.lst [])) := same_upd hD
    have ndD : d ≠ D := ne_of_none upd_same hD
    have hfz : ∀ H2, Same (upd H d (.frz od (.dK (kmap (fun x => .ref (ta x)) (nmsOf R))))) H2 → H2 d = some (.frz od (.dK (kmap (fun x => .ref (ta x)) (nmsOf R)))) := fun H2 s => s _ _ upd_same
    have htf : ∀ x ∈ nmsOf R, (upd H d (.frz od (.dK (kmap (fun x => .ref (ta x)) (nmsOf R))))) (ta x) = some (.tup ((course R x).map V.str)) := fun x hx => by
      rw [upd_ne (ne_of (ht x hx) hd (fun z => by cases z))]
      exact ht x hx
    refine lc_it walk_keys (fun i H2 => Same (upd H d (.frz od (.dK (kmap (fun x => .ref (ta x)) (nmsOf R))))) H2 ∧ H2 D = some (.lst ((((nmsOf R).take i).filter fun x => decide (y ∈ course R x)).map V.str))) ⟨s0, by rw [upd_same, List.take_zero]; rfl⟩ (fun i H2 hi h => hfz _ h.1) ?_ ?_
    · rintro i x H2 H3 hi ⟨s2, hl⟩ ⟨e, k0, v0, hkv, ev⟩
      subst e
      subst ev
      obtain ⟨x, hx, rfl, rfl⟩ := kmap_get hkv
      have hxm : x ∈ nmsOf R := List.mem_of_getElem? hx
      refine ⟨rfl, ?_⟩
      refine ⟨_, rfl, _, rfl, _, rfl, d, _, rfl, dget_rn (.inr ⟨od, hfz _ s2⟩) hxm, ta x, _, rfl, .inr (.inl (.inl (s2 _ _ (htf x hxm)))), rfl, flat_strs _, _, rfl, ?_⟩
      have hft := filter_take (p := fun x => decide (y ∈ course R x)) hx
      rw [inV_str]
      refine ite2 (fun h => ?_) (fun h => ?_)
      · have h : decide (y ∈ course R x) = true := h
        rw [if_pos h] at hft
        refine ⟨_, rfl, _, hl, ?_, fun b o hb => ?_, ?_⟩
        · rw [List.length_map]
          have := List.length_filter_le (fun x => decide (y ∈ course R x)) ((nmsOf R).take i)
          rw [List.length_take] at this
          exact small1000 (by omega)
        · rw [upd_ne (ne_of_none hb hD)]
          exact s2 b o hb
        · rw [upd_same, hft, List.map_append]
          rfl
      · have h : ¬ decide (y ∈ course R x) = true := h
        rw [if_neg h, List.append_nil] at hft
        refine ⟨s2, ?_⟩
        rw [hft]
        exact hl
    · rintro H2 ⟨s2, hl⟩
      rw [kmap_len, List.take_length] at hl
      refine ⟨hfz _ s2, ?_⟩
      have s3 : Same H (upd H2 d (.dK (kmap (fun x => .ref (ta x)) (nmsOf R)))) := same_unlock hd s2
      have hl3 : (upd H2 d (.dK (kmap (fun x => .ref (ta x)) (nmsOf R)))) D = some (.lst ((upR R y).map V.str)) := by
        rw [upd_ne ndD.symm]
        exact hl
      refine ⟨D, _, rfl, .inl ⟨.inl (.inl hl3), fun t nt => ?_⟩⟩
      exact k _ t (s3.trans (same_upd nt)) (s3.free nt) upd_same
theorem ok_order {f : Addr} {fd : FuncData} (F : FnP K "_order_by_depth" sOrder f fd) (B : Bl mg) : FnOk P w K mg base CX0 1 f fd ["courses"] spOrder := by
  refine F.ok scOrder (fun vs H Q E h => ?_) (fun cdv A outer s H vs Q E hr h => ?_)
  · obtain ⟨d, R, rfl, _⟩ := h
    rfl
  · obtain ⟨d, R, rfl, hT, hG, k⟩ := h
    have hu := hu_of hr
    obtain ⟨ta, hd, ht⟩ := hT.ex
    refine ⟨_, PSs.nox (pss_cons
      (ps_set (i := 1) scOrder.nd rfl (Or.inl rfl) (pe_callB k0_sorted3 (by rfl) B.sorted (by decide +kernel) (pa_cons (pe_lock (pe_lc (own := [("place", 2), ("weir", 3)]) (tt := tYes) (by rfl) scOrder.nd (pi_enumD (by rfl) B.enumerate (pa_cons (pv 0) pa_nil)) (blkOk_by (own := [("place", 2), ("weir", 3)]) (N := scOrder_N) (sc := defScope scOrder_S) (by decide +kernel)) (fun _ _ _ _ _ => (tgK (K := K) (n := 2) (by rfl) (pgs_cons (pg_name (i := 2) scOrder.nd rfl (Or.inl rfl)) (pgs_cons (pg_name (i := 3) scOrder.nd rfl (Or.inl rfl)) pgs_nil)))) (fun _ _ _ _ _ => pts_nil) (fun _ _ _ _ _ => (pe_tup (pa_cons (pe_un un_neg (pe_callB (lenK (K := K)) (by rfl) B.len PySem.boot_len (pa_cons (pe_dget hu (pv 0) (pv 3) (fun _ _ => rfl)) pa_nil))) (pa_cons (pv 2) (pa_cons (pv 3) pa_nil))))))) pa_nil)))
      (pss_one
      (ps_ret (pe_callTy (tupleK (K := K)) (by rfl) B.tuple (by decide +kernel) (pa_cons (pe_lc (own := [("row", 4)]) (g := gName 4) (tt := tYes) (by rfl) scOrder.nd (pi_list (pv 1)) (blkOk_by (own := [("row", 4)]) (N := scOrder_N) (sc := defScope scOrder_S) (by decide +kernel)) (fun _ _ _ _ _ => (pg_name (i := 4) scOrder.nd rfl (Or.inl rfl))) (fun _ _ _ _ _ => pts_nil) (fun _ _ _ _ _ => (pe_ix (ixTK (K := K)) (pv 4) pe_int (fun _ _ => rfl)))) pa_nil))))), ?_⟩
    have hnd := hG.nm.nd
    have hRm := hG.most
    have hnl : (nmsOf R).length = R.length := List.length_map _
    refine ⟨d, _, hd, trivial, fun od => ?_⟩
    refine ⟨_, rfl, d, od, _, rfl, upd_same, fun D hD => ?_⟩
    have s0 : Same (upd H d (.frz od (.dK (kmap (fun x => .ref (ta x)) (nmsOf R))))) (upd (upd H d (.frz od (.dK (kmap (fun x => .ref (ta x)) (nmsOf R))))) D (.lst [])) := same_upd hD
    have ndD : d ≠ D := ne_of_none upd_same hD
    have hfz : ∀ H2, Same (upd H d (.frz od (.dK (kmap (fun x => .ref (ta x)) (nmsOf R))))) H2 → H2 d = some (.frz od (.dK (kmap (fun x => .ref (ta x)) (nmsOf R)))) := fun H2 s => s _ _ upd_same
    have htf : ∀ x ∈ nmsOf R, (upd H d (.frz od (.dK (kmap (fun x => .ref (ta x)) (nmsOf R))))) (ta x) = some (.tup ((course R x).map V.str)) := fun x hx => by
      rw [upd_ne (ne_of (ht x hx) hd (fun z => by cases z))]
      exact ht x hx
    refine lc_it walk_enumD (fun i H2 => Same (upd H d (.frz od (.dK (kmap (fun x => .ref (ta x)) (nmsOf R))))) H2 ∧ ∃ xs : List V, H2 D = some (.lst xs) ∧ xs.length = i ∧ ∀ x ∈ xs, ∃ t j, x = V.ref t ∧ H2 t = some (.tup [.int (-((course R ((nmsOf R).getD j.toNat "")).length : Int)), .int j, .str ((nmsOf R).getD j.toNat "")]) ∧ 0 ≤ j ∧ j < i) ⟨s0, [], upd_same, rfl, fun x hx => nomatch hx⟩ (fun i H2 hi h => hfz _ h.1) ?_ ?_
    · rintro i x H2 H3 hi ⟨s2, xs, hl, hxl, hxs⟩ ⟨T, x1, x2, rfl, hT, rfl, e1, e2⟩
      rw [kmap_len] at hi
      have e1 : x1 = .int (i : Int) := (Option.some.inj e1).symm
      subst e1
      obtain ⟨x, hx, rfl⟩ : ∃ x, (nmsOf R)[i]? = some x ∧ x2 = .str x := by
        refine ⟨(nmsOf R)[i], List.getElem?_eq_getElem hi, ?_⟩
        have e2 : ((kmap (fun x => V.ref (ta x)) (nmsOf R))[i]?.map fun kv => kV kv.1) = some x2 := e2
        unfold kmap at e2
        rw [List.getElem?_map, List.getElem?_eq_getElem hi] at e2
        exact (Option.some.inj e2).symm
      have hxm : x ∈ nmsOf R := List.mem_of_getElem? hx
      have s3 : Same (upd H d (.frz od (.dK (kmap (fun x => .ref (ta x)) (nmsOf R))))) (upd H2 T (.tup [.int (i : Int), .str x])) := s2.trans (same_upd hT)
      refine ⟨T, _, rfl, .inl (.inl upd_same), rfl, _, _, rfl, _, _, rfl, rfl, rfl, ?_⟩
      unfold tYes
      refine iteT ?_
      refine ⟨_, rfl, _, rfl, d, _, rfl, dget_rn (.inr ⟨od, hfz _ s3⟩) hxm, ta x, _, rfl, .inr (.inl (.inl (s3 _ _ (htf x hxm)))), _, rfl, _, rfl, _, rfl, by show 3 ≤ sizeLine; decide, fun p np => ?_⟩
      have hlD : (upd H2 T (.tup [.int (i : Int), .str x])) D = some (.lst xs) := by
        rw [upd_ne (ne_of_none hl hT)]
        exact hl
      have npD : D ≠ p := ne_of_none hlD np
      have eg : (nmsOf R).getD ((i : Int)).toNat "" = x := by
        rw [Int.toNat_natCast, List.getD_eq_getElem?_getD, hx]
        rfl
      refine ⟨xs, by rw [upd_ne npD]; exact hlD, small1000 (by omega), fun b o hb => ?_, xs ++ [.ref p], upd_same, by rw [List.length_append, hxl]; rfl, fun z hz => ?_⟩
      · have h3 := s3 b o hb
        rw [upd_ne (ne_of_none hb hD), upd_ne (ne_of_none h3 np)]
        exact h3
      · rcases List.mem_append.mp hz with hz | hz
        · obtain ⟨t, j, e, h1, h2, h3⟩ := hxs z hz
          have h1' : (upd H2 T (.tup [.int (i : Int), .str x])) t = some (.tup [.int (-((course R ((nmsOf R).getD j.toNat "")).length : Int)), .int j, .str ((nmsOf R).getD j.toNat "")]) := by
            rw [upd_ne (ne_of_none h1 hT)]
            exact h1
          refine ⟨t, j, e, ?_, h2, by omega⟩
          rw [upd_ne (ne_of h1 hl (fun z => by cases z)), upd_ne (ne_of_none h1' np)]
          exact h1'
        · refine ⟨p, (i : Int), List.mem_singleton.mp hz, ?_, by omega, by omega⟩
          rw [upd_ne npD.symm, upd_same, eg, List.length_map]
    · rintro H2 ⟨s2, xs, hl, hxl, hxs⟩
      rw [kmap_len] at hxl hxs
      refine ⟨hfz _ s2, ?_⟩
      have s3 : Same H (upd H2 d (.dK (kmap (fun x => .ref (ta x)) (nmsOf R)))) := same_unlock hd s2
      have hl3 : (upd H2 d (.dK (kmap (fun x => .ref (ta x)) (nmsOf R)))) D = some (.lst xs) := by
        rw [upd_ne ndD.symm]
        exact hl
      have hxs3 : ∀ x ∈ xs, ∃ t j, x = V.ref t ∧ (upd H2 d (.dK (kmap (fun x => .ref (ta x)) (nmsOf R)))) t = some (.tup [.int (-((course R ((nmsOf R).getD j.toNat "")).length : Int)), .int j, .str ((nmsOf R).getD j.toNat "")]) ∧ 0 ≤ j ∧ j < 100 := fun x hx => by
        obtain ⟨t, j, e, h1, h2, h3⟩ := hxs x hx
        refine ⟨t, j, e, ?_, h2, by omega⟩
        rw [upd_ne (ne_of h1 (hfz _ s2) (fun z => by cases z))]
        exact h1
      generalize upd H2 d (.dK (kmap (fun x => .ref (ta x)) (nmsOf R))) = H3 at s3 hl3 hxs3
      refine ⟨D, xs, fun j => -((course R ((nmsOf R).getD j.toNat "")).length : Int), fun j => (nmsOf R).getD j.toNat "", rfl, .inl (.inl hl3), by omega, hxs3, fun ys p hp np => ?_⟩
      have s4 : Same H3 (upd H3 p (.lst ys)) := same_upd np
      refine ⟨_, rfl, p, rfl, ⟨ys, .inl (.inl upd_same)⟩, fun L hL => ?_⟩
      have s5 : Same (upd H3 p (.lst ys)) (upd (upd H3 p (.lst ys)) L (.lst [])) := same_upd hL
      refine lc_list (K := K) (a := p) (xs := ys) (fun i H4 => Same (upd H3 p (.lst ys)) H4 ∧ ∃ zs : List V, H4 L = some (.lst zs) ∧ zs.length = i) ⟨s5, [], upd_same, rfl⟩ (fun i H4 hi h => .inl (.inl (h.1 _ _ upd_same))) ?_ ?_
      · rintro i x H4 hx ⟨s6, zs, hz, hzl⟩
        obtain ⟨t, j, rfl, h1, h2, h3⟩ := hxs3 x (hp.mem_iff.mp (List.mem_of_getElem? hx))
        have hi : i < ys.length := (List.getElem?_eq_some_iff.mp hx).1
        rw [hp.length_eq] at hi
        refine ⟨rfl, ?_⟩
        unfold tYes
        refine iteT ?_
        refine ⟨_, rfl, t, _, _, _, rfl, rfl, .inl (.inl (s6 _ _ (s4 _ _ h1))), atI_nat (j := 2) rfl, zs, hz, small1000 (by omega), fun b o hb => ?_, zs ++ [_], upd_same, by rw [List.length_append, hzl]; rfl⟩
        rw [upd_ne (ne_of_none hb hL)]
        exact s6 b o hb
      · rintro H4 ⟨s6, zs, hz, hzl⟩
        refine ⟨L, zs, rfl, .inl ⟨.inl (.inl hz), fun t nt => ?_⟩⟩
        have s7 : Same H (upd H4 t (.tup zs)) := ((s3.trans s4).trans s6).trans (same_upd nt)
        exact k _ t zs s7 (((s3.trans s4).trans s6).free nt) upd_same
end
end K0
end

/-! ## K0I -/
section
set_option Elab.async false
set_option linter.all false
set_option maxRecDepth 100000
namespace K0
open PySem PySem.Spec PyProof.Rows L2
abbrev sInit : Stmt := inClass sRiver 0
abbrev sEq : Stmt := inClass sRiver 1
abbrev sLen : Stmt := inClass sRiver 2
abbrev sIter : Stmt := inClass sRiver 3
abbrev sContains : Stmt := inClass sRiver 4
abbrev sRows : Stmt := inClass sRiver 5
abbrev sBelow : Stmt := inClass sRiver 6
abbrev sAboveM : Stmt := inClass sRiver 7
abbrev sCourseM : Stmt := inClass sRiver 8
abbrev sDepth : Stmt := inClass sRiver 9
abbrev sUpM : Stmt := inClass sRiver 10
/-- the class, as the top has made it -/
structure Rv (K : PySem.W.Frag) (mg : Str → Option Value) (C : Addr) : Prop where
  cl : Cls K C
  weirs : NoAttr K C "weirs"
  _rows : NoAttr K C "_rows"
  _below : NoAttr K C "_below"
  _courses : NoAttr K C "_courses"
  _above : NoAttr K C "_above"
  _upstream : NoAttr K C "_upstream"
  _deepest_first : NoAttr K C "_deepest_first"
  mgC : mg "River" = some (.ref C)
/-- the fields, in the order in which they are stored -/
def f1 (a : V) : List (Str × V) := putF "weirs" a []
def f2 (a b : V) : List (Str × V) := putF "_rows" b (f1 a)
def f3 (a b c : V) : List (Str × V) := putF "_below" c (f2 a b)
def f4 (a b c d : V) : List (Str × V) := putF "_courses" d (f3 a b c)
def f5 (a b c d e : V) : List (Str × V) := putF "_above" e (f4 a b c d)
def f6 (a b c d e g : V) : List (Str × V) := putF "_upstream" g (f5 a b c d e)
def f7 (a b c d e g h : V) : List (Str × V) := putF "_deepest_first" h (f6 a b c d e g)
theorem putF_len (n : Str) (v : V) : ∀ fs : List (Str × V), (putF n v fs).length ≤ fs.length + 1
  | [] => Nat.le_refl _
  | q :: r => by
    have ih := putF_len n v r
    show (if q.1 = n then (q.1, v) :: r else q :: putF n v r).length ≤ _
    split
    · simp
    · simp only [List.length_cons]; omega
section
variable (a b c d e g h : V)
theorem l1 : (f1 a).length ≤ 1 := putF_len _ _ _
theorem l2 : (f2 a b).length ≤ 2 := Nat.le_trans (putF_len _ _ _) (Nat.succ_le_succ (l1 a))
theorem l3 : (f3 a b c).length ≤ 3 := Nat.le_trans (putF_len _ _ _) (Nat.succ_le_succ (l2 a b))
theorem l4 : (f4 a b c d).length ≤ 4 := Nat.le_trans (putF_len _ _ _) (Nat.succ_le_succ (l3 a b c))
theorem l5 : (f5 a b c d e).length ≤ 5 := Nat.le_trans (putF_len _ _ _) (Nat.succ_le_succ (l4 a b c d))
theorem l6 : (f6 a b c d e g).length ≤ 6 := Nat.le_trans (putF_len _ _ _) (Nat.succ_le_succ (l5 a b c d e))
theorem g3b : (f3 a b c).lookup ("_below" : Str) = some c := by rw [f3, lookup_putF, if_pos rfl]
theorem g4b : (f4 a b c d).lookup ("_below" : Str) = some c := by rw [f4, lookup_putF, if_neg (by decide +kernel), g3b]
theorem g4w : (f4 a b c d).lookup ("weirs" : Str) = some a := by
  rw [f4, lookup_putF, if_neg (by decide +kernel), f3, lookup_putF, if_neg (by decide +kernel), f2, lookup_putF, if_neg (by decide +kernel), f1, lookup_putF, if_pos rfl]
theorem g4c : (f4 a b c d).lookup ("_courses" : Str) = some d := by rw [f4, lookup_putF, if_pos rfl]
theorem g5w : (f5 a b c d e).lookup ("weirs" : Str) = some a := by rw [f5, lookup_putF, if_neg (by decide +kernel), g4w]
theorem g5c : (f5 a b c d e).lookup ("_courses" : Str) = some d := by rw [f5, lookup_putF, if_neg (by decide +kernel), g4c]
theorem g6c : (f6 a b c d e g).lookup ("_courses" : Str) = some d := by rw [f6, lookup_putF, if_neg (by decide +kernel), g5c]
theorem g7w : (f7 a b c d e g h).lookup ("weirs" : Str) = some a := by rw [f7, lookup_putF, if_neg (by decide +kernel), f6, lookup_putF, if_neg (by decide +kernel), g5w]
theorem g7r : (f7 a b c d e g h).lookup ("_rows" : Str) = some b := by
  rw [f7, lookup_putF, if_neg (by decide +kernel), f6, lookup_putF, if_neg (by decide +kernel), f5, lookup_putF, if_neg (by decide +kernel), f4, lookup_putF, if_neg (by decide +kernel), f3, lookup_putF, if_neg (by decide +kernel), f2, lookup_putF, if_pos rfl]
theorem g7b : (f7 a b c d e g h).lookup ("_below" : Str) = some c := by
  rw [f7, lookup_putF, if_neg (by decide +kernel), f6, lookup_putF, if_neg (by decide +kernel), f5, lookup_putF, if_neg (by decide +kernel), g4b]
theorem g7c : (f7 a b c d e g h).lookup ("_courses" : Str) = some d := by rw [f7, lookup_putF, if_neg (by decide +kernel), g6c]
theorem g7a : (f7 a b c d e g h).lookup ("_above" : Str) = some e := by
  rw [f7, lookup_putF, if_neg (by decide +kernel), f6, lookup_putF, if_neg (by decide +kernel), f5, lookup_putF, if_pos rfl]
theorem g7u : (f7 a b c d e g h).lookup ("_upstream" : Str) = some g := by
  rw [f7, lookup_putF, if_neg (by decide +kernel), f6, lookup_putF, if_pos rfl]
theorem g7no {m : Str} (h1 : ¬ m = "weirs") (h2 : ¬ m = "_rows") (h3 : ¬ m = "_below") (h4 : ¬ m = "_courses") (h5 : ¬ m = "_above") (h6 : ¬ m = "_upstream") (h7 : ¬ m = "_deepest_first") : (f7 a b c d e g h).lookup m = none := by
  rw [f7, lookup_putF, if_neg h7, f6, lookup_putF, if_neg h6, f5, lookup_putF, if_neg h5, f4, lookup_putF, if_neg h4, f3, lookup_putF, if_neg h3, f2, lookup_putF, if_neg h2, f1, lookup_putF, if_neg h1]
  rfl
end
abbrev namesOf (AR : List (Addr × Row)) : List Str := nmsOf (rowsOf AR)
/-- a river of these rows stands at p -/
structure RivAt (C : Addr) (H : Hp) (p : Addr) (AR : List (Addr × Row)) : Prop where
  ex : ∃ (dx tw tr db dc da du : Addr) (o : V), H p = some (.ins C dx (f7 (.ref tw) (.ref tr) (.ref db) (.ref dc) (.ref da) (.ref du) o)) ∧
    H tw = some (.tup ((namesOf AR).map V.str)) ∧ H tr = some (.tup (AR.map fun q => V.ref q.1)) ∧ (∀ q ∈ AR, H q.1 = some (.tup [.str q.2.1, .str q.2.2])) ∧ H db = some (.dK (belowK (rowsOf AR))) ∧
    TupsAt H dc (namesOf AR) (course (rowsOf AR)) ∧ TupsAt H da (namesOf AR ++ [("sea" : Str)]) (aboveR (rowsOf AR)) ∧ TupsAt H du (namesOf AR) (upR (rowsOf AR))
theorem Same.riv {C : Addr} {H H' : Hp} {p : Addr} {AR : List (Addr × Row)} (s : Same H H') (r : RivAt C H p AR) : RivAt C H' p AR := by
  obtain ⟨dx, tw, tr, db, dc, da, du, o, h1, h2, h3, h4, h5, h6, h7, h8⟩ := r.ex
  exact ⟨dx, tw, tr, db, dc, da, du, o, s _ _ h1, s _ _ h2, s _ _ h3, fun q hq => s _ _ (h4 q hq), s _ _ h5, h6.same s, h7.same s, h8.same s⟩
abbrev scInit_N : List Str := ["self", "rows", "row", "weir", "low"]
abbrev scInit_S : Stmt := sInit
theorem scInit : FnScope scInit_N ["self", "rows"] (defScope sInit) := ⟨rfl, rfl, rfl, by decide +kernel, rfl, by decide +kernel, by decide +kernel⟩
def spInit (C : Addr) : Sp := fun vs H Q _ => ∃ (p l dx : Addr) (AR : List (Addr × Row)), vs = [.ref p, .ref l] ∧ H p = some (.ins C dx []) ∧ RowsAt H l AR ∧ GoodRows (rowsOf AR) ∧
  ∀ H', Upto p H H' → RivAt C H' p AR → Q .non H'
section
variable {P : Program} {w : World} {K : PySem.W.Frag} {mg : Str → Option Value} {base : Heap} {tS tM tL : Tok}
/-- the functions that a river's making calls -/
structure Mf (K : PySem.W.Frag) (mg : Str → Option Value) : Prop where
  isName : ∃ f fd, FnP K "is_name" sIsName f fd ∧ mg "is_name" = some (.ref f)
  isRow : ∃ f fd, FnP K "_is_row" sIsRow f fd ∧ mg "_is_row" = some (.ref f)
  needRows : ∃ f fd, FnP K "_need_rows" sNeedRows f fd ∧ mg "_need_rows" = some (.ref f)
  course : ∃ f fd, FnP K "_course" sCourse f fd ∧ mg "_course" = some (.ref f)
  find : ∃ f fd, FnP K "_find_courses" sFind f fd ∧ mg "_find_courses" = some (.ref f)
  above : ∃ f fd, FnP K "_directly_above" sAbove f fd ∧ mg "_directly_above" = some (.ref f)
  up : ∃ f fd, FnP K "_find_upstream" sUp f fd ∧ mg "_find_upstream" = some (.ref f)
  order : ∃ f fd, FnP K "_order_by_depth" sOrder f fd ∧ mg "_order_by_depth" = some (.ref f)
theorem ok_init {f Cr : Addr} {fd : FuncData} (F : FnM K "__init__" "River.__init__" sInit f fd) (M : Mf K mg) (T : Rv K mg Cr) (B : Bl mg) (C : Gc mg tS tM tL) : FnOk P w K mg base CX0 4 f fd ["self", "rows"] (spInit Cr) := by
  obtain ⟨a1, d1, F1, m1⟩ := M.isName
  obtain ⟨a2, d2, F2, m2⟩ := M.isRow
  obtain ⟨a3, d3, F_need_rows, g_need_rows⟩ := M.needRows
  obtain ⟨a4, d4, F4, m4⟩ := M.course
  obtain ⟨a5, d5, F_find_courses, g_find_courses⟩ := M.find
  obtain ⟨a6, d6, F_directly_above, g_directly_above⟩ := M.above
  obtain ⟨a7, d7, F_find_upstream, g_find_upstream⟩ := M.up
  obtain ⟨a8, d8, F_order_by_depth, g_order_by_depth⟩ := M.order
  have G_need_rows : FnOk P w K mg base CX0 3 a3 d3 ["rows"] (spNeedRows K) := ok_needrows F_need_rows F1 m1 F2 m2 B C
  have b_need_rows : Binds K d3 ["rows"] [] := F_need_rows.bindsN fun _ _ _ _ _ _ us hl => match us, hl with | [_], _ => rfl
  have G_find_courses : FnOk P w K mg base CX0 2 a5 d5 ["below"] (spFind K) := ok_find F_find_courses F4 m4 B C
  have b_find_courses : Binds K d5 ["below"] [] := F_find_courses.bindsN fun _ _ _ _ _ _ us hl => match us, hl with | [_], _ => rfl
  have G_directly_above : FnOk P w K mg base CX0 1 a6 d6 ["below", "low"] spAbove := ok_above F_directly_above B
  have b_directly_above : Binds K d6 ["below", "low"] [] := F_directly_above.bindsN fun _ _ _ _ _ _ us hl => match us, hl with | [_, _], _ => rfl
  have G_find_upstream : FnOk P w K mg base CX0 1 a7 d7 ["courses", "low"] spUp := ok_up F_find_upstream B
  have b_find_upstream : Binds K d7 ["courses", "low"] [] := F_find_upstream.bindsN fun _ _ _ _ _ _ us hl => match us, hl with | [_, _], _ => rfl
  have G_order_by_depth : FnOk P w K mg base CX0 1 a8 d8 ["courses"] spOrder := ok_order F_order_by_depth B
  have b_order_by_depth : Binds K d8 ["courses"] [] := F_order_by_depth.bindsN fun _ _ _ _ _ _ us hl => match us, hl with | [_], _ => rfl
  refine F.ok scInit (fun vs H Q E h => ?_) (fun cdv A outer s H vs Q E hr h => ?_)
  · obtain ⟨p, l, dx, AR, rfl, _⟩ := h
    rfl
  · obtain ⟨p, l, dx, AR, rfl, hp, hR, hG, k⟩ := h
    have hu := hu_of hr
    have hr_need_rows : Room 3 _ := hr.mono (by decide)
    have hr_find_courses : Room 2 _ := hr.mono (by decide)
    have hr_directly_above : Room 1 _ := hr.mono (by decide)
    have hr_find_upstream : Room 1 _ := hr.mono (by decide)
    have hr_order_by_depth : Room 1 _ := hr.mono (by decide)
    refine ⟨_, PSs.nox (pss_cons
      (ps_expr (pe_call G_need_rows hr_need_rows (by rfl) g_need_rows F_need_rows.kp b_need_rows .nil pass0 (pa_cons (pv 1) pa_nil)))
      (pss_cons
      (ps_fld (pv 0) (pe_callTy (tupleK (K := K)) (by rfl) B.tuple (by decide +kernel) (pa_cons (pe_lc (own := [("row", 2)]) (g := gName 2) (tt := tYes) (by rfl) scInit.nd (pi_list (pv 1)) (blkOk_by (own := [("row", 2)]) (N := scInit_N) (sc := defScope scInit_S) (by decide +kernel)) (fun _ _ _ _ _ => (pg_name (i := 2) scInit.nd rfl (Or.inl rfl))) (fun _ _ _ _ _ => pts_nil) (fun _ _ _ _ _ => (pe_ix (ixTK (K := K)) (pv 2) pe_int (fun _ _ => rfl)))) pa_nil)) rfl)
      (pss_cons
      (ps_fld (pv 0) (pe_callTy (tupleK (K := K)) (by rfl) B.tuple (by decide +kernel) (pa_cons (pv 1) pa_nil)) rfl)
      (pss_cons
      (ps_fld (pv 0) (pe_dc (own := [("weir", 3), ("low", 4)]) (tt := tYes) (by rfl) scInit.nd (pi_list (pv 1)) (blkOk_by (own := [("weir", 3), ("low", 4)]) (N := scInit_N) (sc := defScope scInit_S) (by decide +kernel)) (fun _ _ _ _ _ => (tgK (K := K) (n := 2) (by rfl) (pgs_cons (pg_name (i := 3) scInit.nd rfl (Or.inl rfl)) (pgs_cons (pg_name (i := 4) scInit.nd rfl (Or.inl rfl)) pgs_nil)))) (fun _ _ _ _ _ => pts_nil) (fun _ _ _ _ _ => (pv 3)) (fun _ _ _ _ _ => (pv 4))) rfl)
      (pss_cons
      (ps_fld (pv 0) (pe_call G_find_courses hr_find_courses (by rfl) g_find_courses F_find_courses.kp b_find_courses .nil pass0 (pa_cons (fldK (K := K) (pv 0) rfl) pa_nil)) rfl)
      (pss_cons
      (ps_fld (pv 0) (pe_dc (own := [("low", 4)]) (g := gName 4) (tt := tYes) (by rfl) scInit.nd (pi_tup (pe_op op_catT (fldK (K := K) (pv 0) rfl) (pe_tup (pa_cons (pe_glob (v := .str "sea") (by rfl) C.SEA ⟨_, rfl⟩) pa_nil)))) (blkOk_by (own := [("low", 4)]) (N := scInit_N) (sc := defScope scInit_S) (by decide +kernel)) (fun _ _ _ _ _ => (pg_name (i := 4) scInit.nd rfl (Or.inl rfl))) (fun _ _ _ _ _ => pts_nil) (fun _ _ _ _ _ => (pv 4)) (fun _ _ _ _ _ => (pe_call G_directly_above hr_directly_above (by rfl) g_directly_above F_directly_above.kp b_directly_above .nil pass0 (pa_cons (fldK (K := K) (pv 0) rfl) (pa_cons (pv 4) pa_nil))))) rfl)
      (pss_cons
      (ps_fld (pv 0) (pe_dc (own := [("weir", 3)]) (g := gName 3) (tt := tYes) (by rfl) scInit.nd (pi_tup (fldK (K := K) (pv 0) rfl)) (blkOk_by (own := [("weir", 3)]) (N := scInit_N) (sc := defScope scInit_S) (by decide +kernel)) (fun _ _ _ _ _ => (pg_name (i := 3) scInit.nd rfl (Or.inl rfl))) (fun _ _ _ _ _ => pts_nil) (fun _ _ _ _ _ => (pv 3)) (fun _ _ _ _ _ => (pe_call G_find_upstream hr_find_upstream (by rfl) g_find_upstream F_find_upstream.kp b_find_upstream .nil pass0 (pa_cons (fldK (K := K) (pv 0) rfl) (pa_cons (pv 3) pa_nil))))) rfl)
      (pss_one
      (ps_fld (pv 0) (pe_call G_order_by_depth hr_order_by_depth (by rfl) g_order_by_depth F_order_by_depth.kp b_order_by_depth .nil pass0 (pa_cons (fldK (K := K) (pv 0) rfl) pa_nil)) rfl))))))))), ?_⟩
    have hins : ∀ {o : HO} {a : Addr} {H' : Hp} {fs : List (Str × V)}, H' p = some (.ins Cr dx fs) → H' a = some o → (∀ z1 z2 z3, o ≠ .ins z1 z2 z3) → a ≠ p := fun h1 h2 n => ne_of h2 h1 (n _ _ _)
    have tupsU : ∀ {H1 H2 : Hp} {fs : List (Str × V)} {c : Addr} {ns : List Str} {g : Str → List Str}, H1 p = some (.ins Cr dx fs) → Upto p H1 H2 → TupsAt H1 c ns g → TupsAt H2 c ns g := fun h1 u t => by
      obtain ⟨ta, q1, q2⟩ := t.ex
      exact ⟨ta, u _ _ q1 (hins h1 q1 (fun _ _ _ z => by cases z)), fun x hx => u _ _ (q2 x hx) (hins h1 (q2 x hx) (fun _ _ _ z => by cases z))⟩
    have hRm := hG.most
    have hAl : (rowsOf AR).length = AR.length := List.length_map _
    have hnl : (namesOf AR).length = AR.length := nmlen AR
    have hnd := hG.nm.nd
    have rowat : ∀ {i : Nat} (hi : i < AR.length), (namesOf AR)[i]? = some AR[i].2.1 ∧ lowR (rowsOf AR) AR[i].2.1 = AR[i].2.2 := fun {i} hi => by
      refine ⟨?_, low_at hnd (List.mem_map.mpr ⟨_, List.getElem_mem hi, rfl⟩)⟩
      show (((AR.map (·.2)).map (·.1)))[i]? = _
      rw [List.getElem?_map, List.getElem?_map, List.getElem?_eq_getElem hi]
      rfl
    -- _need_rows(rows)
    refine ⟨_, rfl, l, AR, rfl, hR, hG, fun H1 s1 => ?_⟩
    have p1 := s1 _ _ hp
    have R1 := hR.same s1
    -- self.weirs
    refine ⟨_, rfl, l, rfl, ⟨_, .inl (.inl R1.lst)⟩, fun D hD => ?_⟩
    have sD : Same H1 (upd H1 D (.lst [])) := same_upd hD
    refine lc_list (K := K) (a := l) (xs := AR.map fun q => V.ref q.1) (fun i H2 => Same H1 H2 ∧ H2 D = some (.lst (((namesOf AR).take i).map V.str))) ⟨sD, by rw [upd_same, List.take_zero]; rfl⟩ (fun i H2 hi h => .inl (.inl (h.1 _ _ R1.lst))) ?_ ?_
    · rintro i x H2 hx ⟨s2, hl⟩
      have hi : i < AR.length := by
        have := (List.getElem?_eq_some_iff.mp hx).1
        rw [List.length_map] at this
        exact this
      have ex := row_at hx hi
      subst ex
      refine ⟨rfl, ?_⟩
      unfold tYes
      refine iteT ?_
      refine ⟨_, rfl, AR[i].1, _, _, _, rfl, rfl, .inl (.inl (s2 _ _ (R1.tup _ (List.getElem_mem hi)))), atI_nat (j := 0) rfl, _, hl, ?_, fun b o hb => ?_, ?_⟩
      · rw [List.length_map, List.length_take]
        exact small1000 (by omega)
      · rw [upd_ne (ne_of_none hb hD)]
        exact s2 b o hb
      · rw [upd_same, List.take_add_one, (rowat hi).1, List.map_append]
        rfl
    rintro H2 ⟨s2, hl⟩
    rw [List.take_of_length_le (by rw [hnl, List.length_map]; exact Nat.le_refl _)] at hl
    refine ⟨D, _, rfl, .inl ⟨.inl (.inl hl), fun tw nw => ?_⟩⟩
    have s3 : Same H (upd H2 tw (.tup ((namesOf AR).map V.str))) := (s1.trans s2).trans (same_upd nw)
    have w3 : (upd H2 tw (.tup ((namesOf AR).map V.str))) tw = some (.tup ((namesOf AR).map V.str)) := upd_same
    generalize upd H2 tw (.tup ((namesOf AR).map V.str)) = H3 at s3 w3
    have p3 := s3 _ _ hp
    refine ⟨_, rfl, p, Cr, dx, _, rfl, p3, T.cl, T.weirs, by show 0 < 1000; decide, ?_⟩
    have u4 : Upto p H (upd H3 p (.ins Cr dx (f1 (.ref tw)))) := (Upto.of s3).trans Upto.at_
    have w4 : (upd H3 p (.ins Cr dx (f1 (.ref tw)))) tw = some (.tup ((namesOf AR).map V.str)) := by
      rw [upd_ne (hins p3 w3 (fun _ _ _ z => by cases z))]
      exact w3
    have p4 : (upd H3 p (.ins Cr dx (f1 (.ref tw)))) p = some (.ins Cr dx (f1 (.ref tw))) := upd_same
    show tSeq _ _ _ _ (upd H3 p (.ins Cr dx (f1 (.ref tw))))
    generalize upd H3 p (.ins Cr dx (f1 (.ref tw))) = H4 at u4 w4 p4
    have R4 : RowsAt H4 l AR := ⟨u4 _ _ hR.lst (hins hp hR.lst (fun _ _ _ z => by cases z)), fun q hq => u4 _ _ (hR.tup q hq) (hins hp (hR.tup q hq) (fun _ _ _ z => by cases z))⟩
    -- self._rows
    refine ⟨_, rfl, l, _, rfl, .inl ⟨.inl (.inl R4.lst), fun tr nr => ?_⟩⟩
    have keepP : ∀ {Hk : Hp} {fs : List (Str × V)} {o X : HO} {a : Addr}, Hk p = some (.ins Cr dx fs) → Hk a = some o → (∀ z1 z2 z3, o ≠ .ins z1 z2 z3) → (upd Hk p X) a = some o := fun h1 h2 n => by
      rw [upd_ne (hins h1 h2 n)]
      exact h2
    have rowsU : ∀ {H1 H2 : Hp}, Upto p H H2 → RowsAt H2 l AR := fun u => ⟨u _ _ hR.lst (hins hp hR.lst (fun _ _ _ z => by cases z)), fun q hq => u _ _ (hR.tup q hq) (hins hp (hR.tup q hq) (fun _ _ _ z => by cases z))⟩
    have s5 : Same H4 (upd H4 tr (.tup (AR.map fun q => V.ref q.1))) := same_upd nr
    have r5 : (upd H4 tr (.tup (AR.map fun q => V.ref q.1))) tr = some (.tup (AR.map fun q => V.ref q.1)) := upd_same
    generalize upd H4 tr (.tup (AR.map fun q => V.ref q.1)) = H5 at s5 r5
    have p5 := s5 _ _ p4
    have w5 := s5 _ _ w4
    refine ⟨_, rfl, p, Cr, dx, _, rfl, p5, T.cl, T._rows, by have := l1 (.ref tw); omega, ?_⟩
    have u6 : Upto p H (upd H5 p (.ins Cr dx (f2 (.ref tw) (.ref tr)))) := (u4.trans (Upto.of s5)).trans Upto.at_
    have w6 : (upd H5 p (.ins Cr dx (f2 (.ref tw) (.ref tr)))) tw = _ := keepP p5 w5 (fun _ _ _ z => by cases z)
    have r6 : (upd H5 p (.ins Cr dx (f2 (.ref tw) (.ref tr)))) tr = _ := keepP p5 r5 (fun _ _ _ z => by cases z)
    have p6 : (upd H5 p (.ins Cr dx (f2 (.ref tw) (.ref tr)))) p = some (.ins Cr dx (f2 (.ref tw) (.ref tr))) := upd_same
    show tSeq _ _ _ _ (upd H5 p (.ins Cr dx (f2 (.ref tw) (.ref tr))))
    generalize upd H5 p (.ins Cr dx (f2 (.ref tw) (.ref tr))) = H6 at u6 w6 r6 p6
    have R6 : RowsAt H6 l AR := rowsU (H1 := H6) u6
    -- self._below
    refine ⟨_, rfl, l, rfl, ⟨_, .inl (.inl R6.lst)⟩, fun db ndb => ?_⟩
    refine dc_it (walk_list (K := K) (a := l) (xs := AR.map fun q => V.ref q.1)) (fun i H7 => Same H6 H7 ∧ H7 db = some (.dK (kmap (fun y => .str (lowR (rowsOf AR) y)) ((namesOf AR).take i)))) ⟨same_upd ndb, by rw [upd_same, List.take_zero]; rfl⟩ (fun i H7 hi h => .inl (.inl (h.1 _ _ R6.lst))) ?_ ?_
    · rintro i x H7 H7' hi ⟨s7, hb7⟩ ⟨e, hx⟩
      subst e
      rw [List.length_map] at hi
      have ex := row_at hx hi
      subst ex
      obtain ⟨hn, hlow⟩ := rowat hi
      refine ⟨AR[i].1, _, rfl, .inl (.inl (s7 _ _ (R6.tup _ (List.getElem_mem hi)))), rfl, _, _, rfl, _, _, rfl, rfl, rfl, ?_⟩
      unfold tYes
      refine iteT ?_
      refine ⟨_, rfl, _, rfl, _, Sum.inr AR[i].2.1, rfl, hb7, ?_, fun b o hb => ?_, ?_⟩
      · rw [kmap_len, List.length_take]
        exact small1000 (by omega)
      · rw [upd_ne (ne_of_none hb ndb)]
        exact s7 b o hb
      · have hput := kmap_put (f := fun y => V.str (lowR (rowsOf AR) y)) (nodup_take hnd hn)
        rw [hlow] at hput
        rw [upd_same, hput, List.take_add_one, hn]
        rfl
    rintro H7 ⟨s7, hb7⟩
    rw [List.take_of_length_le (by rw [hnl, List.length_map]; exact Nat.le_refl _)] at hb7
    have p7 := s7 _ _ p6
    have w7 := s7 _ _ w6
    have r7 := s7 _ _ r6
    refine ⟨_, rfl, p, Cr, dx, _, rfl, p7, T.cl, T._below, by have := l2 (.ref tw) (.ref tr); omega, ?_⟩
    have u8 : Upto p H (upd H7 p (.ins Cr dx (f3 (.ref tw) (.ref tr) (.ref db)))) := (u6.trans (Upto.of s7)).trans Upto.at_
    have w8 : (upd H7 p (.ins Cr dx (f3 (.ref tw) (.ref tr) (.ref db)))) tw = _ := keepP p7 w7 (fun _ _ _ z => by cases z)
    have r8 : (upd H7 p (.ins Cr dx (f3 (.ref tw) (.ref tr) (.ref db)))) tr = _ := keepP p7 r7 (fun _ _ _ z => by cases z)
    have b8 : (upd H7 p (.ins Cr dx (f3 (.ref tw) (.ref tr) (.ref db)))) db = _ := keepP p7 hb7 (fun _ _ _ z => by cases z)
    have p8 : (upd H7 p (.ins Cr dx (f3 (.ref tw) (.ref tr) (.ref db)))) p = some (.ins Cr dx (f3 (.ref tw) (.ref tr) (.ref db))) := upd_same
    show tSeq _ _ _ _ (upd H7 p (.ins Cr dx (f3 (.ref tw) (.ref tr) (.ref db))))
    generalize upd H7 p (.ins Cr dx (f3 (.ref tw) (.ref tr) (.ref db))) = H8 at u8 w8 r8 b8 p8
    -- self._courses
    refine ⟨_, rfl, p, Cr, dx, _, _, rfl, p8, T.cl, T._below, g3b _ _ _, db, rowsOf AR, rfl, b8, hG, fun H9 dc s9 ndc c9 => ?_⟩
    have p9 := s9 _ _ p8
    refine ⟨_, rfl, p, Cr, dx, _, rfl, p9, T.cl, T._courses, by have := l3 (.ref tw) (.ref tr) (.ref db); omega, ?_⟩
    have ua : Upto p H (upd H9 p (.ins Cr dx (f4 (.ref tw) (.ref tr) (.ref db) (.ref dc)))) := (u8.trans (Upto.of s9)).trans Upto.at_
    have wa : (upd H9 p (.ins Cr dx (f4 (.ref tw) (.ref tr) (.ref db) (.ref dc)))) tw = _ := keepP p9 (s9 _ _ w8) (fun _ _ _ z => by cases z)
    have ra : (upd H9 p (.ins Cr dx (f4 (.ref tw) (.ref tr) (.ref db) (.ref dc)))) tr = _ := keepP p9 (s9 _ _ r8) (fun _ _ _ z => by cases z)
    have ba : (upd H9 p (.ins Cr dx (f4 (.ref tw) (.ref tr) (.ref db) (.ref dc)))) db = _ := keepP p9 (s9 _ _ b8) (fun _ _ _ z => by cases z)
    have ca : TupsAt (upd H9 p (.ins Cr dx (f4 (.ref tw) (.ref tr) (.ref db) (.ref dc)))) dc (namesOf AR) (course (rowsOf AR)) := tupsU p9 Upto.at_ c9
    have pa : (upd H9 p (.ins Cr dx (f4 (.ref tw) (.ref tr) (.ref db) (.ref dc)))) p = some (.ins Cr dx (f4 (.ref tw) (.ref tr) (.ref db) (.ref dc))) := upd_same
    show tSeq _ _ _ _ (upd H9 p (.ins Cr dx (f4 (.ref tw) (.ref tr) (.ref db) (.ref dc))))
    generalize upd H9 p (.ins Cr dx (f4 (.ref tw) (.ref tr) (.ref db) (.ref dc))) = Ha at ua wa ra ba ca pa
    -- self._above
    refine ⟨_, rfl, p, Cr, dx, _, _, rfl, pa, T.cl, T.weirs, g4w _ _ _ _, by show 1 ≤ sizeLine; decide, fun q nq => ?_⟩
    have sq : Same Ha (upd Ha q (.tup [.str "sea"])) := same_upd nq
    have hq1 : (upd Ha q (.tup [.str "sea"])) q = some (.tup [.str "sea"]) := upd_same
    generalize upd Ha q (.tup [.str "sea"]) = Hb at sq hq1
    have hne : (namesOf AR).map V.str ≠ [] := fun z => by
      have z2 := congrArg List.length z
      rw [List.length_map, hnl] at z2
      have := hG.one
      have z3 : AR.length = 0 := z2
      omega
    refine ⟨tw, q, _, _, rfl, rfl, .inl (.inl (sq _ _ wa)), .inl (.inl hq1), hne, ?_, (fun z => nomatch z), fun _ tz nz => ?_⟩
    · rw [List.length_map, hnl]
      exact Nat.le_of_lt (small1000 (by show AR.length + 1 ≤ 1000; omega))
    have sz : Same Ha (upd Hb tz (.tup ((namesOf AR).map V.str ++ [.str "sea"]))) := sq.trans (same_upd nz)
    have hz1 : (upd Hb tz (.tup ((namesOf AR).map V.str ++ [.str "sea"]))) tz = some (.tup ((namesOf AR ++ [("sea" : Str)]).map V.str)) := by
      rw [upd_same, List.map_append]
      rfl
    have ezz : (namesOf AR).map V.str ++ [.str "sea"] = (namesOf AR ++ [("sea" : Str)]).map V.str := by
      rw [List.map_append]
      rfl
    generalize upd Hb tz (.tup ((namesOf AR).map V.str ++ [.str "sea"])) = Hc at sz hz1
    refine ⟨tz, rfl, ⟨_, .inl (.inl hz1)⟩, fun da nda => ?_⟩
    have nsea : (namesOf AR ++ [("sea" : Str)]).Nodup := nd_snoc hnd fun z => hG.nm.sea _ z rfl
    refine dc_it (walk_tup (K := K) (a := tz) (xs := (namesOf AR ++ [("sea" : Str)]).map V.str)) (fun i Hd => Same Hc Hd ∧ TupsAt Hd da ((namesOf AR ++ [("sea" : Str)]).take i) (aboveR (rowsOf AR))) ⟨same_upd nda, ⟨fun _ => 0, by rw [upd_same, List.take_zero]; rfl, fun x hx => by rw [List.take_zero] at hx; cases hx⟩⟩ (fun i Hd hi h => .inl (.inl (h.1 _ _ hz1))) ?_ ?_
    · rintro i x Hd Hd' hi ⟨sd, Td⟩ ⟨e, hx⟩
      subst e
      rw [List.length_map] at hi
      obtain ⟨y, hy, rfl⟩ : ∃ y, (namesOf AR ++ [("sea" : Str)])[i]? = some y ∧ x = .str y := by
        rw [List.getElem?_map, List.getElem?_eq_getElem hi] at hx
        exact ⟨_, List.getElem?_eq_getElem hi, (Option.some.inj hx).symm⟩
      refine ⟨rfl, ?_⟩
      unfold tYes
      refine iteT ?_
      refine ⟨_, rfl, _, rfl, p, Cr, dx, _, _, rfl, sd _ _ (sz _ _ pa), T.cl, T._below, g4b _ _ _ _, _, rfl, db, rowsOf AR, y, rfl, sd _ _ (sz _ _ ba), hG, fun He t se nt ht => ?_⟩
      obtain ⟨ta, q1, q2⟩ := (Td.same se).ex
      refine ⟨_, Sum.inr y, rfl, q1, ?_, fun b o hb => ?_, ?_⟩
      · rw [kmap_len, List.length_take, List.length_append, hnl]
        exact small1000 (by show min i (AR.length + 1) ≤ 1000; omega)
      · rw [upd_ne (ne_of_none hb nda)]
        exact se _ _ (sd b o hb)
      · have hm := tups_more q1 q2 (nodup_take nsea hy) ht
        rw [List.take_add_one, hy]
        exact hm
    rintro Hd ⟨sd, Td⟩
    rw [List.length_map, List.take_length] at Td
    have pd := sd _ _ (sz _ _ pa)
    refine ⟨_, rfl, p, Cr, dx, _, rfl, pd, T.cl, T._above, by have := l4 (.ref tw) (.ref tr) (.ref db) (.ref dc); omega, ?_⟩
    have scd : Same Ha Hd := sz.trans sd
    have ue : Upto p H (upd Hd p (.ins Cr dx (f5 (.ref tw) (.ref tr) (.ref db) (.ref dc) (.ref da)))) := (ua.trans (Upto.of scd)).trans Upto.at_
    have we : (upd Hd p (.ins Cr dx (f5 (.ref tw) (.ref tr) (.ref db) (.ref dc) (.ref da)))) tw = _ := keepP pd (scd _ _ wa) (fun _ _ _ z => by cases z)
    have re : (upd Hd p (.ins Cr dx (f5 (.ref tw) (.ref tr) (.ref db) (.ref dc) (.ref da)))) tr = _ := keepP pd (scd _ _ ra) (fun _ _ _ z => by cases z)
    have be : (upd Hd p (.ins Cr dx (f5 (.ref tw) (.ref tr) (.ref db) (.ref dc) (.ref da)))) db = _ := keepP pd (scd _ _ ba) (fun _ _ _ z => by cases z)
    have ce := tupsU (H2 := upd Hd p (.ins Cr dx (f5 (.ref tw) (.ref tr) (.ref db) (.ref dc) (.ref da)))) pd Upto.at_ (ca.same scd)
    have ae := tupsU (H2 := upd Hd p (.ins Cr dx (f5 (.ref tw) (.ref tr) (.ref db) (.ref dc) (.ref da)))) pd Upto.at_ Td
    have pe' : (upd Hd p (.ins Cr dx (f5 (.ref tw) (.ref tr) (.ref db) (.ref dc) (.ref da)))) p = some (.ins Cr dx (f5 (.ref tw) (.ref tr) (.ref db) (.ref dc) (.ref da))) := upd_same
    show tSeq _ _ _ _ (upd Hd p (.ins Cr dx (f5 (.ref tw) (.ref tr) (.ref db) (.ref dc) (.ref da))))
    generalize upd Hd p (.ins Cr dx (f5 (.ref tw) (.ref tr) (.ref db) (.ref dc) (.ref da))) = Hf at ue we re be ce ae pe'
    -- self._upstream
    refine ⟨_, rfl, p, Cr, dx, _, _, rfl, pe', T.cl, T.weirs, g5w _ _ _ _ _, tw, rfl, ⟨_, .inl (.inl we)⟩, fun du ndu => ?_⟩
    refine dc_it (walk_tup (K := K) (a := tw) (xs := (namesOf AR).map V.str)) (fun i Hg => Same Hf Hg ∧ TupsAt Hg du ((namesOf AR).take i) (upR (rowsOf AR))) ⟨same_upd ndu, ⟨fun _ => 0, by rw [upd_same, List.take_zero]; rfl, fun x hx => by rw [List.take_zero] at hx; cases hx⟩⟩ (fun i Hg hi h => .inl (.inl (h.1 _ _ we))) ?_ ?_
    · rintro i x Hg Hg' hi ⟨sg, Tg⟩ ⟨e, hx⟩
      subst e
      rw [List.length_map] at hi
      obtain ⟨y, hy, rfl⟩ : ∃ y, (namesOf AR)[i]? = some y ∧ x = .str y := by
        rw [List.getElem?_map, List.getElem?_eq_getElem hi] at hx
        exact ⟨_, List.getElem?_eq_getElem hi, (Option.some.inj hx).symm⟩
      refine ⟨rfl, ?_⟩
      unfold tYes
      refine iteT ?_
      refine ⟨_, rfl, _, rfl, p, Cr, dx, _, _, rfl, sg _ _ pe', T.cl, T._courses, g5c _ _ _ _ _, _, rfl, dc, rowsOf AR, y, rfl, ce.same sg, hG, fun He t se nt ht => ?_⟩
      obtain ⟨ta, q1, q2⟩ := (Tg.same se).ex
      refine ⟨_, Sum.inr y, rfl, q1, ?_, fun b o hb => ?_, ?_⟩
      · rw [kmap_len, List.length_take, hnl]
        exact small1000 (by omega)
      · rw [upd_ne (ne_of_none hb ndu)]
        exact se _ _ (sg b o hb)
      · have hm := tups_more q1 q2 (nodup_take hnd hy) ht
        rw [List.take_add_one, hy]
        exact hm
    rintro Hg ⟨sg, Tg⟩
    rw [List.length_map, List.take_length] at Tg
    have pg := sg _ _ pe'
    refine ⟨_, rfl, p, Cr, dx, _, rfl, pg, T.cl, T._upstream, by have := l5 (.ref tw) (.ref tr) (.ref db) (.ref dc) (.ref da); omega, ?_⟩
    have uh : Upto p H (upd Hg p (.ins Cr dx (f6 (.ref tw) (.ref tr) (.ref db) (.ref dc) (.ref da) (.ref du)))) := (ue.trans (Upto.of sg)).trans Upto.at_
    have wh : (upd Hg p (.ins Cr dx (f6 (.ref tw) (.ref tr) (.ref db) (.ref dc) (.ref da) (.ref du)))) tw = _ := keepP pg (sg _ _ we) (fun _ _ _ z => by cases z)
    have rh : (upd Hg p (.ins Cr dx (f6 (.ref tw) (.ref tr) (.ref db) (.ref dc) (.ref da) (.ref du)))) tr = _ := keepP pg (sg _ _ re) (fun _ _ _ z => by cases z)
    have bh : (upd Hg p (.ins Cr dx (f6 (.ref tw) (.ref tr) (.ref db) (.ref dc) (.ref da) (.ref du)))) db = _ := keepP pg (sg _ _ be) (fun _ _ _ z => by cases z)
    have ch := tupsU (H2 := upd Hg p (.ins Cr dx (f6 (.ref tw) (.ref tr) (.ref db) (.ref dc) (.ref da) (.ref du)))) pg Upto.at_ (ce.same sg)
    have ah := tupsU (H2 := upd Hg p (.ins Cr dx (f6 (.ref tw) (.ref tr) (.ref db) (.ref dc) (.ref da) (.ref du)))) pg Upto.at_ (ae.same sg)
    have uph := tupsU (H2 := upd Hg p (.ins Cr dx (f6 (.ref tw) (.ref tr) (.ref db) (.ref dc) (.ref da) (.ref du)))) pg Upto.at_ Tg
    have ph : (upd Hg p (.ins Cr dx (f6 (.ref tw) (.ref tr) (.ref db) (.ref dc) (.ref da) (.ref du)))) p = some (.ins Cr dx (f6 (.ref tw) (.ref tr) (.ref db) (.ref dc) (.ref da) (.ref du))) := upd_same
    refine ⟨_, rfl, p, Cr, dx, _, _, rfl, ph, T.cl, T._courses, g6c _ _ _ _ _ _, dc, rowsOf AR, rfl, ch, hG, fun Hi t ys si nt hti => ?_⟩
    have pi := si _ _ ph
    refine ⟨_, rfl, p, Cr, dx, _, rfl, pi, T.cl, T._deepest_first, by have := l6 (.ref tw) (.ref tr) (.ref db) (.ref dc) (.ref da) (.ref du); omega, ?_⟩
    have R0 : RowsAt Hi l AR := rowsU (H1 := Hi) (uh.trans (Upto.of si))
    refine k _ ((uh.trans (Upto.of si)).trans Upto.at_) ⟨dx, tw, tr, db, dc, da, du, .ref t, upd_same, keepP pi (si _ _ wh) (fun _ _ _ z => by cases z), keepP pi (si _ _ rh) (fun _ _ _ z => by cases z), fun q hq => keepP pi (R0.tup q hq) (fun _ _ _ z => by cases z), keepP pi (si _ _ bh) (fun _ _ _ z => by cases z),
      tupsU pi Upto.at_ (ch.same si), tupsU pi Upto.at_ (ah.same si), tupsU pi Upto.at_ (uph.same si)⟩
end
end K0
end

/-! ## K0J -/
section
set_option Elab.async false
set_option linter.all false
set_option maxRecDepth 100000
namespace L2
open PySem PySem.Spec PyProof.Rows
/-! ### a def whose promise may speak of how large the heap is at its call -/
structure FnOkN (P : Program) (w : World) (K : PySem.W.Frag) (mg : Str → Option Value) (base : Heap) (CX : CXT) (k : Nat) (f : Addr) (fd : FuncData) (ps : List Str) (sp : Nat → Sp) : Prop where
  len : ∀ n vs H Q E, sp n vs H Q E → vs.length = ps.length
  run : ∀ (A : Around) (outer : List Env) (s : Shared) (H : Hp) (args : Args) (us : List Value) (vs : List V) (Q : VK) (E : XK), Room k A → Env0 P w K mg base A outer s H → BindsTo s fd args (ps.zip us) → Vals vs us → sp s.heap.objs.size vs H Q E →
    codeAny (model P w) A (.call (.ref f) args) (CR CX outer P w H s Q E) s
theorem k0_fn_ofN {CX : CXT} {P : Program} {w : World} {K : PySem.W.Frag} {mg : Str → Option Value} {base : Heap} {k : Nat} {f : Addr} {name qual : Str} {params : Arguments} {body : List Stmt} {scope : Scope} {dV kV doc pm cdv ct oc : Value} {an od : Option Addr}
    {osl : Array (Option Value)} {N ps : List Str} {sp : Nat → Sp} (lk : K.lookup f = some ⟨oc, od, .func (PySem.W.fnOf name qual params body scope dV kV doc pm an cdv ct), osl⟩) (hcd : PySem.W.codeIn K cdv qual = true) (S : FnScope N ps scope)
    (len : ∀ n vs H Q E, sp n vs H Q E → vs.length = ps.length)
    (hbody : ∀ (A : Around) (outer : List Env) (s : Shared) (H : Hp) (vs : List V) (Q : VK) (E : XK), Room k (A.deeper (envOfC qual scope s.heap.objs.size f cdv)) → sp s.heap.objs.size vs H Q E →
      ∃ t, PSs (cxOf CX P w K mg base N qual scope f cdv A outer s H E) body t ∧ t { nx := fun _ H' => Q .non H', rt := Q } (start N vs) H) :
    FnOkN P w K mg base CX (k + 1) f (PySem.W.fnOf name qual params body scope dV kV doc pm an cdv ct) ps sp := by
  refine ⟨len, fun A outer s H args us vs Q E hr e0 hb r hsp => ?_⟩
  have hl := len _ _ _ _ _ hsp
  have KX : K.In s.heap := e0.mod.kin.keeps fun b o e => (e0.bs b o e).1
  have lim : s.heap.NoLimit := e0.mod.nolimit.keeps fun b o e => (e0.bs b o e).1
  have hkind : ∀ y ∈ ps.zip us, scope.names.lookup y.1 = some .local ∨ (scope.names.lookup y.1 = some .cell ∧ ((cellsFrom (s.heap.objs.size + 1) scope.names []).lookup y.1).isSome = true) := fun ⟨n, v⟩ hy => by
    rcases S.par n (List.of_mem_zip hy).1 with q | q
    · exact .inl q
    · exact .inr ⟨q, PySem.W.cellsFrom_some _ _ _ (.inl q)⟩
  refine codeAny_call_function hr.depth (KX _ _ lk) rfl S.co S.gen rfl (PySem.W.codeRec_of KX hcd) (hb _ _ _ _ ?_)
  refine wpAny_newFunctionEnv_cells S.kind hkind fun env he s1 x => ?_
  subst he
  refine ⟨lim.keeps x.toInCall.keep, codeAny_func ?_⟩
  obtain ⟨t, ht, hq⟩ := hbody A outer s H vs Q E (hr.deeper _) hsp
  have I : Inv (cxOf CX P w K mg base N qual scope f cdv A outer s H E) [] (start N vs) H s1 := inv_start S hr.hd e0 hl r x
  refine wpAny_mono (ht.run [] s1 (start N vs) H _ I hq) (fun fl s' hs => ?_) fun e s' hs => hs
  have fin : ∀ {σ' : St} {H' : Hp} {v : V} {u : Value}, Inv (cxOf CX P w K mg base N qual scope f cdv A outer s H E) [] σ' H' s' → RelV v u → Q v H' → CE outer P w H s Q u s' :=
    fun {σ' H' v u} J rv q => ⟨v, H', J.os, J.bare, J.base, J.hok, rv, q⟩
  cases fl with
  | ret u =>
    obtain ⟨v, σ', H', J, rv, q⟩ := hs
    exact fin J rv q
  | next =>
    obtain ⟨σ', H', J, q⟩ := hs
    exact fin (v := V.non) (u := Value.none) J rfl q
  | brk =>
    obtain ⟨_, _, _, q⟩ := hs
    exact False.elim q
  | cont =>
    obtain ⟨_, _, _, q⟩ := hs
    exact False.elim q
/-! ### iter of a tuple -/
def k0_itObj (t : Addr) : Obj := { cls := .type "tuple_iterator", data := .fields #[.ref t, .int 0 0] }
def K0It (t it : Addr) : HO := .ext fun h => h.get? it = some (k0_itObj t)
theorem k0_it_ok {P : Program} {w : World} {H : Hp} {h : Heap} {t it : Addr} (e : h.get? it = some (k0_itObj t)) : ObjOk P w H h it (K0It t it) := ⟨e, ⟨_, e⟩, fun h1 h2 q k => k _ q⟩
theorem k0_call_iter {prog : Program} {w : World} {A : Around} {E : Value → Shared → Prop} {s : Shared} {t : Addr} {items : Array Value} {Q : Value → Shared → Prop} (ht : s.heap.IsTuple t items) (h : Q (.ref s.heap.objs.size) { s with heap := s.heap.push (k0_itObj t) }) :
    wpAny (model prog w) A (call (.builtin "iter") [.ref t]) Q E s := by
  refine Calls.call_function_entry (by decide +kernel) (by decide +kernel) PySem.W.kdk_entry_iter (PySem.W.kdk_args_iter _) ?_
  unfold Builtin.«iter»
  refine wpAny_bind (m := someArgs "iter" 1 2 _) (wpAny_of_eq (a := [Value.ref t]) (by first | rfl | kernel_rfl!) ?_)
  show wpAny _ _ (pyIter (.ref t) >>= _) _ _ _
  refine wpAny_bind (wpAny_pyIter_tuple ht ?_)
  exact wpAny_pure ⟨_, rfl, h⟩
def k0_rIter (K : PySem.W.Frag) (n : Nat) : List V → Hp → VK → Prop := fun xs H Q => ∃ (t : Addr) (zs : List V), xs = [.ref t] ∧ SqT K H t zs ∧ ∀ it, H it = Option.none → n ≤ it → Q (.ref it) (upd H it (K0It t it))
section
variable {X : Cx}
theorem k0_cr_iter : CallR X (.builtin "iter") (k0_rIter X.K X.s_0.heap.objs.size) := by
  intro pins s σ H xs us Q I r h
  obtain ⟨t, zs, rfl, hq, q⟩ := h
  obtain ⟨u, rfl, ru⟩ := vals1 r
  cases ru
  obtain ⟨its, rv, pl, hz⟩ := I.tuple hq
  refine k0_call_iter pl ?_
  exact ⟨.ref s.heap.objs.size, _, I.laid (t' := s.toks) (fun b u e => Heap.get?_push_of_some _ e) (Nat.le_refl _) (k0_it_ok (Heap.get?_push_size _ rfl)), rfl, q _ (I.hok.fresh (Nat.le_refl _)) I.sz⟩
end
/-! ### for x in o, o of a class of the text with an __iter__ that gives a tuple's iterator -/
/-- what such an __iter__ promises -/
def spIterT (K : PySem.W.Frag) (G : Hp → Addr → Addr → Prop) (n : Nat) : Sp := fun vs H Q _ => ∃ (p t : Addr) (zs : List V), vs = [.ref p] ∧ G H p t ∧ SqT K H t zs ∧ ∀ it, H it = Option.none → n ≤ it → Q (.ref it) (upd H it (K0It t it))
def iOwn (K : PySem.W.Frag) (C : Addr) (G : Hp → Addr → Addr → Prop) (te : TE) : TI := fun σ H R => te σ H fun x H1 => ∃ (p dx t : Addr) (fs : List (Str × V)) (zs : List V), x = .ref p ∧ H1 p = some (.ins C dx fs) ∧ G H1 p t ∧ SqT K H1 t zs ∧ R (Itt K t) H1
theorem pi_own {X : Cx} {k : Nat} {C f : Addr} {fd : FuncData} {G : Hp → Addr → Addr → Prop} {tg e : Expr} {te : TE} (F : FnOkN X.prog X.w X.K X.mg X.base CX0 k f fd ["self"] (spIterT X.K G)) (hr : Room k X.A)
    (hs : PySem.W.findIn X.K (.ref C) "__iter__" = some (some (.ref f))) (hf : PySem.W.isFn X.K (.ref f) = true) (hb : Binds X.K fd ["self"] []) (he : PE X e te) : PI X tg e (iOwn X.K C G te) := by
  refine ⟨fun pins s σ H R I h => ?_⟩
  refine thn (he.run pins s σ H _ I h) fun u s1 ⟨x, H1, I1, rx, p, dx, t, fs, zs, ex, hp, hG, ht, q⟩ => ?_
  subst ex
  cases rx
  obtain ⟨mA, J, _⟩ := ins_get I1.hok hp
  obtain ⟨od, J, _⟩ := J.look
  obtain ⟨m, hF⟩ := I1.fr
  refine PySem.W.owit_iter hF I1.ok.mod.kin J hs hf ?_
  have hsp : spIterT X.K G s1.heap.objs.size [.ref p] H1 (fun v H' => ∃ it, v = .ref it ∧ H1 it = Option.none ∧ s1.heap.objs.size ≤ it ∧ H' = upd H1 it (K0It t it)) E0 := ⟨p, t, zs, rfl, hG, ht, fun it n1 n2 => ⟨it, rfl, n1, n2, rfl⟩⟩
  have r2 : Vals [V.ref p] [Value.ref p] := .cons rfl .nil
  refine wpAny_call (codeAny_mono (F.run X.A X.stack s1 H1 ⟨[.ref p], []⟩ [.ref p] [.ref p] _ E0 hr I1.env0 (by
    have := hb s1 [.ref p] I1.kIn (by rfl)
    simpa using this) r2 hsp) fun r s' hq => ?_)
  cases r with
  | error e => exact hq.elim
  | ok fl =>
    cases fl with
    | ret w =>
      obtain ⟨z, H', I', rz, it, ez, n1, n2, eH⟩ := I1.after hq
      subst ez
      cases rz
      subst eH
      have hit : (upd H1 it (K0It t it)) it = some (K0It t it) := upd_same
      have hobj : s'.heap.get? it = some (k0_itObj t) := (I'.hok it _ hit).1
      have st : s'.heap.IsTupleIter it t 0 := ⟨_, hobj, rfl, rfl⟩
      show PySem.W.OwitIt _ _ _ _ (.ref it) s'
      unfold PySem.W.OwitIt
      refine wpAny_specialOf (T := "tuple_iterator") ⟨_, hobj, rfl⟩ PySem.F.slot_tuple_iterator_next.lookup ?_
      have hit' := hit
      unfold K0It at hit'
      have I2 := ItX.inv_drop I' hit'
      rw [ItX.dropH_upd n1] at I2
      have fp := ItX.inv_fp I' hit (Nat.le_trans I1.sz n2)
      rw [ItX.dropH_upd n1] at fp
      refine ⟨it, [it], _, _, H1, rfl, I2, turn_tuple t it, st, fun b hb => ?_, q⟩
      have e : b = it := by simpa using hb
      rw [e]
      exact fp
    | next => exact hq.elim
    | brk => exact hq.elim
    | cont => exact hq.elim
/-! ### len(o), x in o, x not in o by the text's own methods -/
section
variable {X : Cx} {k : Nat} {C f : Addr} {fd : FuncData}
/-- what such a __len__ promises -/
def spLenG (G : Hp → Addr → Nat → Prop) : Sp := fun vs H Q _ => ∃ (p : Addr) (n : Nat), vs = [.ref p] ∧ G H p n ∧ n ≤ 100000 ∧ Q (.int (n : Int)) H
theorem k0_len_own {G : Hp → Addr → Nat → Prop} (F : FnOk X.prog X.w X.K X.mg X.base CX0 k f fd ["self"] (spLenG G)) (hr : Room (k + 1) X.A)
    (hs : PySem.W.findIn X.K (.ref C) "__len__" = some (some (.ref f))) (hf : PySem.W.isFn X.K (.ref f) = true) (hb : Binds X.K fd ["self"] []) :
    CallR X (.builtin "len") (fun xs H Q => ∃ (p dx : Addr) (fs : List (Str × V)) (n : Nat), xs = [.ref p] ∧ H p = some (.ins C dx fs) ∧ G H p n ∧ n ≤ 100000 ∧ Q (.int (n : Int)) H) := by
  intro pins s σ H xs us Q I r h
  obtain ⟨p, dx, fs, n, rfl, hp, hG, hn, q⟩ := h
  obtain ⟨u, rfl, ru⟩ := vals1 r
  cases ru
  obtain ⟨mA, J, _⟩ := ins_get I.hok hp
  obtain ⟨od, J, _⟩ := J.look
  obtain ⟨m, hF⟩ := I.fr
  refine PySem.W.len_K hF I.ok.mod.kin J hs hf ?_
  have hsp : spLenG G [.ref p] H (fun v H' => v = .int (n : Int) ∧ H' = H) E0 := ⟨p, n, rfl, hG, hn, rfl, rfl⟩
  have r2 : Vals [V.ref p] [Value.ref p] := .cons rfl .nil
  have e0 : Env0 X.prog X.w X.K X.mg X.base X.A.in1 X.stack s H := I.env0.in1
  refine wpAny_call (codeAny_mono (F.run X.A.in1 X.stack s H ⟨[.ref p], []⟩ [.ref p] [.ref p] _ E0 (hr.in1) e0 (by
    have := hb s [.ref p] I.kIn (by rfl)
    simpa using this) r2 hsp) fun r s' hq => ?_)
  cases r with
  | error e => exact hq.elim
  | ok fl =>
    cases fl with
    | ret w =>
      obtain ⟨z, H', I', rz, ez, eH⟩ := I.after hq
      subst ez
      subst eH
      obtain ⟨t, rfl⟩ := rz
      exact ⟨⟨by omega, by omega⟩, .int (n : Int), H', I'.tok _, ⟨_, rfl⟩, q⟩
    | next => exact hq.elim
    | brk => exact hq.elim
    | cont => exact hq.elim
/-- what such a __contains__ promises: true or false -/
def spHas (G : Hp → Addr → V → Bool → Prop) : Sp := fun vs H Q _ => ∃ (p : Addr) (x : V) (b : Bool), vs = [.ref p, x] ∧ G H p x b ∧ Q (.bl b) H
def rHas (C : Addr) (neg : Bool) (G : Hp → Addr → V → Bool → Prop) : R2 := fun x y H Q => ∃ (p dx : Addr) (fs : List (Str × V)) (b : Bool), y = .ref p ∧ H p = some (.ins C dx fs) ∧ G H p x b ∧ Q (.bl (if neg then !b else b)) H
theorem k0_has_run {G : Hp → Addr → V → Bool → Prop} (F : FnOk X.prog X.w X.K X.mg X.base CX0 k f fd ["self", "x"] (spHas G)) (hr : Room k X.A) (hb : Binds X.K fd ["self", "x"] []) {pins : List (Addr × Obj)} {σ : St} {H : Hp} {s : Shared} (I : Inv X pins σ H s) {p : Addr} {x : V} {u : Value} {b : Bool} (rx : RelV x u) (hG : G H p x b)
    {R : Value → Shared → Prop} (h : ∀ s', Inv X pins σ H s' → R (.bool b) s') : wpAny (model X.prog X.w) X.A (call (.ref f) [.ref p, u]) R X.xe s := by
  have hsp : spHas G [.ref p, x] H (fun v H' => v = .bl b ∧ H' = H) E0 := ⟨p, x, b, rfl, hG, rfl, rfl⟩
  have r2 : Vals [V.ref p, x] [Value.ref p, u] := .cons rfl (.cons rx .nil)
  refine wpAny_call (codeAny_mono (F.run X.A X.stack s H ⟨[.ref p, u], []⟩ [.ref p, u] [.ref p, x] _ E0 hr I.env0 (by
    have := hb s [.ref p, u] I.kIn (by rfl)
    simpa using this) r2 hsp) fun r s' hq => ?_)
  cases r with
  | error e => exact hq.elim
  | ok fl =>
    cases fl with
    | ret w =>
      obtain ⟨z, H', I', rz, ez, eH⟩ := I.after hq
      subst ez
      subst eH
      cases rz
      exact h s' I'
    | next => exact hq.elim
    | brk => exact hq.elim
    | cont => exact hq.elim
theorem k0_in_own {K : PySem.W.Frag} {G : Hp → Addr → V → Bool → Prop} (F : FnOk X.prog X.w X.K X.mg X.base CX0 k f fd ["self", "x"] (spHas G)) (hr : Room k X.A)
    (hs : PySem.W.findIn X.K (.ref C) "__contains__" = some (some (.ref f))) (hf : PySem.W.isFn X.K (.ref f) = true) (hb : Binds X.K fd ["self", "x"] []) : OpR X (compareOp .In) (rHas C false G) := by
  intro pins s σ H x y v u Q I rx ry h
  obtain ⟨p, dx, fs, b, rfl, hp, hG, q⟩ := h
  cases ry
  obtain ⟨mA, J, _⟩ := ins_get I.hok hp
  obtain ⟨od, J, _⟩ := J.look
  obtain ⟨m, hF⟩ := I.fr
  refine PySem.W.in_K hF I.ok.mod.kin J hs hf (k0_has_run F hr hb I rx hG fun s' I' => ?_)
  exact wpAny_truthy_bool ⟨.bl b, H, I', rfl, q⟩
theorem k0_notIn_own {K : PySem.W.Frag} {G : Hp → Addr → V → Bool → Prop} (F : FnOk X.prog X.w X.K X.mg X.base CX0 k f fd ["self", "x"] (spHas G)) (hr : Room k X.A)
    (hs : PySem.W.findIn X.K (.ref C) "__contains__" = some (some (.ref f))) (hf : PySem.W.isFn X.K (.ref f) = true) (hb : Binds X.K fd ["self", "x"] []) : OpR X (compareOp .NotIn) (rHas C true G) := by
  intro pins s σ H x y v u Q I rx ry h
  obtain ⟨p, dx, fs, b, rfl, hp, hG, q⟩ := h
  cases ry
  obtain ⟨mA, J, _⟩ := ins_get I.hok hp
  obtain ⟨od, J, _⟩ := J.look
  obtain ⟨m, hF⟩ := I.fr
  refine PySem.W.notIn_K hF I.ok.mod.kin J hs hf (k0_has_run F hr hb I rx hG fun s' I' => ?_)
  exact wpAny_truthy_bool ⟨.bl (!b), H, I', rfl, q⟩
end
end L2
end

/-! ## K0W -/
section
set_option Elab.async false
set_option linter.all false
set_option maxRecDepth 100000
namespace PySem
open Sem PySem.Spec PyProof.Rows
/-! ### list.__repr__, whatever is under way -/
theorem k0_list_head {M : Model} {A : Around} {E : Value → Shared → Prop} {s : Shared} {Q : Fin → Shared → Prop} {a : Addr} {o : Obj} {x : Value} {l : List Value} {n} {b : Nat}
    (hget : s.heap.get? a = some o) (hd : o.data = .seq (x :: l).toArray n)
    (h : wpAny M A (do again (.builtin "list.__repr__.loop" ⟨[.ref a, rawInt 0, ← newList [], rawInt b], []⟩)) Q E s)
    (h2 : wpAny M A (do rule "list.__repr__.in-itself"; retStr "[...]") Q E s) : wpAny M A (Builtin.listReprAt b ⟨[.ref a], []⟩) Q E s := by
  intro Γ p hΓ
  have q1 := h Γ p hΓ
  have q2 := h2 Γ p hΓ
  unfold Builtin.listReprAt
  simp [slotArgs, Builtin.List.listItems, seqItems?, wp_load_of (h := hget), hd, stack]
  show wp M Γ (if (Γ.below.any _) = true then _ else _) _ _ p s
  split
  · exact q2
  · exact q1
section
variable {prog : Program} {w : World} {A : Around} {E : Value → Shared → Prop} {s : Shared} {a : Addr} {oa : Obj} {x : Value} {l : List Value} {na : Nat} {ts : List Str}
theorem k0_way : ("[...]" : Str).length ≤ 5 := by decide +kernel
theorem k0_list_fin {R : Result → Shared → Prop} {b : Nat}
    (ha : s.heap.get? a = some oa) (hda : oa.data = .seq (x :: l).toArray na) (hlen : ts.length = (x :: l).toArray.size)
    (hT : ∀ (i : Nat) (y : Value), (x :: l).toArray[i]? = some y → ∃ t, ts[i]? = some t ∧ ReprIs prog w y t)
    (hR : ∀ h' (m : Str) (u : Tok) tk, m.length ≤ (listText ts).length + 5 → (∀ b o, s.heap.get? b = some o → h'.get? b = some o) → R (.ok (.ret (.str m u))) { s with heap := h', toks := tk })
    (hsz : b + (listText ts).length ≤ sizeLine) :
    wpAny (model prog w) A.in1 (Builtin.listReprAt b ⟨[.ref a], []⟩)
      (fun fin s' => match fin with | .done f => R (.ok f) s' | .again c' => c'.quiet = true ∧ codeAny (model prog w) A c' R s') (fun e s' => R (.error e) s') s := by
  refine k0_list_head (A := A.in1) ha hda ?_ ?_
  · refine wpAny_bind (m := newList []) (wpAny_newObj_type ?_)
    refine wpAny_pure ⟨F.quiet_list_repr_loop _, ?_⟩
    refine codeAny_list_repr_start (P := s.heap.objs.size) (Nat.ne_of_lt (Heap.lt_size ha)) hlen hT (Heap.get?_push_of_some _ ha) hda (Heap.get?_push_size _ rfl) (fun h' u tk hk => ?_) hsz
    exact hR h' (listText ts) u tk (Nat.le_add_right _ _) fun b o e => hk b o (Nat.ne_of_lt (Heap.lt_size e)) (Heap.get?_push_of_some _ e)
  · refine wpAny_bind (wpAny_rule ?_)
    refine wpAny_bind (wpAny_mkStr (wpAny_pure ?_) (by decide +kernel))
    exact hR s.heap "[...]" _ _ (Nat.le_trans k0_way (Nat.le_add_left _ _)) fun _ _ e => e
theorem k0_list_repr {Q : Value → Shared → Prop} (hTy : s.TypeIs (.ref a) "list") (hu : A.units < cLine)
    (ha : s.heap.get? a = some oa) (hda : oa.data = .seq (x :: l).toArray na) (hlen : ts.length = (x :: l).toArray.size)
    (hT : ∀ (i : Nat) (y : Value), (x :: l).toArray[i]? = some y → ∃ t, ts[i]? = some t ∧ ReprIs prog w y t)
    (hQ : ∀ h' (m : Str) (u : Tok) tk, m.length ≤ (listText ts).length + 5 → (∀ b o, s.heap.get? b = some o → h'.get? b = some o) → Q (.str m u) { s with heap := h', toks := tk })
    (hsz : (listText ts).length ≤ sizeLine) : wpAny (model prog w) A (pyReprObj (.ref a)) Q E s := by
  refine wpAny_pyReprObj_slot hu hTy F.slot_list_repr.toG ?_
  refine wpAny_call (codeAny_call_builtin F.slot_list_repr.plain F.entry_list_repr (F.slot_list_repr.check _ _ _ _ _ _ _ _ hTy (F.args_list_repr_1 _)
    (k0_list_fin (b := 0) (R := fun r s' => match r with | .ok (.ret v) => ∃ x t, v = .str x t ∧ Q v s' | .ok _ => False | .error e => E e s') ha hda hlen hT (fun h' m u tk hm k => ⟨m, u, rfl, hQ h' m u tk hm k⟩) (by omega))))
end
end PySem
namespace L2
open PySem PySem.Spec PyProof.Rows
/-! ### {x!r} of a value that is no weir -/
def Plain (y : Str) : Prop := ∀ c ∈ y.cps.toList, c < 1114112
theorem Plain.hex {y : Str} (h : Plain y) : ∀ c ∈ y.cps.toList, c < 16 ^ 8 := fun c hc => Nat.lt_trans (h c hc) (by decide)
/-- values whose text is short: texts, None, a bool, a whole number, lists and tuples of texts -/
inductive Shown (K : PySem.W.Frag) (H : Hp) : V → Prop where
  | str (y : Str) (h : Plain y) (z : y.length ≤ 1000) : Shown K H (.str y)
  | non : Shown K H .non
  | bl (b : Bool) : Shown K H (.bl b)
  | int (i : Int) (h : i.natAbs.log2 < 1920) (z : (Str.ofString (toString i)).length ≤ 30000) : Shown K H (.int i)
  | lst {a : Addr} {l : List Str} (e : H a = some (.lst (l.map V.str))) (h : ∀ y ∈ l, Plain y) (z : fmtCost l ≤ 20000) : Shown K H (.ref a)
  | tup {a : Addr} {l : List Str} (e : H a = some (.tup (l.map V.str))) (h : ∀ y ∈ l, Plain y) (z : fmtCost l ≤ 20000) : Shown K H (.ref a)
theorem Shown.same {K : PySem.W.Frag} {H H' : Hp} {x : V} (h : Shown K H x) (s : ∀ b o, H b = some o → (∀ z1 z2 z3, o ≠ .ins z1 z2 z3) → H' b = some o) : Shown K H' x := by
  cases h with
  | str y h z => exact .str y h z
  | non => exact .non
  | bl b => exact .bl b
  | int i h z => exact .int i h z
  | lst e h z => exact .lst (s _ _ e (fun _ _ _ q => by cases q)) h z
  | tup e h z => exact .tup (s _ _ e (fun _ _ _ q => by cases q)) h z
def tShow (K : PySem.W.Frag) (te : TE) : TE := fun σ H Q => te σ H fun x H1 => Shown K H1 x ∧ ∀ m : Str, m.length ≤ 30000 → Q (.str m) H1
section
variable {X : Cx}
theorem piled_sum : ∀ ts : List Str, (ts.map (·.length)).sum + 2 * ts.length = piled ts
  | [] => rfl
  | t :: r => by
    have ih := piled_sum r
    rw [piled_cons, List.map_cons, List.sum_cons, List.length_cons]
    omega
theorem list_text (ts : List Str) : (listText ts).length ≤ piled ts + 2 := by
  have e2 : ((("]" : String) : Str)).length = 1 := rfl
  have h := textFrom_len_le ts 0 "["
  have e1 : ((("[" : String) : Str)).length = 1 := rfl
  have h3 := piled_sum ts
  show (textFrom 0 "[" ts ++ "]").length ≤ _
  rw [strLen_append, e2]
  omega
theorem k0_30 : 30000 ≤ sizeLine := by rw [sizeLine_eq]; omega
theorem pe_show {e : Expr} {te : TE} {pos : Pos} {k : Nat} (hr : Room k X.A) (he : PE X e te) : PE X (.FormattedValue e 114 none pos) (tShow X.K te) := by
  refine ⟨fun pins s σ H Q I h => ?_⟩
  refine wpAny_FormattedValue_repr (thn (he.run pins s σ H _ I h) fun v s1 hv => ?_)
  obtain ⟨x, H1, I1, r1, sh, q⟩ := hv
  have hu := hr.units
  have fin : ∀ (m : Str) (t : Tok) (s2 : Shared), Inv X pins σ H1 s2 → m.length ≤ 30000 → wpAny (model X.prog X.w) X.A (formatField (.str m t) Str.empty) (EP X pins σ Q) X.xe s2 := fun m t s2 I2 hm =>
    wpAny_formatField_str ⟨.str m, H1, I2, ⟨t, rfl⟩, q m hm⟩ ⟨.str m, H1, I2.tok _, ⟨_, rfl⟩, q m hm⟩ (Nat.le_trans hm k0_30)
  cases sh with
  | str y hc z =>
    obtain ⟨t, rfl⟩ := r1
    have h1 := StrLaws.reprText_len y hc.hex
    exact pyReprObj_str (fin _ _ _ (I1.tok _) (by omega)) (by have := k0_30; omega)
  | non =>
    cases r1
    exact pyReprObj_none (fin _ _ _ (I1.tok _) (by decide +kernel))
  | bl b =>
    cases r1
    refine pyReprObj_bool (fin _ _ _ (I1.tok _) ?_)
    cases b <;> decide +kernel
  | int i hi z =>
    obtain ⟨t, rfl⟩ := r1
    exact pyReprObj_int hi (fin _ _ _ (I1.tok _) z)
  | @lst a l ea hc z =>
    cases r1
    have hp := fmt_piled l fun y hy => (hc y hy).hex
    have ht := list_text (l.map reprText)
    have h30 := k0_30
    obtain ⟨u1, its, n, rv, ho⟩ := (show ObjOk X.prog X.w H1 s1.heap a (.lst (l.map V.str)) from I1.hok a _ ea)
    have hl : ∀ y ∈ l, (reprText y).length ≤ sizeLine := fun y hy => by
      have h1 := StrLaws.reprText_len y (hc y hy).hex
      have h2 := fmtCost_mem hy
      omega
    have hT : ∀ (i : Nat) (y : Value), its.toArray[i]? = some y → ∃ t, (l.map reprText)[i]? = some t ∧ ReprIs X.prog X.w y t := fun i y hy => by
      rw [List.getElem?_toArray] at hy
      have hlen := rv.length
      have hi : i < its.length := (List.getElem?_eq_some_iff.mp hy).1
      rw [List.length_map] at hlen
      have hi2 : i < l.length := by omega
      have e1 : (l.map V.str)[i]? = some (V.str l[i]) := by rw [List.getElem?_map, List.getElem?_eq_getElem hi2]; rfl
      obtain ⟨u, hu2, ru⟩ := rv.get e1
      rw [hy] at hu2
      have e2 := Option.some.inj hu2
      subst e2
      obtain ⟨t, rfl⟩ := ru
      exact ⟨reprText l[i], by rw [List.getElem?_map, List.getElem?_eq_getElem hi2]; rfl, ReprIs.str l[i] t (hl _ (List.getElem_mem hi2))⟩
    have hlen : (l.map reprText).length = its.toArray.size := by
      have hlen := rv.length
      rw [List.length_map] at hlen
      rw [List.length_map, List.size_toArray]
      exact hlen
    cases its with
    | nil => exact wpAny_pyReprObj_list_empty ⟨_, ho, rfl⟩ (by omega) ho rfl (fin _ _ _ (I1.tok _) (by decide +kernel))
    | cons u0 us => exact k0_list_repr ⟨_, ho, rfl⟩ (by omega) ho rfl hlen hT (fun h' m u tk hm k => fin m u _ (I1.kept k) (by omega)) (by omega)
  | @tup a l ea hc z =>
    cases r1
    have hp := fmt_piled l fun y hy => (hc y hy).hex
    have ht := fmt_text (l.map reprText)
    have h30 := k0_30
    obtain ⟨u1, its, rv, o, ho, hcl, n, hd⟩ := (show ObjOk X.prog X.w H1 s1.heap a (.tup (l.map V.str)) from I1.hok a _ ea)
    have hl : ∀ y ∈ l, (reprText y).length ≤ sizeLine := fun y hy => by
      have h1 := StrLaws.reprText_len y (hc y hy).hex
      have h2 := fmtCost_mem hy
      omega
    refine wpAny_pyReprObj_slot (by omega) ⟨o, ho, hcl⟩ F.slot_tuple_repr ?_
    exact fmt_tuple_repr (ts := l.map reprText) ho hcl hd (repr_all rv hl) (by omega) fun m u tk hm => ⟨m, u, rfl, fin m u _ (I1.tok _) (by omega)⟩
end
end L2
end

/-! ## K0X -/
section
set_option Elab.async false
set_option linter.all false
set_option maxRecDepth 100000
set_option maxHeartbeats 1000000
namespace L2
open PySem PySem.Spec PyProof.Rows
open PySem.W (kxs_mw ks_superObj)
/-! ### an own exception whose __init__ says super().__init__(e) and self.f = v -/
/-- such an __init__, as the top has made it: C its class -/
structure SupF (P : Program) (K : PySem.W.Frag) (mg : Str → Option Value) (C : Addr) (x qual : Str) (params : Arguments) (body : List Stmt) (scope : Scope) (f : Addr) (fd : FuncData) : Prop where
  ex : ∃ (oc : Value) (od : Option Addr) (doc pm : Value) (cda : Addr) (ct : Value) (cc : Addr) (osl : Array (Option Value)),
    fd = PySem.W.ksFn x qual params body scope .none .none doc pm none (.ref cda) ct cc ∧ K.lookup f = some ⟨oc, od, .func fd, osl⟩ ∧ PySem.W.codeIn K (.ref cda) qual = true ∧
    (∃ (ccl : Value) (cdd : Option Addr) (vs : Array Value) (ccs : Array (Option Value)) (file : Str) (tf : Tok), K.lookup cda = some ⟨ccl, cdd, .fields vs, ccs⟩ ∧ vs[2]? = some (.str file tf) ∧ ((P.main.file : Str) == file) = true) ∧
    ∃ (cl : Value) (cld : Option Addr) (csl : Array (Option Value)), K.lookup cc = some ⟨cl, cld, .cell (some (.ref C)), csl⟩
  top : (P.main.scope.names.lookup ("super" : Str)).isSome = false
  exc : OexC K C
  sub : PySem.W.mroIn K C (.ref C) = some true
  subV : PySem.W.subIn K (.ref C) (.type "ValueError") = some true
  sup : PySem.W.ks_superIn K C C "__init__" = some (some (.builtin "ValueError.__init__"))
  opq : PySem.W.nsIn K cStatics "thirdparty.any" = some none
  sg : mg "super" = none
section
variable {X : Cx} {pins : List (Addr × Obj)} {σ : St} {H : Hp} {s : Shared} {a C u : Addr} {E : Value → Shared → Prop} {A : Around}
/-- the built-in __init__, bound to the object, called -/
theorem k0_mw_call {us : List Value} {Q : Value → Shared → Prop} (T : OexC X.K C) (I : Inv X pins σ H s) (e : H a = some (exo a C none)) (hu : s.heap.get? u = some (kxs_mw "ValueError.__init__" a)) (hl : us.length ≤ sizeLine) (h : ∀ s', Inv X pins σ H s' → Q .none s') :
    wpAny (model X.prog X.w) A (call (.ref u) us) Q E s := by
  obtain ⟨nm, q, N, bs, bm, sn, sub, ab, col, dd, k0, k1, k2, k3, k5, hC, hbm⟩ := T.cls
  obtain ⟨t1, ho⟩ := exo_at I.hok e
  have hC' := I.kIn _ _ hC
  obtain ⟨hh, g, d, tk, os⟩ := s
  refine wpAny_call (codeAny_of_tree ?_)
  show wpAny _ A.in1 (callAny (.ref u) ⟨us, []⟩) _ _ _
  simp only [callAny]
  refine wpAny_bind (wpAny_load hu ?_)
  simp only [kxs_mw, show (Value.type "method-wrapper" == Value.type "method" || Value.type "method-wrapper" == Value.type "builtin_function_or_method" || Value.type "method-wrapper" == Value.type "method-wrapper") = true by decide, if_true]
  refine PySem.W.KFB.if_so (by decide) ?_
  refine wpAny_bind (PySem.W.check_bound_init F.excBase_ValueError.toExcCallFacts hC' ho rfl ?_)
  refine wpAny_bind (wpAny_pure (wpAny_pure ?_))
  refine ⟨plainId_quiet F.excBase_ValueError.init.plain _, codeAny_builtin F.excBase_ValueError.initEntry ?_⟩
  refine PySem.W.exc_init_tree (cls := .ref C) (t0 := t1) (dv := none) (c2 := .none) (c3 := .none) (b4 := .bool false) ho hl fun h' k e' t' => ?_
  have J := I.write (t' := tk) (x := a) (e := a) (o := exo a C none) (by rw [e]; exact True.intro) (.inl rfl) k ⟨_, e'⟩ (exo_ok e')
  have eu : upd H a (exo a C none) = H := by
    funext b
    by_cases hb : b = a
    · rw [hb, upd_same, e]
    · rw [upd_ne hb]
  rw [eu] at J
  exact h _ J
end

/-! ### its body walked -/
abbrev supScope : Scope := { kind := .function, names := [("self", .local), ("name", .local), ("__class__", .free), ("super", .globalImplicit)], isGenerator := false, isCoroutine := false, more := [] }
abbrev supN : List Str := ["self", "name", "__class__"]
theorem supNS : NdefX.NScope supN ["self", "name"] ["__class__"] supScope := NdefX.nscope_by (by decide +kernel)
def spSup (K : PySem.W.Frag) (C : Addr) : Sp := fun vs H Q _ => ∃ (a : Addr) (x : V), vs = [.ref a, x] ∧ H a = some (exo a C none) ∧ Shown K H x ∧
  ∀ dx, H dx = none → dx ≠ a → Q .non (upd (upd H dx (exd dx [(("name" : Str), x)])) a (exo a C (some dx)))
section
variable {P : Program} {w : World} {K : PySem.W.Frag} {mg : Str → Option Value} {base : Heap} {C f : Addr} {fd : FuncData} {x qual : Str} {params : Arguments}
theorem ok_sup {txt : Str} {n : Nat} {p0 p1 p2 p3 p4 p5 p6 p7 p8 p9 p10 p11 p12 : Pos} {ar : Arg} (hp : (params.posonlyargs ++ params.args).head? = some ar) (har : ar.arg = "self") (htx : txt.length ≤ 1000)
    (S : SupF P K mg C x qual params [.Expr (.Call (.Attribute (.Call (.Name "super" p0) [] [] p1) "__init__" p2) [.JoinedStr [.Constant (.str txt) n p3, .FormattedValue (.Name "name" p4) 114 none p5] p6] [] p7) p8, .Assign [.Attribute (.Name "self" p9) "name" p10] (.Name "name" p11) p12] supScope f fd)
    (hno : PySem.W.findIn K (.ref C) "name" = some none)
    (he : ∀ (q : Str) (L f0 : Addr) (cd : Value) (cl : List (Str × Addr)), ∃ pl : Sem Bool, eval (.Call (.Attribute (.Call (.Name "super" p0) [] [] p1) "__init__" p2) [.JoinedStr [.Constant (.str txt) n p3, .FormattedValue (.Name "name" p4) 114 none p5] p6] [] p7) (PySem.W.envX q supScope L f0 cd cl) = (do
      let ov ← attributeBase (.Call (.Name "super" p0) [] [] p1) "__init__" (PySem.W.envX q supScope L f0 cd cl) (eval (.Call (.Name "super" p0) [] [] p1) (PySem.W.envX q supScope L f0 cd cl))
      standAt p2.atName
      let (f, first) ← holding [ov] (getMethod ov "__init__" pl)
      callWith p7 f first (backTo p7 (starEach [.JoinedStr [.Constant (.str txt) n p3, .FormattedValue (.Name "name" p4) 114 none p5] p6] (PySem.W.envX q supScope L f0 cd cl))) [])) :
    FnOk P w K mg base CX0 1 f fd ["self", "name"] (spSup K C) := by
  obtain ⟨oc, od, doc, pm, cda, ct, cc, osl, rfl, lk, hcd, ⟨ccl, cdd, cvs, ccs, file, tf, hcode, hvs, hfile⟩, cl, cld, csl, hcell⟩ := S.ex
  refine ⟨fun vs H Q E h => ?_, fun A outer s H args us vs Q E hr e0 hb r hsp => ?_⟩
  · obtain ⟨a, y, rfl, _⟩ := h
    rfl
  obtain ⟨a, y, rfl, ha, sh, k⟩ := hsp
  have KX : K.In s.heap := e0.mod.kin.keeps fun b o e => (e0.bs b o e).1
  have lim : s.heap.NoLimit := e0.mod.nolimit.keeps fun b o e => (e0.bs b o e).1
  have kN : ∀ {b : Addr} {o : Obj}, K.lookup b = some o → H b = none := fun e => (e0.bs _ _ (e0.mod.kin _ _ e)).2
  refine ks_codeAny_call_defAt hr.depth (KX _ _ lk) rfl lim (PySem.W.codeRec_of KX hcd) rfl hb (show ∀ y ∈ supScope.names, y.2 ≠ .cell by decide) (fun ⟨n, v⟩ hy => ?_) (fun h₁ hns kp => ?_)
  · have := supNS.par n (List.of_mem_zip hy).1
    exact this
  have CA : NdefX.CellsAt [(("__class__" : Str), cc)] ["__class__"] [some (V.ref C)] s.heap H := {
    len := rfl
    all := fun y c e => by
      have e2 : c = cc := by
        by_cases hy : y = "__class__"
        · subst hy
          simpa [List.lookup] using e.symm
        · have : (y == ("__class__" : Str)) = false := by simpa using hy
          simp [List.lookup, this] at e
      subst e2
      exact ⟨kN hcell, ⟨_, ⟨_, KX _ _ hcell, rfl⟩⟩⟩
    inj := fun y1 y2 c e1 e2 => by
      have key : ∀ {y : Str}, List.lookup y [(("__class__" : Str), cc)] = some c → y = "__class__" := fun {y} e => by
        by_cases hy : y = "__class__"
        · exact hy
        · have : (y == ("__class__" : Str)) = false := by simpa using hy
          simp [List.lookup, this] at e
      rw [key e1, key e2]
    has := fun i y e => by
      cases i with
      | zero =>
        cases e
        refine ⟨cc, by simp [List.lookup], fun v e2 => ?_⟩
        cases e2
        exact ⟨.ref C, rfl, ⟨_, KX _ _ hcell, rfl⟩⟩
      | succ i => cases e }
  have I0 := NdefX.inv_startN (CX := CX0) (E := E) (f := f) (tk := s.toks + ((["self", "name"] : List Str).zip us).length) (F := ⟨x, qual, params, [.Expr (.Call (.Attribute (.Call (.Name "super" p0) [] [] p1) "__init__" p2) [.JoinedStr [.Constant (.str txt) n p3, .FormattedValue (.Name "name" p4) 114 none p5] p6] [] p7) p8, .Assign [.Attribute (.Name "self" p9) "name" p10] (.Name "name" p11) p12], supScope, [("__class__", cc)], cda⟩) supNS hr.hd e0 rfl r CA hns kp
  generalize hs1 : ({ s with heap := h₁, toks := s.toks + ((["self", "name"] : List Str).zip us).length } : Shared) = s1 at I0
  obtain ⟨pl, hpl⟩ := he qual s.heap.objs.size f (.ref cda) [(("__class__" : Str), cc)]
  refine ks_wpAt_execs_cons (ks_wpAt_Expr_any (ks_wpAt_MethodCall (pl := pl) ?_ hpl))
  have hmg : mg "super" = none := S.sg
  have hos := exo_at I0.hok ha
  obtain ⟨t1, ho⟩ := hos
  obtain ⟨nm, q, N, bs, bm, sn, sub, ab, col, dd, k0, k1, k2, k3, k5, hC, hbm⟩ := S.exc.cls
  have hC1 := I0.kIn _ _ hC
  obtain ⟨mb, hb1, hb2⟩ := I0.mod.blt
  obtain ⟨m, hm, hlook⟩ := I0.loc
  have hself : m "self" = some (.ref a) := by
    obtain ⟨u, ru, lk2⟩ := hlook 0 "self" (.ref a) rfl rfl (.inl rfl)
    cases ru
    rcases lk2 with ⟨_, e⟩ | ⟨e, _⟩
    · exact e
    · exfalso
      revert e
      show ¬ ((List.lookup ("self" : Str) supScope.names = some .cell) ∨ (List.lookup ("self" : Str) supScope.names = some .free))
      decide
  refine ks_wpAt_super_base rfl rfl (by decide) rfl (I0.kIn _ _ lk) rfl hp rfl (I0.kIn _ _ hcode) rfl hvs hfile S.top ?_
  rw [har]
  refine PySem.W.ks_loadName_global rfl rfl (Calls.loadGlobal_builtin (I0.mod.glob.keeps I0.bk) hmg (hb1.keeps I0.bk) ((hb2 "super" (by decide)).trans Boot.super) ⟨rfl, ?_⟩)
  refine wpAny_loadName_free rfl rfl rfl ⟨_, I0.kIn _ _ hcell, rfl⟩ ?_
  refine wpAny_loadName_local rfl rfl hm hself ?_
  refine ks_wpAny_isType_cls hC1 rfl ⟨rfl, ?_⟩
  clear hs1
  obtain ⟨hh, g, d, tk, os⟩ := s1
  refine ks_wpAny_call_super hC1 rfl ho rfl (fun c e => by cases e) (PySem.W.looks_mroIn I0.kIn S.sub) (fun h' e kk => ?_)
  have I1 := I0.kept (h' := h') (t' := tk) kk
  have hcls : PySem.W.clsIn K C = some { name := nm, bases := bs, mro := .ref C :: bm, ns := N, qualname := q, hasDict := true, slotNames := sn, subclasses := sub, abstract := ab, collection := col, hasDel := false } := by unfold PySem.W.clsIn; rw [hC]
  have hsup := S.sup
  unfold PySem.W.ks_superIn at hsup
  rw [hcls] at hsup
  have J : PySem.W.InstAt h' a { cls := .ref C, dict := none, data := .fields #[.ref t1, .none, .none, .none, .bool false, .none] } C none := ⟨kk _ _ ho, rfl, rfl, trivial⟩
  refine PySem.W.kxs_getMethod PySem.W.kxs_ValueError e (PySem.W.looks_opaque I1.kIn S.opq) (l₀ := .ref C :: bm) (fun A Q E s k q => wpAny_bind ((PySem.W.looks_clsIn I1.kIn hcls) A _ E s k (wpAny_pure q))) rfl I1.kIn hsup (J.type.andThen (PySem.W.looks_subIn I1.kIn S.subV)) (PySem.W.ks_ne I1.kIn J hcls) (by decide) ?_
  have I2 := I1.kept (h' := h'.push (kxs_mw "ValueError.__init__" a)) (t' := tk + 1) fun b o e => Heap.get?_push_of_some _ e
  have hu0 : (h'.push (kxs_mw "ValueError.__init__" a)).get? h'.objs.size = some (kxs_mw "ValueError.__init__" a) := Heap.get?_push_size _ rfl
  have I3 := I2.pins_of (pins' := [(h'.objs.size, kxs_mw "ValueError.__init__" a)]) fun p hp => by
    cases List.mem_singleton.mp hp
    exact ⟨hu0, I1.hok.fresh (Nat.le_refl _), Nat.ne_of_gt I1.lt, I1.nofs (Nat.le_refl _), fun v z => by cases z⟩
  generalize h'.push (kxs_mw "ValueError.__init__" a) = h2 at hu0 I2 I3
  have hrX : Room 0 (A.deeper (NdefX.envF ⟨x, qual, params, [.Expr (.Call (.Attribute (.Call (.Name "super" p0) [] [] p1) "__init__" p2) [.JoinedStr [.Constant (.str txt) n p3, .FormattedValue (.Name "name" p4) 114 none p5] p6] [] p7) p8, .Assign [.Attribute (.Name "self" p9) "name" p10] (.Name "name" p11) p12], supScope, [(("__class__" : Str), cc)], cda⟩ f s.heap.objs.size)) := hr.deeper _
  show wpAny _ _ (callWith p7 (.ref h'.objs.size) [] (backTo p7 (starEach [.JoinedStr [.Constant (.str txt) n p3, .FormattedValue (.Name "name" p4) 114 none p5] p6] _)) []) _ _ _
  refine PySem.W.kxs_callWith (i := "ValueError.__init__") (x := a) rfl (PySem.Calls.evalArgs_plain ?_)
  have hPA : PA (NdefX.ncx CX0 P w K mg base supN ⟨x, qual, params, [.Expr (.Call (.Attribute (.Call (.Name "super" p0) [] [] p1) "__init__" p2) [.JoinedStr [.Constant (.str txt) n p3, .FormattedValue (.Name "name" p4) 114 none p5] p6] [] p7) p8, .Assign [.Attribute (.Name "self" p9) "name" p10] (.Name "name" p11) p12], supScope, [(("__class__" : Str), cc)], cda⟩ f A outer s H E) [.JoinedStr [.Constant (.str txt) n p3, .FormattedValue (.Name "name" p4) 114 none p5] p6] _ :=
    pa_cons (pe_joined (.cons pe_str (.cons (pe_show hrX (pv 1)) .nil))) pa_nil
  have hz : ∀ m : Str, m.length ≤ 30000 → (Str.empty ++ txt ++ m).length ≤ sizeLine := fun m hm => by
    have h30 : 40000 ≤ sizeLine := by rw [sizeLine_eq]; omega
    have e0 : Str.empty.length = 0 := rfl
    rw [strLen_append, strLen_append, e0]
    omega
  have hz0 : (Str.empty ++ txt).length ≤ sizeLine := by
    have h30 : 40000 ≤ sizeLine := by rw [sizeLine_eq]; omega
    have e0 : Str.empty.length = 0 := rfl
    rw [strLen_append, e0]
    omega
  refine thn (hPA.run p7 _ _ _ H (fun vs H2 => H2 = H ∧ ∃ m : Str, vs = [.str m]) I3 ?_) fun us s3 ⟨vs, H3, I4, r4, eH, m4, ev⟩ => ?_
  · refine ⟨txt, rfl, hz0, y, rfl, sh, fun m hm => ⟨m, rfl, hz m hm, rfl, _, rfl⟩⟩
  subst ev
  have eH2 : H = H3 := eH.symm
  clear eH
  subst eH2
  obtain ⟨u4, rfl, _⟩ := vals1 r4
  have hu3 : s3.heap.get? h'.objs.size = some (kxs_mw "ValueError.__init__" a) := (I4.pin _ (List.mem_append_right _ (List.mem_singleton.mpr rfl))).1
  refine ⟨hu3, ?_⟩
  show wpAny _ _ (call (.ref h'.objs.size) [u4]) _ _ _
  have I5 := I4.pins_of (pins' := []) fun p hp => by cases hp
  refine k0_mw_call S.exc I5 ha hu3 (by rw [sizeLine_eq]; show 1 ≤ _; omega) fun s5 I6 => ?_
  refine wpAt_of_wpAny ?_
  have hP2 : PSs (NdefX.ncx CX0 P w K mg base supN ⟨x, qual, params, [.Expr (.Call (.Attribute (.Call (.Name "super" p0) [] [] p1) "__init__" p2) [.JoinedStr [.Constant (.str txt) n p3, .FormattedValue (.Name "name" p4) 114 none p5] p6] [] p7) p8, .Assign [.Attribute (.Name "self" p9) "name" p10] (.Name "name" p11) p12], supScope, [(("__class__" : Str), cc)], cda⟩ f A outer s H E) [.Assign [.Attribute (.Name "self" p9) "name" p10] (.Name "name" p11) p12] _ :=
    pss_one (ps_ost (pv 0) (pv 1))
  refine wpAny_mono (hP2.run [] s5 _ H { nx := fun _ H' => Q .non H', rt := Q } I6 ⟨y, rfl, .ref a, rfl, a, C, rfl, S.exc, hno, .inl ⟨ha, fun dx h1 h2 => k dx h1 h2⟩⟩) (fun fl s' hs => ?_) fun e s' hs => hs
  cases fl with
  | ret u =>
    obtain ⟨v, σ', H', J, rv, q⟩ := hs
    exact ⟨v, H', J.os, J.bare, J.base, J.hok, rv, q⟩
  | next =>
    obtain ⟨σ', H', J, q⟩ := hs
    exact ⟨.non, H', J.os, J.bare, J.base, J.hok, rfl, q⟩
  | brk =>
    obtain ⟨_, _, _, q⟩ := hs
    exact False.elim q
  | cont =>
    obtain ⟨_, _, _, q⟩ := hs
    exact False.elim q
end
end L2
end

/-! ## K0Y -/
section
set_option Elab.async false
set_option linter.all false
set_option maxRecDepth 100000
namespace K0
open PySem PySem.Spec PyProof.Rows L2
/-! ### values that may be asked for -/
def TyS (K : PySem.W.Frag) (H : Hp) (x : V) : Prop := (∃ y, x = .str y) ∨ ((∀ y, x ≠ .str y) ∧ ∃ t, TyX K H x t ∧ PySem.W.kitOne K t (.type "str") = some false)
theorem shown_ty {K : PySem.W.Frag} {H : Hp} {x : V} (h : Shown K H x) : TyS K H x := by
  cases h with
  | str y _ _ => exact .inl ⟨y, rfl⟩
  | non => exact .inr ⟨(fun y z => by cases z), _, .base .non, kit_ty (by decide +kernel)⟩
  | bl b => exact .inr ⟨(fun y z => by cases z), _, .base (.bl b), kit_ty (by decide +kernel)⟩
  | int i _ _ => exact .inr ⟨(fun y z => by cases z), _, .base (.int i), kit_ty (by decide +kernel)⟩
  | lst e _ _ => exact .inr ⟨(fun y z => by cases z), _, .base (.lst e), kit_ty (by decide +kernel)⟩
  | tup e _ _ => exact .inr ⟨(fun y z => by cases z), _, .base (.tup e), kit_ty (by decide +kernel)⟩
theorem plain_ok {y : Str} (h : Plain y) : PyData.strOk y = true := by
  unfold PyData.strOk
  rw [← Array.all_toList, List.all_eq_true]
  intro c hc
  exact decide_eq_true (h c hc)
theorem canLay_strs : ∀ {l : List Str}, (∀ y ∈ l, Plain y) → PyData.canLayAll0 (l.map PyData.str) = true
  | [], _ => by simp only [List.map_nil, PyData.canLayAll0]
  | y :: l, h => by
    simp only [List.map_cons, PyData.canLayAll0, PyData.canLay0, plain_ok (h y List.mem_cons_self), canLay_strs fun z hz => h z (List.mem_cons_of_mem _ hz), Bool.and_self]
theorem depth_strs : ∀ l : List Str, PyData.depthAll (l.map PyData.str) = 0
  | [] => by simp only [List.map_nil, PyData.depthAll]
  | y :: l => by
    simp only [List.map_cons, PyData.depthAll, PyData.depth, depth_strs l]
    rfl
theorem dp_strs {K : PySem.W.Frag} {H : Hp} : ∀ l : List Str, DpAll K H (l.map V.str) (l.map PyData.str)
  | [] => .nil
  | y :: l => .cons (.str y) (dp_strs l)
theorem shaped_lst {l : List Str} (h : ∀ y ∈ l, Plain y) : SeqAt.shaped (.list (l.map PyData.str)) = true := by
  unfold SeqAt.shaped
  simp only [PyData.canLay0, PyData.depth, canLay_strs h, depth_strs]
  decide
theorem shaped_tup {l : List Str} (h : ∀ y ∈ l, Plain y) : SeqAt.shaped (.tuple (l.map PyData.str)) = true := by
  unfold SeqAt.shaped
  simp only [PyData.canLay0, PyData.depth, canLay_strs h, depth_strs]
  decide
theorem shaped_str {y : Str} (h : Plain y) : SeqAt.shaped (.str y) = true := by
  unfold SeqAt.shaped
  simp only [PyData.canLay0, PyData.depth, plain_ok h]
  rfl
theorem shown_dp {K : PySem.W.Frag} {H : Hp} {x : V} (h : Shown K H x) : ∃ d, Dp K H x d ∧ SeqAt.shaped d = true ∧ ((∃ y, x = .str y ∧ d = .str y) ∨ ((∀ y, x ≠ .str y) ∧ ∀ y, d ≠ .str y)) := by
  cases h with
  | str y hp _ => exact ⟨_, .str y, shaped_str hp, .inl ⟨y, rfl, rfl⟩⟩
  | non => exact ⟨_, .non, by decide +kernel, .inr ⟨(fun y z => by cases z), (fun y z => by cases z)⟩⟩
  | bl b => exact ⟨.bool b, .bl b, by cases b <;> decide +kernel, .inr ⟨(fun y z => by cases z), (fun y z => by cases z)⟩⟩
  | int i _ _ => exact ⟨.int i, .int i, by unfold SeqAt.shaped; simp only [PyData.canLay0, PyData.depth]; rfl, .inr ⟨(fun y z => by cases z), (fun y z => by cases z)⟩⟩
  | @lst a l e hp _ => exact ⟨_, .lst (.of e) (dp_strs l), shaped_lst hp, .inr ⟨(fun y z => by cases z), (fun y z => by cases z)⟩⟩
  | @tup a l e hp _ => exact ⟨_, .tup (.inl (.inl e)) (dp_strs l), shaped_tup hp, .inr ⟨(fun y z => by cases z), (fun y z => by cases z)⟩⟩
/-- is it a weir -/
def hasV (AR : List (Addr × Row)) : V → Bool
  | .str y => decide (y ∈ namesOf AR)
  | _ => false
theorem hasV_no {AR : List (Addr × Row)} : ∀ {x : V}, (∀ y, x ≠ .str y) → hasV AR x = false
  | .str y, h => absurd rfl (h y)
  | .non, _ => rfl
  | .bl _, _ => rfl
  | .int _, _ => rfl
  | .flt _, _ => rfl
  | .byt _, _ => rfl
  | .ref _, _ => rfl
  | .ty _, _ => rfl
abbrev GHas (K : PySem.W.Frag) (Cr : Addr) : Hp → Addr → V → Bool → Prop := fun H p x b => ∃ AR, RivAt Cr H p AR ∧ TyS K H x ∧ b = hasV AR x
theorem scContains : FnScope ["self", "x"] ["self", "x"] (defScope sContains) := ⟨rfl, rfl, rfl, by decide +kernel, rfl, by decide +kernel, by decide +kernel⟩
theorem scLen : FnScope ["self"] ["self"] (defScope sLen) := ⟨rfl, rfl, rfl, by decide +kernel, rfl, by decide +kernel, by decide +kernel⟩
section
variable {P : Program} {w : World} {K : PySem.W.Frag} {mg : Str → Option Value} {base : Heap} {tS tM tL : Tok}
theorem ok_contains {f Cr : Addr} {fd : FuncData} (F : FnM K "__contains__" "River.__contains__" sContains f fd) (T : Rv K mg Cr) (B : Bl mg) : FnOk P w K mg base CX0 1 f fd ["self", "x"] (spHas (GHas K Cr)) := by
  refine F.ok scContains (fun vs H Q E h => ?_) (fun cdv A outer s H vs Q E hr h => ?_)
  · obtain ⟨p, x, b, rfl, _⟩ := h
    rfl
  · obtain ⟨p, x, b, rfl, ⟨AR, R, ty, rfl⟩, k⟩ := h
    have hu := hu_of hr
    refine ⟨_, PSs.nox (pss_one
      (ps_ret (pe_and (pe_callB call_isi (by rfl) B.isinstance (by decide +kernel) (pa_cons (pv 1) (pa_cons (pe_bltn (v := .ty "str") (by rfl) B.str (by decide +kernel) rfl) pa_nil))) (pe_one (pe_cmp (pc_din hu (pv 1) (fldK (K := K) (pv 0) rfl)) rfl))))), ?_⟩
    obtain ⟨dx, tw, tr, db, dc, da, du, o, h1, h2, h3, h4, h5, h6, h7, h8⟩ := R.ex
    rcases ty with ⟨y, rfl⟩ | ⟨no, t, ht, kt⟩
    · refine ⟨_, rfl, .str y, .ty "str", _, _, true, rfl, .ty "str", .base (.str y), kit_ty (by decide +kernel), true, rfl, iteT ?_⟩
      refine ⟨_, rfl, _, rfl, p, Cr, dx, _, _, rfl, h1, T.cl, T._below, g7b _ _ _ _ _ _ _, ?_⟩
      by_cases hy : y ∈ namesOf AR
      · refine ⟨db, some (.str (lowR (rowsOf AR) y)), rfl, dget_rn (.inl h5) hy, ?_⟩
        have e : hasV AR (.str y) = true := decide_eq_true hy
        rw [e] at k
        exact k
      · refine ⟨db, none, rfl, .inl ⟨_, Sum.inr y, .inl h5, rfl, (kmap_not hy).symm⟩, ?_⟩
        have e : hasV AR (.str y) = false := decide_eq_false hy
        rw [e] at k
        exact k
    · refine ⟨_, rfl, x, .ty "str", _, _, false, rfl, .ty "str", ht, kt, false, rfl, iteF ?_⟩
      rw [hasV_no no] at k
      exact k
theorem ok_len {f Cr : Addr} {fd : FuncData} (F : FnM K "__len__" "River.__len__" sLen f fd) (T : Rv K mg Cr) (B : Bl mg) : FnOk P w K mg base CX0 1 f fd ["self"] (spLenG (fun H p n => ∃ AR, RivAt Cr H p AR ∧ n = AR.length)) := by
  refine F.ok scLen (fun vs H Q E h => ?_) (fun cdv A outer s H vs Q E hr h => ?_)
  · obtain ⟨p, n, rfl, _⟩ := h
    rfl
  · obtain ⟨p, n, rfl, ⟨AR, R, rfl⟩, hn, k⟩ := h
    refine ⟨_, PSs.nox (pss_one
      (ps_ret (pe_callB (lenK (K := K)) (by rfl) B.len PySem.boot_len (pa_cons (fldK (K := K) (pv 0) rfl) pa_nil)))), ?_⟩
    obtain ⟨dx, tw, tr, db, dc, da, du, o, h1, h2, h3, h4, h5, h6, h7, h8⟩ := R.ex
    refine ⟨_, rfl, p, Cr, dx, _, _, rfl, h1, T.cl, T.weirs, g7w _ _ _ _ _ _ _, tw, _, rfl, .inr (.inl (.inl h2)), ?_⟩
    rw [List.length_map, nmlen]
    exact k
end
end K0
end

/-! ## K1A -/
section
set_option Elab.async false
set_option linter.all false
set_option maxRecDepth 100000
namespace K0
open PySem PySem.Spec PyProof.Rows L2
section
variable {P : Program} {w : World} {K : PySem.W.Frag} {mg : Str → Option Value} {base : Heap} {tS tM tL : Tok}
theorem okN_of {CX : CXT} {x qual : Str} {st : Stmt} {f : Addr} {fd : FuncData} {N ps : List Str} {k : Nat} {sp : Nat → Sp} (F : FnM K x qual st f fd) (S : FnScope N ps (defScope st)) (len : ∀ n vs H Q E, sp n vs H Q E → vs.length = ps.length)
    (hbody : ∀ (cdv : Value) (A : Around) (outer : List Env) (s : Shared) (H : Hp) (vs : List V) (Q : VK) (E : XK), Room k (A.deeper (envOfC qual (defScope st) s.heap.objs.size f cdv)) → sp s.heap.objs.size vs H Q E →
      ∃ t, PSs (cxOf CX P w K mg base N qual (defScope st) f cdv A outer s H E) (defBody st) t ∧ t { nx := fun _ H' => Q .non H', rt := Q } (start N vs) H) : FnOkN P w K mg base CX (k + 1) f fd ps sp := by
  obtain ⟨oc, od, dV, kV, doc, pm, an, cdv, ct, osl, rfl, lk, hcd, _, _⟩ := F.ex
  exact k0_fn_ofN lk hcd S len fun A outer s H vs Q E hr hsp => hbody cdv A outer s H vs Q E hr hsp
theorem scIter : FnScope ["self"] ["self"] (defScope sIter) := ⟨rfl, rfl, rfl, by decide +kernel, rfl, by decide +kernel, by decide +kernel⟩
theorem scRows : FnScope ["self"] ["self"] (defScope sRows) := ⟨rfl, rfl, rfl, by decide +kernel, rfl, by decide +kernel, by decide +kernel⟩
/-- t is the tuple of the weirs of the river at p -/
def WeirsAt (Cr : Addr) (H : Hp) (p t : Addr) : Prop := ∃ dx b c d e g h, H p = some (.ins Cr dx (f7 (.ref t) b c d e g h))
theorem ok_iter {f Cr : Addr} {fd : FuncData} (F : FnM K "__iter__" "River.__iter__" sIter f fd) (T : Rv K mg Cr) (B : Bl mg) : FnOkN P w K mg base CX0 1 f fd ["self"] (spIterT K (WeirsAt Cr)) := by
  refine okN_of F scIter (fun n vs H Q E h => ?_) (fun cdv A outer s H vs Q E hr h => ?_)
  · obtain ⟨p, t, zs, rfl, _⟩ := h
    rfl
  · obtain ⟨p, t, zs, rfl, ⟨dx, b, c, d, e, g, h, hp⟩, hq, k⟩ := h
    refine ⟨_, PSs.nox (pss_one
      (ps_ret (pe_callB k0_cr_iter (by rfl) B.iter (by decide +kernel) (pa_cons (fldK (K := K) (pv 0) rfl) pa_nil)))), ?_⟩
    exact ⟨_, rfl, p, Cr, dx, _, _, rfl, hp, T.cl, T.weirs, g7w _ _ _ _ _ _ _, t, zs, rfl, hq, fun it n1 n2 => k it n1 n2⟩
def spRows (Cr : Addr) : Sp := fun vs H Q _ => ∃ (p : Addr) (AR : List (Addr × Row)), vs = [.ref p] ∧ RivAt Cr H p AR ∧ ∀ l, H l = none → Q (.ref l) (upd H l (.lst (AR.map fun q => .ref q.1)))
theorem ok_rows {f Cr : Addr} {fd : FuncData} (F : FnM K "rows" "River.rows" sRows f fd) (T : Rv K mg Cr) (B : Bl mg) : FnOk P w K mg base CX0 1 f fd ["self"] (spRows Cr) := by
  refine F.ok scRows (fun vs H Q E h => ?_) (fun cdv A outer s H vs Q E hr h => ?_)
  · obtain ⟨p, AR, rfl, _⟩ := h
    rfl
  · obtain ⟨p, AR, rfl, R, k⟩ := h
    refine ⟨_, PSs.nox (pss_one
      (ps_ret (pe_callTy (listK (K := K)) (by rfl) B.list (by decide +kernel) (pa_cons (fldK (K := K) (pv 0) rfl) pa_nil)))), ?_⟩
    obtain ⟨dx, tw, tr, db, dc, da, du, o, h1, h2, h3, h4, h5, h6, h7, h8⟩ := R.ex
    exact ⟨_, rfl, p, Cr, dx, _, _, rfl, h1, T.cl, T._rows, g7r _ _ _ _ _ _ _, tr, _, rfl, .inr (.inl (.inl h3)), fun l nl => k l nl⟩
end
/-! ### NoWeir -/
abbrev sNo : Stmt := inClass (top 4) 0
/-- the class NoWeir at Cn, its __init__ at f -/
structure Nw (P : Program) (K : PySem.W.Frag) (mg : Str → Option Value) (Cn f : Addr) (fd : FuncData) : Prop where
  S : SupF P K mg Cn "__init__" "NoWeir.__init__" (defArgs sNo) (defBody sNo) (defScope sNo) f fd
  hno : PySem.W.findIn K (.ref Cn) "name" = some none
  iC : PySem.W.findIn K (.ref Cn) "__init__" = some (some (.ref f))
  tI : PySem.W.typeIn K (.ref f) = some (.type "function")
  mgN : mg "NoWeir" = some (.ref Cn)
/-- what River's own special methods are -/
structure Sm (K : PySem.W.Frag) (Cr : Addr) : Prop where
  has : ∃ f fd, FnM K "__contains__" "River.__contains__" sContains f fd ∧ PySem.W.findIn K (.ref Cr) "__contains__" = some (some (.ref f)) ∧ PySem.W.isFn K (.ref f) = true
  len : ∃ f fd, FnM K "__len__" "River.__len__" sLen f fd ∧ PySem.W.findIn K (.ref Cr) "__len__" = some (some (.ref f)) ∧ PySem.W.isFn K (.ref f) = true
  iter : ∃ f fd, FnM K "__iter__" "River.__iter__" sIter f fd ∧ PySem.W.findIn K (.ref Cr) "__iter__" = some (some (.ref f)) ∧ PySem.W.isFn K (.ref f) = true
section
variable {P : Program} {w : World} {K : PySem.W.Frag} {mg : Str → Option Value} {base : Heap} {tS tM tL : Tok}
theorem ok_noweir {Cn f : Addr} {fd : FuncData} (N : Nw P K mg Cn f fd) : FnOk P w K mg base CX0 1 f fd ["self", "name"] (spSup K Cn) :=
  ok_sup rfl rfl (by decide +kernel) N.S N.hno (fun _ _ _ _ _ => ⟨_, rfl⟩)
theorem binds_noweir {Cn f : Addr} {fd : FuncData} (N : Nw P K mg Cn f fd) : Binds K fd ["self", "name"] [] := by
  obtain ⟨oc, od, doc, pm, cda, ct, cc, osl, rfl, _⟩ := N.S.ex
  exact .all fun us hl => match us, hl with | [_, _], _ => rfl
/-- what is asked of a weir: an answer, or NoWeir with the value -/
def spAsk (K : PySem.W.Frag) (Cr Cn : Addr) (ok : Hp → Addr → List (Addr × Row) → Str → V → Prop) : Sp := fun vs H Q E => ∃ (p : Addr) (x : V) (AR : List (Addr × Row)), vs = [.ref p, x] ∧ RivAt Cr H p AR ∧ Shown K H x ∧
  (∀ y, x = .str y → y ∈ namesOf AR → ∀ v, ok H p AR y v → Q v H) ∧ (hasV AR x = false → ∀ d, H d = none → E (.ref Cn) (some d) (upd H d (.xd [(("name" : Str), x)])))
abbrev scNeed_N : List Str := ["river", "weir"]
theorem scNeed : FnScope scNeed_N ["river", "weir"] (defScope sNeed) := ⟨rfl, rfl, rfl, by decide +kernel, rfl, by decide +kernel, by decide +kernel⟩
theorem ok_need {f Cr Cn fn : Addr} {fd fdn : FuncData} (F : FnP K "need_weir" sNeed f fd) (N : Nw P K mg Cn fn fdn) (M : Sm K Cr) (T : Rv K mg Cr) (B : Bl mg) : FnOk P w K mg base (L2.CX P w) 3 f fd ["river", "weir"] (spAsk K Cr Cn fun _ _ _ _ v => v = .non) := by
  obtain ⟨fC, fdC, FC, sC, iC⟩ := M.has
  have GC : FnOk P w K mg base CX0 1 fC fdC ["self", "x"] (spHas (GHas K Cr)) := ok_contains FC T B
  have bC : Binds K fdC ["self", "x"] [] := FC.bindsN fun _ _ _ _ _ _ us hl => match us, hl with | [_, _], _ => rfl
  have Gn : FnOk P w K mg base CX0 1 fn fdn ["self", "name"] (spSup K Cn) := ok_noweir N
  have bn := binds_noweir N
  refine F.ok scNeed (fun vs H Q E h => ?_) (fun cdv A outer s H vs Q E hr h => ?_)
  · obtain ⟨p, x, AR, rfl, _⟩ := h
    rfl
  · obtain ⟨p, x, AR, rfl, R, sh, k1, k2⟩ := h
    have hrC : Room 1 _ := hr.mono (by decide)
    refine ⟨_, (pss_one
      (ps_if (pt_cmpR (k0_notIn_own (K := K) GC hrC sC iC bC) (pv 1) (pv 0) (by rfl)) (pss_one
      (ps_raise rfl (takes_of rfl rfl rfl rfl) (pmk_oex N.S.exc N.iC N.tI Gn hr bn .nil (fun _ _ _ _ _ _ _ h => h.elim) (by rfl) N.mgN (pa_cons (pv 1) pa_nil)))) pss_nil)), ?_⟩
    obtain ⟨dx, tw, tr, db, dc, da, du, o, h1, _⟩ := R.ex
    refine ⟨_, rfl, _, rfl, p, dx, _, _, rfl, h1, ⟨AR, R, shown_ty sh, rfl⟩, _, rfl, ?_⟩
    cases hb : hasV AR x with
    | true =>
      refine iteF ?_
      have hx : ∃ y, x = .str y ∧ y ∈ namesOf AR := by
        cases x with
        | str y => exact ⟨y, rfl, of_decide_eq_true hb⟩
        | _ => cases hb
      obtain ⟨y, rfl, hy⟩ := hx
      exact k1 y rfl hy .non rfl
    | false =>
      refine iteT ?_
      refine ⟨_, rfl, by show 1 ≤ 1000; decide, fun a na => ⟨a, x, rfl, upd_same, sh.same fun b o e _ => (upd_ne (ne_of_none e na)).trans e, fun dx n1 n2 => ⟨rfl, dx, [(("name" : Str), x)], upd_same, ?_, ?_, ?_⟩⟩⟩
      · rw [upd_ne n2, upd_same]
      · rw [upd_ne n2] at n1
        exact n1
      · rw [upd_ne n2] at n1
        have e : upd (del (upd (upd (upd H a (exo a Cn none)) dx (exd dx [(("name" : Str), x)])) a (exo a Cn (some dx))) a) dx (.xd [(("name" : Str), x)]) = upd H dx (.xd [(("name" : Str), x)]) := by
          funext b
          by_cases hd : b = dx
          · rw [hd, upd_same, upd_same]
          · rw [upd_ne hd, upd_ne hd]
            by_cases ha : b = a
            · rw [ha, del_same, na]
            · rw [del_ne ha, upd_ne ha, upd_ne hd, upd_ne ha]
        rw [e]
        exact k2 hb dx n1
end
end K0
end

/-! ## K1B -/
section
set_option Elab.async false
set_option linter.all false
set_option maxRecDepth 100000
namespace K0
open PySem PySem.Spec PyProof.Rows L2
theorem scBelow : FnScope ["self", "weir"] ["self", "weir"] (defScope sBelow) := ⟨rfl, rfl, rfl, by decide +kernel, rfl, by decide +kernel, by decide +kernel⟩
theorem scAboveM : FnScope ["self", "weir"] ["self", "weir"] (defScope sAboveM) := ⟨rfl, rfl, rfl, by decide +kernel, rfl, by decide +kernel, by decide +kernel⟩
theorem scCourseM : FnScope ["self", "weir"] ["self", "weir"] (defScope sCourseM) := ⟨rfl, rfl, rfl, by decide +kernel, rfl, by decide +kernel, by decide +kernel⟩
theorem scDepth : FnScope ["self", "weir"] ["self", "weir"] (defScope sDepth) := ⟨rfl, rfl, rfl, by decide +kernel, rfl, by decide +kernel, by decide +kernel⟩
theorem scUpM : FnScope ["self", "weir"] ["self", "weir"] (defScope sUpM) := ⟨rfl, rfl, rfl, by decide +kernel, rfl, by decide +kernel, by decide +kernel⟩
/-- a tuple of texts -/
def Txt (H : Hp) (v : V) (l : List Str) : Prop := ∃ t, v = .ref t ∧ H t = some (.tup (l.map V.str))
abbrev okBelow : Hp → Addr → List (Addr × Row) → Str → V → Prop := fun _ _ AR y v => v = .str (lowR (rowsOf AR) y)
abbrev okCourse : Hp → Addr → List (Addr × Row) → Str → V → Prop := fun H _ AR y v => Txt H v (course (rowsOf AR) y)
abbrev okUp : Hp → Addr → List (Addr × Row) → Str → V → Prop := fun H _ AR y v => Txt H v (upR (rowsOf AR) y)
abbrev okDepth : Hp → Addr → List (Addr × Row) → Str → V → Prop := fun _ _ AR y v => v = .int ((course (rowsOf AR) y).length : Int)
def spAboveM (K : PySem.W.Frag) (Cr Cn : Addr) : Sp := fun vs H Q E => ∃ (p : Addr) (x : V) (AR : List (Addr × Row)), vs = [.ref p, x] ∧ RivAt Cr H p AR ∧ Shown K H x ∧
  (∀ y, x = .str y → y ∈ namesOf AR ++ [("sea" : Str)] → ∀ v, Txt H v (aboveR (rowsOf AR) y) → Q v H) ∧ (hasV AR x = false → x ≠ .str "sea" → ∀ d, H d = none → E (.ref Cn) (some d) (upd H d (.xd [(("name" : Str), x)])))
theorem sea_plain : Plain ("sea" : Str) := by
  intro c hc
  have : c = 115 ∨ c = 101 ∨ c = 97 := by simpa [sea_list, seaL] using hc
  omega
section
variable {P : Program} {w : World} {K : PySem.W.Frag} {mg : Str → Option Value} {base : Heap} {tS tM tL : Tok}
/-- the function need_weir and what it asks -/
structure Nd (P : Program) (w : World) (K : PySem.W.Frag) (mg : Str → Option Value) (base : Heap) (Cr Cn : Addr) : Prop where
  ex : ∃ f fd, FnP K "need_weir" sNeed f fd ∧ mg "need_weir" = some (.ref f) ∧ FnOk P w K mg base (L2.CX P w) 3 f fd ["river", "weir"] (spAsk K Cr Cn fun _ _ _ _ v => v = .non)
theorem ok_below {f Cr Cn : Addr} {fd : FuncData} (F : FnM K "below" "River.below" sBelow f fd) (D : Nd P w K mg base Cr Cn) (T : Rv K mg Cr) : FnOk P w K mg base (L2.CX P w) 4 f fd ["self", "weir"] (spAsk K Cr Cn okBelow) := by
  obtain ⟨fN, fdN, Fneed_weir, gneed_weir, Gneed_weir⟩ := D.ex
  have bneed_weir : Binds K fdN ["river", "weir"] [] := Fneed_weir.bindsN fun _ _ _ _ _ _ us hl => match us, hl with | [_, _], _ => rfl
  refine F.ok scBelow (fun vs H Q E h => ?_) (fun cdv A outer s H vs Q E hr h => ?_)
  · obtain ⟨p, x, AR, rfl, _⟩ := h
    rfl
  · obtain ⟨p, x, AR, rfl, R, sh, k1, k2⟩ := h
    have hu := hu_of hr
    have hrneed_weir : Room 3 _ := hr
    refine ⟨_, (pss_cons
      (ps_expr (pe_call Gneed_weir hrneed_weir (by rfl) gneed_weir Fneed_weir.kp bneed_weir .nil (passes_call (takes_of rfl rfl rfl rfl) (fun _ _ _ _ h => h)) (pa_cons (pv 0) (pa_cons (pv 1) pa_nil))))
      (pss_one
      (ps_ret (pe_dget hu (fldK (K := K) (pv 0) rfl) (pv 1) (fun _ _ => rfl))))), ?_⟩
    obtain ⟨dx, tw, tr, db, dc, da, du, o, h1, h2, h3, h4, h5, h6, h7, h8⟩ := R.ex
    refine ⟨_, rfl, _, rfl, p, x, AR, rfl, R, sh, fun y e hy v ev => ?_, k2⟩
    subst e
    refine ⟨_, rfl, p, Cr, dx, _, _, rfl, h1, T.cl, T._below, g7b _ _ _ _ _ _ _, _, rfl, db, _, rfl, dget_rn (.inl h5) hy, k1 y rfl hy _ rfl⟩
theorem ok_courseM {f Cr Cn : Addr} {fd : FuncData} (F : FnM K "course" "River.course" sCourseM f fd) (D : Nd P w K mg base Cr Cn) (T : Rv K mg Cr) : FnOk P w K mg base (L2.CX P w) 4 f fd ["self", "weir"] (spAsk K Cr Cn okCourse) := by
  obtain ⟨fN, fdN, Fneed_weir, gneed_weir, Gneed_weir⟩ := D.ex
  have bneed_weir : Binds K fdN ["river", "weir"] [] := Fneed_weir.bindsN fun _ _ _ _ _ _ us hl => match us, hl with | [_, _], _ => rfl
  refine F.ok scCourseM (fun vs H Q E h => ?_) (fun cdv A outer s H vs Q E hr h => ?_)
  · obtain ⟨p, x, AR, rfl, _⟩ := h
    rfl
  · obtain ⟨p, x, AR, rfl, R, sh, k1, k2⟩ := h
    have hu := hu_of hr
    have hrneed_weir : Room 3 _ := hr
    refine ⟨_, (pss_cons
      (ps_expr (pe_call Gneed_weir hrneed_weir (by rfl) gneed_weir Fneed_weir.kp bneed_weir .nil (passes_call (takes_of rfl rfl rfl rfl) (fun _ _ _ _ h => h)) (pa_cons (pv 0) (pa_cons (pv 1) pa_nil))))
      (pss_one
      (ps_ret (pe_dget hu (fldK (K := K) (pv 0) rfl) (pv 1) (fun _ _ => rfl))))), ?_⟩
    obtain ⟨dx, tw, tr, db, dc, da, du, o, h1, h2, h3, h4, h5, h6, h7, h8⟩ := R.ex
    refine ⟨_, rfl, _, rfl, p, x, AR, rfl, R, sh, fun y e hy v ev => ?_, k2⟩
    subst e
    obtain ⟨ta, q1, q2⟩ := h6.ex
    refine ⟨_, rfl, p, Cr, dx, _, _, rfl, h1, T.cl, T._courses, g7c _ _ _ _ _ _ _, _, rfl, dc, _, rfl, dget_rn (.inl q1) hy, k1 y rfl hy _ ⟨_, rfl, q2 y hy⟩⟩
theorem ok_upM {f Cr Cn : Addr} {fd : FuncData} (F : FnM K "upstream" "River.upstream" sUpM f fd) (D : Nd P w K mg base Cr Cn) (T : Rv K mg Cr) : FnOk P w K mg base (L2.CX P w) 4 f fd ["self", "weir"] (spAsk K Cr Cn okUp) := by
  obtain ⟨fN, fdN, Fneed_weir, gneed_weir, Gneed_weir⟩ := D.ex
  have bneed_weir : Binds K fdN ["river", "weir"] [] := Fneed_weir.bindsN fun _ _ _ _ _ _ us hl => match us, hl with | [_, _], _ => rfl
  refine F.ok scUpM (fun vs H Q E h => ?_) (fun cdv A outer s H vs Q E hr h => ?_)
  · obtain ⟨p, x, AR, rfl, _⟩ := h
    rfl
  · obtain ⟨p, x, AR, rfl, R, sh, k1, k2⟩ := h
    have hu := hu_of hr
    have hrneed_weir : Room 3 _ := hr
    refine ⟨_, (pss_cons
      (ps_expr (pe_call Gneed_weir hrneed_weir (by rfl) gneed_weir Fneed_weir.kp bneed_weir .nil (passes_call (takes_of rfl rfl rfl rfl) (fun _ _ _ _ h => h)) (pa_cons (pv 0) (pa_cons (pv 1) pa_nil))))
      (pss_one
      (ps_ret (pe_dget hu (fldK (K := K) (pv 0) rfl) (pv 1) (fun _ _ => rfl))))), ?_⟩
    obtain ⟨dx, tw, tr, db, dc, da, du, o, h1, h2, h3, h4, h5, h6, h7, h8⟩ := R.ex
    refine ⟨_, rfl, _, rfl, p, x, AR, rfl, R, sh, fun y e hy v ev => ?_, k2⟩
    subst e
    obtain ⟨ta, q1, q2⟩ := h8.ex
    refine ⟨_, rfl, p, Cr, dx, _, _, rfl, h1, T.cl, T._upstream, g7u _ _ _ _ _ _ _, _, rfl, du, _, rfl, dget_rn (.inl q1) hy, k1 y rfl hy _ ⟨_, rfl, q2 y hy⟩⟩
theorem ok_aboveM {f Cr Cn : Addr} {fd : FuncData} (F : FnM K "above" "River.above" sAboveM f fd) (D : Nd P w K mg base Cr Cn) (T : Rv K mg Cr) (C : Gc mg tS tM tL) : FnOk P w K mg base (L2.CX P w) 4 f fd ["self", "weir"] (spAboveM K Cr Cn) := by
  obtain ⟨fN, fdN, Fneed_weir, gneed_weir, Gneed_weir⟩ := D.ex
  have bneed_weir : Binds K fdN ["river", "weir"] [] := Fneed_weir.bindsN fun _ _ _ _ _ _ us hl => match us, hl with | [_, _], _ => rfl
  refine F.ok scAboveM (fun vs H Q E h => ?_) (fun cdv A outer s H vs Q E hr h => ?_)
  · obtain ⟨p, x, AR, rfl, _⟩ := h
    rfl
  · obtain ⟨p, x, AR, rfl, R, sh, k1, k2⟩ := h
    have hu := hu_of hr
    have hu64 := hr.units
    have hrneed_weir : Room 3 _ := hr
    refine ⟨_, (pss_cons
      (ps_if (pt_cmpR (op_neD hu64) (pv 1) (pe_glob (v := .str "sea") (by rfl) C.SEA ⟨_, rfl⟩) (nomark _)) (pss_one
      (ps_expr (pe_call Gneed_weir hrneed_weir (by rfl) gneed_weir Fneed_weir.kp bneed_weir .nil (passes_call (takes_of rfl rfl rfl rfl) (fun _ _ _ _ h => h)) (pa_cons (pv 0) (pa_cons (pv 1) pa_nil))))) pss_nil)
      (pss_one
      (ps_ret (pe_dget hu (fldK (K := K) (pv 0) rfl) (pv 1) (fun _ _ => rfl))))), ?_⟩
    obtain ⟨dx, tw, tr, db, dc, da, du, o, h1, h2, h3, h4, h5, h6, h7, h8⟩ := R.ex
    obtain ⟨dd, q1, q2, q3⟩ := shown_dp sh
    obtain ⟨ta, t1, t2⟩ := h7.ex
    refine ⟨_, rfl, dd, .str "sea", q1, .str "sea", q2, shaped_str sea_plain, _, rfl, ?_⟩
    rcases q3 with ⟨y, rfl, rfl⟩ | ⟨no, nod⟩
    · by_cases hy : y = "sea"
      · subst hy
        have e : (!PyData.eqv (.str "sea") (.str "sea")) = false := by simp only [PyData.eqv]; decide +kernel
        refine Eq.mpr (if_neg (by rw [e]; exact Bool.false_ne_true)) ?_
        have hm : ("sea" : Str) ∈ namesOf AR ++ [("sea" : Str)] := List.mem_append_right _ (List.mem_singleton.mpr rfl)
        exact ⟨_, rfl, p, Cr, dx, _, _, rfl, h1, T.cl, T._above, g7a _ _ _ _ _ _ _, _, rfl, da, _, rfl, dget_rn (.inl t1) hm, k1 _ rfl hm _ ⟨_, rfl, t2 _ hm⟩⟩
      · have e : (!PyData.eqv (.str y) (.str "sea")) = true := by
          simp only [PyData.eqv]
          rw [Bool.not_eq_true']
          simpa using hy
        refine Eq.mpr (if_pos e) ?_
        refine ⟨_, rfl, _, rfl, p, .str y, AR, rfl, R, sh, fun z ez hz v ev => ?_, fun hb d nd => k2 hb (fun z => hy (V.str.inj z)) d nd⟩
        cases ez
        have hm : y ∈ namesOf AR ++ [("sea" : Str)] := List.mem_append_left _ hz
        exact ⟨_, rfl, p, Cr, dx, _, _, rfl, h1, T.cl, T._above, g7a _ _ _ _ _ _ _, _, rfl, da, _, rfl, dget_rn (.inl t1) hm, k1 _ rfl hm _ ⟨_, rfl, t2 _ hm⟩⟩
    · have e : (!PyData.eqv dd (.str "sea")) = true := by
        cases dd with
        | str y => exact absurd rfl (nod y)
        | _ => simp only [PyData.eqv]; rfl
      refine Eq.mpr (if_pos e) ?_
      exact ⟨_, rfl, _, rfl, p, x, AR, rfl, R, sh, fun z ez hz v ev => absurd ez (no z), fun hb d nd => k2 hb (no _) d nd⟩
theorem ok_depth {f fc Cr Cn : Addr} {fd fdc : FuncData} (F : FnM K "depth" "River.depth" sDepth f fd) (Fcourse : FnM K "course" "River.course" sCourseM fc fdc) (Mcourse : Meth K Cr "course" fc) (D : Nd P w K mg base Cr Cn) (T : Rv K mg Cr) (B : Bl mg) : FnOk P w K mg base (L2.CX P w) 5 f fd ["self", "weir"] (spAsk K Cr Cn okDepth) := by
  have Gcourse : FnOk P w K mg base (L2.CX P w) 4 fc fdc ["self", "weir"] (spAsk K Cr Cn okCourse) := ok_courseM Fcourse D T
  have bcourse : Binds K fdc ["self", "weir"] [] := Fcourse.bindsN fun _ _ _ _ _ _ us hl => match us, hl with | [_, _], _ => rfl
  refine F.ok scDepth (fun vs H Q E h => ?_) (fun cdv A outer s H vs Q E hr h => ?_)
  · obtain ⟨p, x, AR, rfl, _⟩ := h
    rfl
  · obtain ⟨p, x, AR, rfl, R, sh, k1, k2⟩ := h
    have hrcourse : Room 4 _ := hr
    refine ⟨_, (pss_one
      (ps_ret (pe_callB (lenK (K := K)) (by rfl) B.len PySem.boot_len (pa_cons (pe_meth (pv 0) T.cl Mcourse Gcourse hrcourse bcourse .nil (passes_call (takes_of rfl rfl rfl rfl) (fun _ _ _ _ h => h)) (pa_cons (pv 1) pa_nil)) pa_nil)))), ?_⟩
    obtain ⟨dx, tw, tr, db, dc, da, du, o, h1, h2, h3, h4, h5, h6, h7, h8⟩ := R.ex
    refine ⟨_, rfl, p, dx, _, rfl, h1, g7no _ _ _ _ _ _ _ (by decide +kernel) (by decide +kernel) (by decide +kernel) (by decide +kernel) (by decide +kernel) (by decide +kernel) (by decide +kernel), _, rfl, p, x, AR, rfl, R, sh, fun y e hy v ev => ?_, k2⟩
    obtain ⟨t, rfl, ht⟩ := ev
    refine ⟨t, _, rfl, .inr (.inl (.inl ht)), ?_⟩
    rw [List.length_map]
    exact k1 y e hy _ rfl
end
end K0
end

/-! ## K1C -/
section
set_option Elab.async false
set_option linter.all false
set_option maxRecDepth 100000
namespace L2
open PySem PySem.Spec PyProof.Rows
open PySem.W
/-! ### == and != by an own __eq__ -/
section
variable {prog : Program} {w : World} {M : Model} {A : Around} {E : Value → Shared → Prop} {s : Shared} {K : Frag} {x C f : Addr} {ox : Obj} {od : Option Obj} {y tb : Value}
theorem k0_ne_bound {Q : Option Value → Shared → Prop} (X : K.In s.heap) (I : InstAt s.heap x ox C od) (hs : findIn K (.ref C) "__ne__" = some (some (.builtin "object.__ne__")))
    (h : wpAny M A (call (.builtin "object.__ne__") [.ref x, y]) (fun v => Q (some v)) E s) : wpAny M A (callSpecialIfBound? (.ref x) "__ne__" [y]) Q E s := by
  simp only [callSpecialIfBound?, bindSpecialIfBound?]
  refine wpAny_holding (wpAny_bind (wpAny_bind (wpAny_bind (I.type.here ((looks_findIn X hs).here ?_)))))
  simp only [F.cmp_object.ne.bind]
  refine wpAny_bind (wpAny_askSetting (wpAny_ite ?_))
  have fin : wpAny M A (call (.builtin "object.__ne__") ([.ref x] ++ [y]) >>= fun v => pure (some v)) Q E s := wpAny_bind (wpAny_mono h (fun v s' h' => wpAny_pure h') fun _ _ h' => h')
  split
  · exact wpAny_bind (wpAny_pure (wpAny_pure (by exact fin)))
  · exact wpAny_tryCatch (wpAny_bind (wpAny_pure (wpAny_pure (by exact fin))))
theorem k0_ne_entry {Q : Fin → Shared → Prop} (hu : A.units < cLine) (X : K.In s.heap) (I : InstAt s.heap x ox C od) (hs : findIn K (.ref C) "__eq__" = some (some (.ref f))) (hf : isFn K (.ref f) = true)
    (hcall : wpAny (model prog w) A (call (.ref f) [.ref x, y]) (fun v s' => ∃ b, v = .bool b ∧ Q (.done (.ret (.bool (!b)))) s') E s) : wpAny (model prog w) A (Builtin.«object.__ne__» ⟨[.ref x, y], []⟩) Q E s := by
  unfold Builtin.«object.__ne__»
  refine wpAny_bind (m := slotArgs "__ne__" 1 _) (wpAny_pure ?_)
  show wpAny _ _ (cRoomFor "comparison" [.ref x, y] >>= _) _ _ _
  refine wpAny_bind (wpAny_cRoomFor hu ?_)
  refine wpAny_bind (m := callSpecialIfBound? (.ref x) (Str.ofString "__eq__") [y]) (ifBound_K X I hs hf (wpAny_mono hcall (fun v s' hv => ?_) fun _ _ e => e))
  obtain ⟨b, rfl, q⟩ := hv
  refine wpAny_bind (m := truthy (.bool b)) (wpAny_truthy_bool ?_)
  exact wpAny_pure q
theorem k0_ne_K {Q : Value → Shared → Prop} (hu : A.units + 1 < cLine) (X : K.In s.heap) (I : InstAt s.heap x ox C od) (hb : Looks (model prog w) s.heap (typeOf y) tb) (hn : notFirst K C tb = true)
    (hn2 : findIn K (.ref C) "__ne__" = some (some (.builtin "object.__ne__"))) (hs : findIn K (.ref C) "__eq__" = some (some (.ref f))) (hf : isFn K (.ref f) = true) (ho : mroIn K C (.type "object") = some true)
    (h : wpAny (model prog w) A.in1 (call (.ref f) [.ref x, y]) (fun v s' => ∃ b, v = .bool b ∧ Q (.bool (!b)) s') E s) : wpAny (model prog w) A (richCompare .NotEq (.ref x) y) Q E s := by
  have sub : Looks (model prog w) s.heap (isInstance (.ref x) (.type "object")) true := I.type.andThen (looks_mroIn X ho)
  have one : wpAny (model prog w) A (tryCompare (.ref x) "__ne__" y) (fun r s' => ∃ v, r = some v ∧ Q v s') E s := by
    unfold tryCompare
    refine wpAny_bind (k0_ne_bound X I hn2 (wpAny_call (codeAny_call_builtin F.cmp_object.ne.plain F.cmpEntry_ne (@check_slot (model prog w) _ _ s "object.__ne__" "object" "__ne__" (.ref x) [y] [] _ F.cmpKind_ne F.cmpSplit_ne sub (F.cmpArgs_ne _ _)
      (k0_ne_entry (A := A.in1) hu X I hs hf (wpAny_mono h (fun v s' hv => ?_) fun _ _ e => e))))))
    obtain ⟨b, rfl, q⟩ := hv
    exact ⟨b, rfl, wpAny_pure ⟨_, rfl, q⟩⟩
  unfold richCompare
  simp only [oneThing_ref]
  refine wpAny_holding (wpAny_bind (wpAny_cRoomFor (Nat.lt_of_succ_lt hu) ?_))
  refine wpAny_bind (I.type.here (wpAny_bind (hb.here ?_)))
  split
  · rename_i q
    have e : subIn K tb (.ref C) = some false := by
      rcases Bool.or_eq_true_iff.mp hn with e | e
      · rw [beq_iff_eq.mp e] at q; simp at q
      · exact beq_iff_eq.mp e
    refine wpAny_bind ((looks_subIn X e).here ?_)
    simp only [Bool.false_eq_true, if_false]
    refine wpAny_bind (wpAny_mono one (fun r s' z => ?_) fun _ _ e => e)
    obtain ⟨v, rfl, hq⟩ := z
    exact wpAny_pure hq
  · refine wpAny_bind (wpAny_pure ?_)
    simp only [Bool.false_eq_true, if_false]
    refine wpAny_bind (wpAny_mono one (fun r s' z => ?_) fun _ _ e => e)
    obtain ⟨v, rfl, hq⟩ := z
    exact wpAny_pure hq
end
end L2
namespace L2
open PySem PySem.Spec PyProof.Rows
section
variable {X : Cx} {k : Nat} {C f : Addr} {fd : FuncData}
def rOwnEq (K : PySem.W.Frag) (C : Addr) (neg : Bool) (G : Hp → Addr → V → Bool → Prop) : R2 := fun x y H Q => ∃ (p dx : Addr) (fs : List (Str × V)) (b : Bool) (t : Value), x = .ref p ∧ H p = some (.ins C dx fs) ∧ G H p y b ∧ TyX K H y t ∧ PySem.W.notFirst K C t = true ∧ Q (.bl (if neg then !b else b)) H
theorem k0_eq_run {ps : List Str} {G : Hp → Addr → V → Bool → Prop} (F : FnOk X.prog X.w X.K X.mg X.base CX0 k f fd ps (spHas G)) {A : Around} (hr : Room k A) (hl : ps.length = 2) (hb : Binds X.K fd ps []) {pins : List (Addr × Obj)} {σ : St} {H : Hp} {s : Shared} (I : Inv X pins σ H s)
    (e0 : Env0 X.prog X.w X.K X.mg X.base A X.stack s H) {E : Value → Shared → Prop} {p : Addr} {x : V} {u : Value} {b : Bool} (rx : RelV x u) (hG : G H p x b)
    {R : Value → Shared → Prop} (h : ∀ s', Inv X pins σ H s' → R (.bool b) s') : wpAny (model X.prog X.w) A (call (.ref f) [.ref p, u]) R E s := by
  have hsp : spHas G [.ref p, x] H (fun v H' => v = .bl b ∧ H' = H) E0 := ⟨p, x, b, rfl, hG, rfl, rfl⟩
  have r2 : Vals [V.ref p, x] [Value.ref p, u] := .cons rfl (.cons rx .nil)
  refine wpAny_call (codeAny_mono (F.run A X.stack s H ⟨[.ref p, u], []⟩ [.ref p, u] [.ref p, x] _ E0 hr e0 (by
    have := hb s [.ref p, u] I.kIn (by rw [hl]; rfl)
    simpa using this) r2 hsp) fun r s' hq => ?_)
  cases r with
  | error e => exact hq.elim
  | ok fl =>
    cases fl with
    | ret w =>
      obtain ⟨z, H', I', rz, ez, eH⟩ := I.after hq
      subst ez
      subst eH
      cases rz
      exact h s' I'
    | next => exact hq.elim
    | brk => exact hq.elim
    | cont => exact hq.elim
theorem k0_ty_looks {pins : List (Addr × Obj)} {σ : St} {H : Hp} {s : Shared} {x : V} {u t : Value} (I : Inv X pins σ H s) (rx : RelV x u) (ty : TyX X.K H x t) : PySem.W.Looks (model X.prog X.w) s.heap (typeOf u) t := by
  obtain ⟨Pz, Z, pz, _⟩ := kit_of I rx ty
  exact Z.ty _ _ I.kIn pz
theorem k0_eq_own {ps : List Str} {G : Hp → Addr → V → Bool → Prop} (F : FnOk X.prog X.w X.K X.mg X.base CX0 k f fd ps (spHas G)) (hr : Room k X.A) (hl : ps.length = 2)
    (hs : PySem.W.findIn X.K (.ref C) "__eq__" = some (some (.ref f))) (hf : PySem.W.isFn X.K (.ref f) = true) (hb : Binds X.K fd ps []) : OpR X (compareOp .Eq) (rOwnEq X.K C false G) := by
  intro pins s σ H x y v u Q I rx ry h
  obtain ⟨p, dx, fs, b, t, rfl, hp, hG, ty, hn, q⟩ := h
  cases rx
  obtain ⟨mA, J, _⟩ := ins_get I.hok hp
  obtain ⟨od, J, _⟩ := J.look
  obtain ⟨m, hF⟩ := I.fr
  show wpAny _ _ (compareOp .Eq (.ref p) u) _ _ _
  unfold compareOp
  refine PySem.W.cmp_K (op := .Eq) hr.units0 hF I.ok.mod.kin J (k0_ty_looks I ry ty) hn hs hf (k0_eq_run F hr hl hb I I.env0 ry hG fun s' I' => ?_)
  exact ⟨.bl b, H, I', rfl, q⟩
theorem k0_ne_own {ps : List Str} {G : Hp → Addr → V → Bool → Prop} (F : FnOk X.prog X.w X.K X.mg X.base CX0 k f fd ps (spHas G)) (hr : Room (k + 1) X.A) (hl : ps.length = 2)
    (hs : PySem.W.findIn X.K (.ref C) "__eq__" = some (some (.ref f))) (hn2 : PySem.W.findIn X.K (.ref C) "__ne__" = some (some (.builtin "object.__ne__"))) (ho : PySem.W.mroIn X.K C (.type "object") = some true)
    (hf : PySem.W.isFn X.K (.ref f) = true) (hb : Binds X.K fd ps []) : OpR X (compareOp .NotEq) (rOwnEq X.K C true G) := by
  intro pins s σ H x y v u Q I rx ry h
  obtain ⟨p, dx, fs, b, t, rfl, hp, hG, ty, hn, q⟩ := h
  cases rx
  obtain ⟨mA, J, _⟩ := ins_get I.hok hp
  obtain ⟨od, J, _⟩ := J.look
  show wpAny _ _ (compareOp .NotEq (.ref p) u) _ _ _
  unfold compareOp
  have hu := hr.units
  refine k0_ne_K (by omega) I.kIn J (k0_ty_looks I ry ty) hn hn2 hs hf ho (k0_eq_run F hr.in1 hl hb I I.env0.in1 ry hG fun s' I' => ?_)
  exact ⟨b, rfl, .bl (!b), H, I', rfl, q⟩
end
end L2
namespace K0
open PySem PySem.Spec PyProof.Rows L2
theorem scEq : FnScope ["self", "other"] ["self", "other"] (defScope sEq) := ⟨rfl, rfl, rfl, by decide +kernel, rfl, by decide +kernel, by decide +kernel⟩
/-- what == answers -/
def GEq (K : PySem.W.Frag) (Cr : Addr) : Hp → Addr → V → Bool → Prop := fun H p x b => ∃ AR, RivAt Cr H p AR ∧ GoodRows (rowsOf AR) ∧ ((∃ q AR2, x = .ref q ∧ RivAt Cr H q AR2 ∧ GoodRows (rowsOf AR2) ∧ b = decide (rowsOf AR = rowsOf AR2)) ∨ ∃ t, TyX K H x t ∧ PySem.W.kitOne K t (.ref Cr) = some false ∧ b = false)
/-- what isinstance asks of River -/
structure Ri (K : PySem.W.Frag) (Cr : Addr) : Prop where
  ha : PySem.W.findIn K (.ref Cr) "__class__" = some (some (.builtin "object.__class__"))
  hn : PySem.W.specialIn K (.builtin "object.__class__") "__get__" = some (some (.builtin "getset_descriptor.__get__"))
  htk : PySem.W.takesIn K (.builtin "object.__class__") = some true
  hm : PySem.W.mroIn K Cr (.type "object") = some true
section
variable {P : Program} {w : World} {K : PySem.W.Frag} {mg : Str → Option Value} {base : Heap} {tS tM tL : Tok}
/-- rows as data -/
def rowD (r : Row) : PyData := .tuple [.str r.1, .str r.2]
theorem eqv_rows : ∀ a b : List Row, PyData.eqvAll (a.map rowD) (b.map rowD) = decide (a = b)
  | [], [] => by simp only [List.map_nil, PyData.eqvAll]; rfl
  | [], _ :: _ => by simp only [List.map_nil, List.map_cons, PyData.eqvAll]; rfl
  | _ :: _, [] => by simp only [List.map_nil, List.map_cons, PyData.eqvAll]; rfl
  | (x1, x2) :: a, (y1, y2) :: b => by
    have ih := eqv_rows a b
    simp only [List.map_cons, PyData.eqvAll, rowD, PyData.eqv, Bool.and_true]
    rw [Bool.eq_iff_iff]
    have ih2 : PyData.eqvAll (a.map rowD) (b.map rowD) = true ↔ a = b := by rw [ih]; simp
    simp only [Bool.and_eq_true, beq_iff_eq, decide_eq_true_eq, List.cons.injEq, Prod.mk.injEq, ih2]
theorem canLay_rows : ∀ {a : List Row}, (∀ r ∈ a, Plain r.1 ∧ Plain r.2) → PyData.canLayAll0 (a.map rowD) = true
  | [], _ => by simp only [List.map_nil, PyData.canLayAll0]
  | r :: a, h => by
    have ih := canLay_rows fun z hz => h z (List.mem_cons_of_mem _ hz)
    obtain ⟨h1, h2⟩ := h r List.mem_cons_self
    simp only [List.map_cons, PyData.canLayAll0, ih, rowD, PyData.canLay0, plain_ok h1, plain_ok h2]
    rfl
theorem depth_rows : ∀ a : List Row, PyData.depthAll (a.map rowD) ≤ 1
  | [] => by simp only [List.map_nil, PyData.depthAll]; omega
  | r :: a => by
    have ih := depth_rows a
    simp only [List.map_cons, PyData.depthAll, rowD, PyData.depth]
    omega
theorem name_plain {x : Str} (h : NameOk x) : Plain x := fun c hc => by
  have := (h.low c hc).2
  omega
theorem good_plain {R : List Row} (h : GoodRows R) : ∀ r ∈ R, Plain r.1 ∧ Plain r.2 := fun r hr => by
  have hk := h.row hr
  exact ⟨name_plain hk.a, name_plain hk.b⟩
theorem dp_rows {H : Hp} : ∀ {AR : List (Addr × Row)}, (∀ q ∈ AR, H q.1 = some (.tup [.str q.2.1, .str q.2.2])) → DpAll K H (AR.map fun q => V.ref q.1) ((rowsOf AR).map rowD)
  | [], _ => .nil
  | (a, r) :: AR, h => .cons (.tup (.inl (.inl (h (a, r) List.mem_cons_self))) (.cons (.str r.1) (.cons (.str r.2) .nil))) (dp_rows fun q hq => h q (List.mem_cons_of_mem _ hq))
theorem shaped_rows {R : List Row} (h : ∀ r ∈ R, Plain r.1 ∧ Plain r.2) : SeqAt.shaped (.tuple (R.map rowD)) = true ∧ SeqAt.shaped (.list (R.map rowD)) = true := by
  have h2 := depth_rows R
  have h3 : PyData.depthAll (R.map rowD) + 1 ≤ 64 := by omega
  constructor
  all_goals
    unfold SeqAt.shaped
    simp only [PyData.canLay0, PyData.depth, canLay_rows h, h3]
    rfl
theorem ok_eq {f Cr : Addr} {fd : FuncData} (F : FnM K "__eq__" "River.__eq__" sEq f fd) (T : Rv K mg Cr) (I : Ri K Cr) (hty : PySem.W.typeIn K (.ref Cr) = some (.type "type")) (B : Bl mg) : FnOk P w K mg base CX0 1 f fd ["self", "other"] (spHas (GEq K Cr)) := by
  refine F.ok scEq (fun vs H Q E h => ?_) (fun cdv A outer s H vs Q E hr h => ?_)
  · obtain ⟨p, x, b, rfl, _⟩ := h
    rfl
  · obtain ⟨p, x, b, rfl, ⟨AR, R, G, hx⟩, k⟩ := h
    have hu64 := hr.units
    refine ⟨_, PSs.nox (pss_one
      (ps_ret (pe_and (pe_callB call_isi (by rfl) B.isinstance (by decide +kernel) (pa_cons (pv 1) (pa_cons (pe_glob (v := .ref Cr) (by rfl) T.mgC rfl) pa_nil))) (pe_one (pe_cmpR (op_eqD hu64) (fldK (K := K) (pv 0) rfl) (fldK (K := K) (pv 1) rfl) (nomark _)))))), ?_⟩
    obtain ⟨dx, tw, tr, db, dc, da, du, o, h1, h2, h3, h4, h5, h6, h7, h8⟩ := R.ex
    rcases hx with ⟨q, AR2, rfl, R2, G2, rfl⟩ | ⟨t, ht, kt, rfl⟩
    · obtain ⟨dx2, tw2, tr2, db2, dc2, da2, du2, o2, i1, i2, i3, i4, i5, i6, i7, i8⟩ := R2.ex
      have kit : PySem.W.kitOne K (.ref Cr) (.ref Cr) = some true := by unfold PySem.W.kitOne; simp
      refine ⟨_, rfl, _, .ref Cr, .ref Cr, _, true, rfl, .own Cr, .base (.ins i1 T.cl I.ha I.hn I.htk I.hm), kit, true, rfl, iteT ?_⟩
      refine ⟨_, rfl, p, Cr, dx, _, _, rfl, h1, T.cl, T._rows, g7r _ _ _ _ _ _ _, _, rfl, q, Cr, dx2, _, _, rfl, i1, T.cl, T._rows, g7r _ _ _ _ _ _ _, ?_⟩
      refine ⟨.tuple ((rowsOf AR).map rowD), .tuple ((rowsOf AR2).map rowD), .tup (.inl (.inl h3)) (dp_rows h4), .tup (.inl (.inl i3)) (dp_rows i4), (shaped_rows (good_plain G)).1, (shaped_rows (good_plain G2)).1, ?_⟩
      have e : PyData.eqv (.tuple ((rowsOf AR).map rowD)) (.tuple ((rowsOf AR2).map rowD)) = decide (rowsOf AR = rowsOf AR2) := by
        simp only [PyData.eqv]
        exact eqv_rows _ _
      rw [e]
      exact k
    · refine ⟨_, rfl, x, .ref Cr, t, .ref Cr, false, rfl, .own Cr, ht, kt, false, rfl, iteF ?_⟩
      exact k
end
end K0
end

/-! ## K1D -/
section
set_option Elab.async false
set_option linter.all false
set_option maxRecDepth 100000
namespace K0
open PySem PySem.Spec PyProof.Rows L2
theorem iteYes {c A B : Prop} [Decidable c] (hc : ¬ c) (h : A) : if (!decide c) = true then A else B := by
  rw [decide_eq_false hc]
  exact iteT h
theorem iteNo {c A B : Prop} [Decidable c] (hc : ¬ ¬ c) (h : B) : if (!decide c) = true then A else B := by
  rw [decide_eq_true (Decidable.not_not.mp hc)]
  exact iteF h
theorem low_sea {R : List Row} (g : GoodRows R) : lowR R "sea" = "sea" := by
  unfold lowR
  cases e : R.find? (fun r => decide (r.1 = ("sea" : Str))) with
  | none => rfl
  | some r =>
    have h1 := List.mem_of_find?_eq_some e
    have h0 := List.find?_some e
    have h2 := of_decide_eq_true h0
    exact absurd h2 (g.nm.sea _ (List.mem_map.mpr ⟨r, h1, rfl⟩))
theorem itr_sea {low : Str → Str} (h : low "sea" = "sea") : ∀ n, itr low n "sea" = "sea"
  | 0 => rfl
  | n + 1 => by
    show low (itr low n "sea") = "sea"
    rw [itr_sea h n, h]
theorem crs_snoc {low : Str → Str} (h : low "sea" = "sea") : ∀ (n : Nat) (x : Str), crs low (n + 1) x = crs low n x ++ (if itr low n x = "sea" then [] else [itr low n x])
  | 0, x => rfl
  | n + 1, x => by
    show (if x = "sea" then [] else x :: crs low (n + 1) (low x)) = (if x = "sea" then [] else x :: crs low n (low x)) ++ _
    rw [itr_shift]
    by_cases hx : x = "sea"
    · subst hx
      rw [if_pos rfl, if_pos rfl, h, itr_sea h n, if_pos rfl]
      rfl
    · rw [if_neg hx, if_neg hx, crs_snoc h n (low x)]
      rfl
theorem itr_in {R : List Row} (g : GoodRows R) {x : Str} (hx : x ∈ nmsOf R) : ∀ n, itr (lowR R) n x = "sea" ∨ itr (lowR R) n x ∈ nmsOf R
  | 0 => .inr hx
  | n + 1 => by
    show lowR R (itr (lowR R) n x) = "sea" ∨ lowR R (itr (lowR R) n x) ∈ nmsOf R
    rcases itr_in g hx n with e | e
    · rw [e]
      exact .inl (low_sea g)
    · obtain ⟨r, hr, e1, e2⟩ := low_row e
      obtain ⟨rk, hk⟩ := g.rank
      rw [← e2]
      rcases hk r hr with z | ⟨z, _⟩
      · exact .inl z
      · exact .inr z
theorem merge_rows {R : List Row} : ∀ {Q : List Row} {ns : List Str}, (ns ++ Q.map (·.1)).Nodup → (∀ r ∈ Q, lowR R r.1 = r.2) → mergeK (kmap (fun y => .str (lowR R y)) ns) (Q.map fun r => ((Sum.inr r.1 : Key), V.str r.2)) = kmap (fun y => .str (lowR R y)) (ns ++ Q.map (·.1))
  | [], ns, _, _ => by
    show kmap (fun y => V.str (lowR R y)) ns = kmap (fun y => V.str (lowR R y)) (ns ++ [])
    rw [List.append_nil]
  | r :: Q, ns, hd, hl => by
    have hd2 : ((ns ++ [r.1]) ++ Q.map (·.1)).Nodup := by
      rw [List.append_assoc]
      exact hd
    have hn : r.1 ∉ ns := fun z => by
      have := List.nodup_append.mp hd
      exact this.2.2 r.1 z r.1 (by rw [List.map_cons]; exact List.mem_cons_self) rfl
    have ih := merge_rows (Q := Q) hd2 fun q hq => hl q (List.mem_cons_of_mem _ hq)
    have e1 : putK (kmap (fun y => V.str (lowR R y)) ns) (Sum.inr r.1) (V.str r.2) = kmap (fun y => V.str (lowR R y)) (ns ++ [r.1]) := by
      have := kmap_put (f := fun y => V.str (lowR R y)) hn
      rw [hl r List.mem_cons_self] at this
      exact this
    show mergeK (putK (kmap (fun y => V.str (lowR R y)) ns) (Sum.inr r.1) (V.str r.2)) (Q.map fun r => ((Sum.inr r.1 : Key), V.str r.2)) = _
    rw [e1, ih, List.append_assoc]
    rfl
theorem merge_all {R : List Row} (g : GoodRows R) : mergeK [] (R.map fun r => ((Sum.inr r.1 : Key), V.str r.2)) = belowK R :=
  merge_rows (R := R) (Q := R) (ns := []) (by simpa using g.nm.nd) fun r hr => low_at g.nm.nd hr
theorem rows_pairs {K : PySem.W.Frag} {H : Hp} : ∀ {AR : List (Addr × Row)}, (∀ q ∈ AR, H q.1 = some (.tup [.str q.2.1, .str q.2.2])) → Paired (fun p (kv : Key × V) => SqT K H p [kV kv.1, kv.2]) (AR.map (·.1)) ((rowsOf AR).map fun r => ((Sum.inr r.1 : Key), V.str r.2))
  | [], _ => .nil
  | q :: AR, h => .cons (.inl (.inl (h q List.mem_cons_self))) (rows_pairs fun z hz => h z (List.mem_cons_of_mem _ hz))
abbrev scLCourse_N : List Str := ["_law_rows", "_law_weir", "_law_below", "_law_found", "_law_k"]
theorem scLCourse : FnScope scLCourse_N ["_law_rows", "_law_weir"] (defScope sLCourse) := ⟨rfl, rfl, rfl, by decide +kernel, rfl, by decide +kernel, by decide +kernel⟩
def spLCourse : Sp := fun vs H Q _ => ∃ (l : Addr) (AR : List (Addr × Row)) (y : Str), vs = [.ref l, .str y] ∧ RowsAt H l AR ∧ GoodRows (rowsOf AR) ∧ y ∈ namesOf AR ∧
  ∀ (H' : Hp) (c : Addr), Same H H' → H c = none → H' c = some (.lst ((course (rowsOf AR) y).map V.str)) → Q (.ref c) H'
section
variable {P : Program} {w : World} {K : PySem.W.Frag} {mg : Str → Option Value} {base : Heap} {tS tM tL : Tok}
theorem ok_lcourse {f : Addr} {fd : FuncData} (F : FnP K "_law_course" sLCourse f fd) (B : Bl mg) : FnOk P w K mg base CX0 1 f fd ["_law_rows", "_law_weir"] spLCourse := by
  refine F.ok scLCourse (fun vs H Q E h => ?_) (fun cdv A outer s H vs Q E hr h => ?_)
  · obtain ⟨l, AR, y, rfl, _⟩ := h
    rfl
  · obtain ⟨l, AR, y, rfl, hR, hG, hy, k⟩ := h
    have hu := hu_of hr
    refine ⟨_, PSs.nox (pss_cons
      (ps_par (i := 2) (j := 3) (by rfl) scLCourse.nd rfl rfl (by decide) rfl rfl (pa_cons (pe_callTy (call_dictP rfl) (by rfl) B.dict (by decide +kernel) (pa_cons (pv 0) pa_nil)) (pa_cons (pe_lst pa_nil) pa_nil)) (by rfl))
      (pss_cons
      (ps_for PassesOwn.never rfl (pi_range1 (by rfl) B.range (pa_cons (pe_callB (lenK (K := K)) (by rfl) B.len PySem.boot_len (pa_cons (pv 0) pa_nil)) pa_nil)) (pg_name (i := 4) scLCourse.nd rfl (Or.inl rfl)) (pss_one
      (ps_if (pt_cmpR op_ne (pv 1) pe_str (nomark _)) (pss_cons
      (ps_expr (pe_bm PySem.F.plainAttrs_list PySem.F.slot_list_append PySem.F.type_list_append mt_append (pv 3) (pa_cons (pv 1) pa_nil)))
      (pss_one
      (ps_set (i := 1) scLCourse.nd rfl (Or.inl rfl) (pe_dget hu (pv 2) (pv 1) (fun _ _ => rfl))))) pss_nil)))
      (pss_one
      (ps_ret (pv 3))))), ?_⟩
    have hRm := hG.most
    have hAl : (rowsOf AR).length = AR.length := List.length_map _
    refine ⟨_, rfl, l, AR.map (·.1), (rowsOf AR).map fun r => ((Sum.inr r.1 : Key), V.str r.2), rfl, ?_, rows_pairs hR.tup, fun d nd => ?_⟩
    · rw [List.map_map]
      exact .inl (.inl hR.lst)
    rw [merge_all hG]
    refine ⟨Nat.zero_le _, fun c nc => ⟨_, _, rfl, ?_⟩⟩
    have ndc : d ≠ c := ne_of_none upd_same nc
    have nc0 : H c = none := by
      rw [upd_ne ndc.symm] at nc
      exact nc
    have s1 : Same H (upd (upd H d (.dK (belowK (rowsOf AR)))) c (.lst [])) := (same_upd nd).trans (same_upd nc)
    refine ⟨_, rfl, l, _, rfl, .inl (.inl (.inl (s1 _ _ hR.lst))), ((AR.map fun q => V.ref q.1).length : Int), rfl, by omega, by rw [List.length_map]; omega, ?_⟩
    refine for_range (n := (AR.map fun q => V.ref q.1).length) (lo := 0) (fun i σ H2 => ∃ v, σ = [some (.ref l), some (.str (itr (lowR (rowsOf AR)) i y)), some (.ref d), some (.ref c), v] ∧ Same H H2 ∧ H2 d = some (.dK (belowK (rowsOf AR))) ∧ H2 c = some (.lst ((crs (lowR (rowsOf AR)) i y).map V.str)) ∧ (crs (lowR (rowsOf AR)) i y).length ≤ i)
      ⟨none, rfl, s1, by rw [upd_ne ndc, upd_same], upd_same, Nat.le_refl _⟩ ?_ ?_
    · rintro i σ H2 hi ⟨v, rfl, s2, hd2, hc2, hl2⟩
      have hls := low_sea hG
      refine ⟨_, rfl, rfl, ?_⟩
      have hcz := crs_snoc hls i y
      rcases itr_in hG hy i with e | e
      · have ec : crs (lowR (rowsOf AR)) (i + 1) y = crs (lowR (rowsOf AR)) i y := by rw [hcz, if_pos e, List.append_nil]
        have ei : itr (lowR (rowsOf AR)) (i + 1) y = itr (lowR (rowsOf AR)) i y := by
          show lowR (rowsOf AR) (itr (lowR (rowsOf AR)) i y) = _
          rw [e, hls]
        refine ⟨_, rfl, ?_⟩
        refine iteNo (fun z => z (congrArg V.str e)) ?_
        exact ⟨_, by rw [ei]; rfl, s2, hd2, by rw [ec]; exact hc2, by rw [ec]; omega⟩
      · have en : itr (lowR (rowsOf AR)) i y ≠ "sea" := hG.nm.sea _ e
        have ec : crs (lowR (rowsOf AR)) (i + 1) y = crs (lowR (rowsOf AR)) i y ++ [itr (lowR (rowsOf AR)) i y] := by rw [hcz, if_neg en]
        refine ⟨_, rfl, ?_⟩
        refine iteYes (fun z => en (V.str.inj z)) ?_
        have hi40 : i ≤ 40 := by rw [List.length_map] at hi; omega
        have dc : d ≠ c := ne_of hd2 hc2 (fun z => by cases z)
        refine ⟨_, rfl, .inl ⟨rfl, _, .inl (.inl hc2)⟩, _, rfl, c, _, _, rfl, rfl, hc2, by rw [List.length_map]; exact small1000 (by omega), ?_⟩
        refine ⟨_, rfl, _, rfl, d, _, rfl, dget_rn (.inl ((upd_ne dc).trans hd2)) e, ?_⟩
        refine ⟨_, rfl, fun b o hb => ?_, (upd_ne dc).trans hd2, ?_, ?_⟩
        · rw [upd_ne (ne_of_none hb nc0)]
          exact s2 b o hb
        · rw [upd_same, ec, List.map_append]
          rfl
        · rw [ec, List.length_append]
          show _ + 1 ≤ i + 1
          omega
    · rintro σ H2 ⟨v, rfl, s2, hd2, hc2, hl2⟩
      have en : (AR.map fun q => V.ref q.1).length = (rowsOf AR).length := by rw [List.length_map, hAl]
      rw [en] at hc2
      exact ⟨_, rfl, k H2 c s2 nc0 hc2⟩
end
end K0
end

/-! ## K1E -/
section
set_option Elab.async false
set_option linter.all false
set_option maxRecDepth 100000
namespace K0
open PySem PySem.Spec PyProof.Rows L2
abbrev scOdd_N : List Str := ["_law_bag_here", "_law_rows", "_law_weir"]
theorem scOdd : FnScope scOdd_N ["_law_bag_here", "_law_rows"] (defScope sOdd) := ⟨rfl, rfl, rfl, by decide +kernel, rfl, by decide +kernel, by decide +kernel⟩
def spOdd (K : PySem.W.Frag) : Sp := fun vs H Q _ => ∃ (p l : Addr) (AR : List (Addr × Row)), vs = [.ref p, .ref l] ∧ BagAt H p ∧ RowsAt H l AR ∧ GoodRows (rowsOf AR) ∧ l ≠ p ∧
  ∀ (H' : Hp) (x : V), Upto p H H' → BagAt H' p → Shown K H' x → hasV AR x = false → x ≠ .ref p → Q x H'
theorem plain_app {x y : Str} (hx : Plain x) (hy : Plain y) : Plain (x ++ y) := fun c hc => by
  rw [app_list] at hc
  exact (List.mem_append.mp hc).elim (hx c) (hy c)
theorem plain_q : Plain ("q" : Str) := fun c hc => by
  have : c = 113 := by simpa using (show c ∈ [113] from hc)
  omega
theorem plain_sp : Plain (" " : Str) := fun c hc => by
  have : c = 32 := by simpa using (show c ∈ [32] from hc)
  omega
theorem plain_e : Plain ("" : Str) := fun c hc => nomatch (show c ∈ ([] : List Nat) from hc)
theorem not_sp {x : Str} {AR : List (Addr × Row)} (g : GoodRows (rowsOf AR)) : hasV AR (.str (x ++ (" " : Str))) = false := by
  refine decide_eq_false fun h => ?_
  have hl := (g.nm.ok _ h).low 32 (by
    rw [app_list]
    exact List.mem_append_right _ (show 32 ∈ [32] from List.mem_singleton.mpr rfl))
  have := hl.1
  omega
theorem not_e {AR : List (Addr × Row)} (g : GoodRows (rowsOf AR)) : hasV AR (.str "") = false := by
  refine decide_eq_false fun h => ?_
  have := (g.nm.ok _ h).one
  exact absurd this (by decide +kernel)
section
variable {P : Program} {w : World} {K : PySem.W.Frag} {mg : Str → Option Value} {base : Heap} {tS tM tL : Tok}
theorem ok_odd {f fT fO : Addr} {fd fdT fdO : FuncData} (F : FnP K "_law_odd" sOdd f fd) (F_law_take : FnP K "_law_take" sTake fT fdT) (F_law_of : FnP K "_law_of" sOf fO fdO) (B : Bl mg) (g_law_take : mg "_law_take" = some (.ref fT)) (g_law_of : mg "_law_of" = some (.ref fO)) :
    FnOk P w K mg base CX0 3 f fd ["_law_bag_here", "_law_rows"] (spOdd K) := by
  have G_law_of : FnOk P w K mg base CX0 2 fO fdO ["_law_bag_here", "_law_some"] (spOf K) := ok_of F_law_of F_law_take B g_law_take
  have b_law_of : Binds K fdO ["_law_bag_here", "_law_some"] [] := F_law_of.bindsN fun _ _ _ _ _ _ us hl => match us, hl with | [_, _], _ => rfl
  refine F.ok scOdd (fun vs H Q E h => ?_) (fun cdv A outer s H vs Q E hr h => ?_)
  · obtain ⟨p, l, AR, rfl, _⟩ := h
    rfl
  · obtain ⟨p, l, AR, rfl, hB, hR, hG, hne, k⟩ := h
    have hr_law_of : Room 2 _ := hr
    refine ⟨_, PSs.nox (pss_cons
      (ps_set (i := 2) scOdd.nd rfl (Or.inl rfl) (pe_ix (ixTK (K := K)) (pe_call G_law_of hr_law_of (by rfl) g_law_of F_law_of.kp b_law_of .nil pass0 (pa_cons (pv 0) (pa_cons (pv 1) pa_nil))) pe_int (fun _ _ => rfl)))
      (pss_one
      (ps_ret (pe_call G_law_of hr_law_of (by rfl) g_law_of F_law_of.kp b_law_of .nil pass0 (pa_cons (pv 0) (pa_cons (pe_lst (pa_cons (pe_op op_add_str (pv 2) pe_str) (pa_cons (pe_op op_add_str (pv 2) pe_str) (pa_cons pe_str (pa_cons pe_str (pa_cons pe_non (pa_cons pe_int (pa_cons pe_bl (pa_cons (pe_lst (pa_cons (pv 2) pa_nil)) (pa_cons (pe_tup (pa_cons (pv 2) pa_nil)) (pa_cons (pe_lst pa_nil) (pa_cons (pe_op op_add_str (pv 2) (pv 2)) pa_nil)))))))))))) pa_nil)))))), ?_⟩
    have hRm := hG.most
    have hR1 := hG.one
    have hAl : (rowsOf AR).length = AR.length := List.length_map _
    refine ⟨_, rfl, _, rfl, p, l, AR.map (fun q => V.ref q.1), rfl, hB, hne, .inl (.inl hR.lst), by rw [List.length_map]; omega, by rw [List.length_map]; omega, fun i v xs hv hx => ?_⟩
    have hi : i < AR.length := by
      have := (List.getElem?_eq_some_iff.mp hv).1
      rw [List.length_map] at this
      exact this
    have ev := row_at hv hi
    subst ev
    have hta := hR.tup _ (List.getElem_mem hi)
    have B1 : BagAt (upd H p (.lst xs)) p := ⟨xs, upd_same, hx⟩
    have u1 : Upto p H (upd H p (.lst xs)) := Upto.at_
    have ht1 := u1 _ _ hta (bag_ne hB hta)
    generalize upd H p (.lst xs) = H1 at B1 u1 ht1
    have hk := hG.row (List.mem_map.mpr ⟨_, List.getElem_mem hi, rfl⟩)
    have hmem : AR[i].2.1 ∈ namesOf AR := List.mem_map.mpr ⟨_, List.mem_map.mpr ⟨_, List.getElem_mem hi, rfl⟩, rfl⟩
    refine ⟨AR[i].1, _, 0, _, rfl, rfl, .inl (.inl ht1), atI_nat (j := 0) rfl, ?_⟩
    have ha := hk.a
    generalize hx0 : AR[i].2.1 = x0 at ha hmem
    have px := name_plain ha
    have lx : x0.length ≤ 8 := by rw [len_list]; exact ha.most
    have z40 : 40000 ≤ sizeLine := by rw [sizeLine_eq]; omega
    have zq : (x0 ++ ("q" : Str)).length ≤ 9 := by rw [strLen_append]; show x0.length + 1 ≤ 9; omega
    have zs : (x0 ++ (" " : Str)).length ≤ 9 := by rw [strLen_append]; show x0.length + 1 ≤ 9; omega
    have zd : (x0 ++ x0).length ≤ 16 := by rw [strLen_append]; omega
    refine ⟨_, rfl, _, rfl, x0, "q", rfl, rfl, by show _ + 1 ≤ _; omega, _, rfl, x0, " ", rfl, rfl, by show _ + 1 ≤ _; omega, _, rfl, by show 1 ≤ _; omega, fun c1 n1 => ⟨_, rfl, by show 1 ≤ _; omega, fun t1 n2 => ⟨Nat.zero_le _, fun c2 n3 => ⟨_, rfl, _, rfl, x0, x0, rfl, rfl, by omega, by show 11 ≤ _; omega, fun L n4 => ?_⟩⟩⟩⟩
    have s1 : Same H1 (upd H1 c1 (.lst [.str x0])) := same_upd n1
    have w1 : (upd H1 c1 (.lst [.str x0])) c1 = some (.lst [.str x0]) := upd_same
    generalize upd H1 c1 (.lst [.str x0]) = H2 at s1 w1 n2 n3 n4
    have s2 : Same H2 (upd H2 t1 (.tup [.str x0])) := same_upd n2
    have w2 : (upd H2 t1 (.tup [.str x0])) t1 = some (.tup [.str x0]) := upd_same
    generalize upd H2 t1 (.tup [.str x0]) = H3 at s2 w2 n3 n4
    have s3 : Same H3 (upd H3 c2 (.lst [])) := same_upd n3
    have w3 : (upd H3 c2 (.lst [])) c2 = some (.lst []) := upd_same
    generalize upd H3 c2 (.lst []) = H4 at s3 w3 n4
    have s4 := same_upd n4 (o := .lst [.str (x0 ++ ("q" : Str)), .str (x0 ++ (" " : Str)), .str "sea", .str "", .non, .int 0, .bl true, .ref c1, .ref t1, .ref c2, .str (x0 ++ x0)])
    have w4 : (upd H4 L (.lst [.str (x0 ++ ("q" : Str)), .str (x0 ++ (" " : Str)), .str "sea", .str "", .non, .int 0, .bl true, .ref c1, .ref t1, .ref c2, .str (x0 ++ x0)])) L = _ := upd_same
    obtain ⟨b1, hb1, hbv⟩ := B1
    have hb4 := s4 _ _ (s3 _ _ (s2 _ _ (s1 _ _ hb1)))
    have pL : p ≠ L := ne_of_none (s3 _ _ (s2 _ _ (s1 _ _ hb1))) n4
    have pc1 : p ≠ c1 := ne_of_none hb1 n1
    have pt1 : p ≠ t1 := ne_of_none (s1 _ _ hb1) n2
    have pc2 : p ≠ c2 := ne_of_none (s2 _ _ (s1 _ _ hb1)) n3
    refine ⟨p, L, _, rfl, ⟨b1, hb4, hbv⟩, pL.symm, .inl (.inl w4), by show 0 < 11; decide, by show 11 ≤ 1000; decide, fun j v ys hv hy => ?_⟩
    have u5 : Upto p H (upd (upd H4 L (.lst [.str (x0 ++ ("q" : Str)), .str (x0 ++ (" " : Str)), .str "sea", .str "", .non, .int 0, .bl true, .ref c1, .ref t1, .ref c2, .str (x0 ++ x0)])) p (.lst ys)) := (((((u1.trans (Upto.of s1)).trans (Upto.of s2)).trans (Upto.of s3)).trans (Upto.of s4)).trans Upto.at_)
    have B5 : BagAt (upd (upd H4 L (.lst [.str (x0 ++ ("q" : Str)), .str (x0 ++ (" " : Str)), .str "sea", .str "", .non, .int 0, .bl true, .ref c1, .ref t1, .ref c2, .str (x0 ++ x0)])) p (.lst ys)) p := ⟨ys, upd_same, hy⟩
    have hc1 := (upd_ne (H := upd H4 L (.lst [.str (x0 ++ ("q" : Str)), .str (x0 ++ (" " : Str)), .str "sea", .str "", .non, .int 0, .bl true, .ref c1, .ref t1, .ref c2, .str (x0 ++ x0)])) (o := .lst ys) pc1.symm).trans (s4 _ _ (s3 _ _ (s2 _ _ w1)))
    have ht1' := (upd_ne (H := upd H4 L (.lst [.str (x0 ++ ("q" : Str)), .str (x0 ++ (" " : Str)), .str "sea", .str "", .non, .int 0, .bl true, .ref c1, .ref t1, .ref c2, .str (x0 ++ x0)])) (o := .lst ys) pt1.symm).trans (s4 _ _ (s3 _ _ w2))
    have hc2 := (upd_ne (H := upd H4 L (.lst [.str (x0 ++ ("q" : Str)), .str (x0 ++ (" " : Str)), .str "sea", .str "", .non, .int 0, .bl true, .ref c1, .ref t1, .ref c2, .str (x0 ++ x0)])) (o := .lst ys) pc2.symm).trans (s4 _ _ w3)
    have f1 : ∀ y ∈ [x0], Plain y := fun y hy => by rw [List.mem_singleton.mp hy]; exact px
    have f2 : fmtCost [x0] ≤ 20000 := by
      rw [fmtCost_cons]
      show 10 * x0.length + 4 + 0 ≤ 20000
      omega
    have hm : v ∈ ([.str (x0 ++ ("q" : Str)), .str (x0 ++ (" " : Str)), .str "sea", .str "", .non, .int 0, .bl true, .ref c1, .ref t1, .ref c2, .str (x0 ++ x0)] : List V) := List.mem_of_getElem? hv
    simp only [List.mem_cons, List.not_mem_nil, or_false] at hm
    rcases hm with rfl | rfl | rfl | rfl | rfl | rfl | rfl | rfl | rfl | rfl | rfl
    · exact k _ _ u5 B5 (.str _ (plain_app px plain_q) (by omega)) (decide_eq_false (hG.nm.qq _ hmem)) (fun z => by cases z)
    · exact k _ _ u5 B5 (.str _ (plain_app px plain_sp) (by omega)) (not_sp hG) (fun z => by cases z)
    · exact k _ _ u5 B5 (.str _ sea_plain (by decide +kernel)) (decide_eq_false fun h => hG.nm.sea _ h rfl) (fun z => by cases z)
    · exact k _ _ u5 B5 (.str _ plain_e (by decide +kernel)) (not_e hG) (fun z => by cases z)
    · exact k _ _ u5 B5 .non rfl (fun z => by cases z)
    · exact k _ _ u5 B5 (.int 0 (by decide) (by decide +kernel)) rfl (fun z => by cases z)
    · exact k _ _ u5 B5 (.bl true) rfl (fun z => by cases z)
    · exact k _ _ u5 B5 (.lst (l := [x0]) hc1 f1 f2) rfl (fun z => pc1 (V.ref.inj z).symm)
    · exact k _ _ u5 B5 (.tup (l := [x0]) ht1' f1 f2) rfl (fun z => pt1 (V.ref.inj z).symm)
    · exact k _ _ u5 B5 (.lst (l := []) hc2 (fun y hy => nomatch hy) (by decide +kernel)) rfl (fun z => pc2 (V.ref.inj z).symm)
    · exact k _ _ u5 B5 (.str _ (plain_app px px) (by omega)) (decide_eq_false (hG.nm.dd _ hmem)) (fun z => by cases z)
end
end K0
end

/-! ## K1F -/
section
set_option Elab.async false
set_option linter.all false
set_option maxRecDepth 100000
namespace K0
open PySem PySem.Spec PyProof.Rows L2
abbrev scTold_N : List Str := ["_law_river_here", "_law_rows", "_law_weirs", "_law_told", "_law_weir", "_law_below", "_law_one"]
abbrev scTold_S : Stmt := sTold
theorem scTold : FnScope scTold_N ["_law_river_here", "_law_rows"] (defScope sTold) := ⟨rfl, rfl, rfl, by decide +kernel, rfl, by decide +kernel, by decide +kernel⟩
def spTold (Cr : Addr) : Sp := fun vs H Q _ => ∃ (p l : Addr) (AR : List (Addr × Row)), vs = [.ref p, .ref l] ∧ RivAt Cr H p AR ∧ RowsAt H l AR ∧ GoodRows (rowsOf AR) ∧ ∀ H', Same H H' → Q (.bl true) H'
/-- River's methods, as attributes -/
structure Ms (K : PySem.W.Frag) (Cr : Addr) : Prop where
  rows : ∃ f fd, FnM K "rows" "River.rows" sRows f fd ∧ Meth K Cr "rows" f
  below : ∃ f fd, FnM K "below" "River.below" sBelow f fd ∧ Meth K Cr "below" f
  above : ∃ f fd, FnM K "above" "River.above" sAboveM f fd ∧ Meth K Cr "above" f
  course : ∃ f fd, FnM K "course" "River.course" sCourseM f fd ∧ Meth K Cr "course" f
  depth : ∃ f fd, FnM K "depth" "River.depth" sDepth f fd ∧ Meth K Cr "depth" f
  upstream : ∃ f fd, FnM K "upstream" "River.upstream" sUpM f fd ∧ Meth K Cr "upstream" f
theorem eqv_strs : ∀ l : List Str, PyData.eqvAll (l.map PyData.str) (l.map PyData.str) = true
  | [] => by simp only [List.map_nil, PyData.eqvAll]
  | y :: l => by simp only [List.map_cons, PyData.eqvAll, PyData.eqv, eqv_strs l, beq_self_eq_true, Bool.and_self]
theorem g7m {a b c d e g h : V} {m : Str} (h1 : (["weirs", "_rows", "_below", "_courses", "_above", "_upstream", "_deepest_first"] : List Str).contains m = false) : (f7 a b c d e g h).lookup m = none := by
  simp only [List.contains_cons, List.contains_nil, Bool.or_false, Bool.or_eq_false_iff, beq_eq_false_iff_ne] at h1
  exact g7no _ _ _ _ _ _ _ h1.1 h1.2.1 h1.2.2.1 h1.2.2.2.1 h1.2.2.2.2.1 h1.2.2.2.2.2.1 h1.2.2.2.2.2.2
section
variable {P : Program} {w : World} {K : PySem.W.Frag} {mg : Str → Option Value} {base : Heap} {tS tM tL : Tok}
theorem ok_told {f Cr : Addr} {fd : FuncData} (F : FnP K "_law_told_right" sTold f fd) (M : Sm K Cr) (S : Ms K Cr) (T : Rv K mg Cr) (B : Bl mg) : FnOk P w K mg base CX0 3 f fd ["_law_river_here", "_law_rows"] (spTold Cr) := by
  obtain ⟨fL, fdL, FL, sL, iL⟩ := M.len
  obtain ⟨fI, fdI, FI, sI, iI⟩ := M.iter
  obtain ⟨fR, fdR, FR, Mrows⟩ := S.rows
  have Gl : FnOk P w K mg base CX0 1 fL fdL ["self"] (spLenG (fun H p n => ∃ AR, RivAt Cr H p AR ∧ n = AR.length)) := ok_len FL T B
  have bl : Binds K fdL ["self"] [] := FL.bindsN fun _ _ _ _ _ _ us hl => match us, hl with | [_], _ => rfl
  have Gi : FnOkN P w K mg base CX0 1 fI fdI ["self"] (spIterT K (WeirsAt Cr)) := ok_iter FI T B
  have bi : Binds K fdI ["self"] [] := FI.bindsN fun _ _ _ _ _ _ us hl => match us, hl with | [_], _ => rfl
  have Grows : FnOk P w K mg base CX0 1 fR fdR ["self"] (spRows Cr) := ok_rows FR T B
  have brows : Binds K fdR ["self"] [] := FR.bindsN fun _ _ _ _ _ _ us hl => match us, hl with | [_], _ => rfl
  refine F.ok scTold (fun vs H Q E h => ?_) (fun cdv A outer s H vs Q E hr h => ?_)
  · obtain ⟨p, l, AR, rfl, _⟩ := h
    rfl
  · obtain ⟨p, l, AR, rfl, R, hR, hG, k⟩ := h
    have hu := hu_of hr
    have hu64 := hr.units
    have hr2 : Room 2 _ := hr
    have hr1 : Room 1 _ := hr.mono (by decide)
    have hrrows : Room 1 _ := hr1
    refine ⟨_, PSs.nox (pss_cons
      (ps_setLc (i := 2) (own := [("_law_weir", 4), ("_law_below", 5)])  (tt := tYes) (by rfl) scTold.nd rfl rfl (sw_true rfl rfl rfl (by decide +kernel)) (pi_list (pv 1)) (blkOk_by (own := [("_law_weir", 4), ("_law_below", 5)]) (N := scTold_N) (sc := defScope scTold_S) (by decide +kernel)) (fun _ _ _ _ _ => (tgK (K := K) (n := 2) (by rfl) (pgs_cons (pg_name (i := 4) scTold.nd rfl (Or.inl rfl)) (pgs_cons (pg_name (i := 5) scTold.nd rfl (Or.inl rfl)) pgs_nil)))) (fun _ _ _ _ _ => pts_nil) (fun _ _ _ _ _ => (pv 4)))
      (pss_cons
      (ps_if (PW.pt (pw_or (pt_cmpR (op_neD hu64) (fldK (K := K) (pv 0) rfl) (pe_callTy (tupleK (K := K)) (by rfl) B.tuple (by decide +kernel) (pa_cons (pv 2) pa_nil)) (nomark _)) (pw_or (pt_cmpR op_ne (pe_callB (k0_len_own Gl hr2 sL iL bl) (by rfl) B.len PySem.boot_len (pa_cons (pv 0) pa_nil)) (pe_callB (lenK (K := K)) (by rfl) B.len PySem.boot_len (pa_cons (pv 1) pa_nil)) (nomark _)) (pw_or1 (pt_cmpR (op_neD hu64) (pe_lc (own := [("_law_one", 6)]) (g := gName 6) (tt := tYes) (by rfl) scTold.nd (pi_own Gi hr1 sI iI bi (pv 0)) (blkOk_by (own := [("_law_one", 6)]) (N := scTold_N) (sc := defScope scTold_S) (by decide +kernel)) (fun _ _ _ _ _ => (pg_name (i := 6) scTold.nd rfl (Or.inl rfl))) (fun _ _ _ _ _ => pts_nil) (fun _ _ _ _ _ => (pv 6))) (pv 2) (nomark _)))))) (pss_one
      (ps_ret pe_bl)) pss_nil)
      (pss_cons
      (ps_set (i := 3) scTold.nd rfl (Or.inl rfl) (pe_meth0 (pv 0) T.cl Mrows Grows hrrows brows .nil pass0))
      (pss_cons
      (ps_if (PW.pt (pw_or (pt_not (pt_val (pe_callB call_isi (by rfl) B.isinstance (by decide +kernel) (pa_cons (pv 3) (pa_cons (pe_bltn (v := .ty "list") (by rfl) B.list (by decide +kernel) rfl) pa_nil))))) (pw_or1 (pt_cmpR (op_neD hu64) (pv 3) (pv 1) (nomark _))))) (pss_one
      (ps_ret pe_bl)) pss_nil)
      (pss_cons
      (ps_expr (pe_bm0 PySem.F.plainAttrs_list PySem.F.slot_list_clear PySem.F.type_list_clear mt_clear (pv 3)))
      (pss_one
      (ps_ret (pe_and (pe_cmpR (op_eqD hu64) (pe_meth0 (pv 0) T.cl Mrows Grows hrrows brows .nil pass0) (pv 1) (nomark _)) (pe_one (pe_cmpR (op_eqD hu64) (fldK (K := K) (pv 0) rfl) (pe_callTy (tupleK (K := K)) (by rfl) B.tuple (by decide +kernel) (pa_cons (pv 2) pa_nil)) (nomark _))))))))))), ?_⟩
    have hRm := hG.most
    have hAl : (rowsOf AR).length = AR.length := List.length_map _
    have hnl : (namesOf AR).length = AR.length := nmlen AR
    obtain ⟨dx, tw, tr, db, dc, da, du, o, h1, h2, h3, h4, h5, h6, h7, h8⟩ := R.ex
    have rowat : ∀ {i : Nat} (hi : i < AR.length), (namesOf AR)[i]? = some AR[i].2.1 := fun {i} hi => by
      show (((AR.map (·.2)).map (·.1)))[i]? = _
      rw [List.getElem?_map, List.getElem?_map, List.getElem?_eq_getElem hi]
      rfl
    have pl : ∀ y ∈ namesOf AR, Plain y := fun y hy => name_plain (hG.nm.ok y hy)
    have tw1 : ∀ {H' : Hp}, Same H H' → Dp K H' (.ref tw) (.tuple ((namesOf AR).map PyData.str)) := fun s => .tup (.inl (.inl (s _ _ h2))) (dp_strs _)
    have eqt : PyData.eqv (.tuple ((namesOf AR).map PyData.str)) (.tuple ((namesOf AR).map PyData.str)) = true := by
      simp only [PyData.eqv]
      exact eqv_strs _
    refine ⟨_, rfl, l, rfl, ⟨_, .inl (.inl hR.lst)⟩, fun D hD => ?_⟩
    refine lc_list (K := K) (a := l) (xs := AR.map fun q => V.ref q.1) (fun i H2 => Same H H2 ∧ H2 D = some (.lst (((namesOf AR).take i).map V.str))) ⟨same_upd hD, by rw [upd_same, List.take_zero]; rfl⟩ (fun i H2 hi h => .inl (.inl (h.1 _ _ hR.lst))) ?_ ?_
    · rintro i x H2 hx ⟨s2, hl⟩
      have hi : i < AR.length := by
        have := (List.getElem?_eq_some_iff.mp hx).1
        rw [List.length_map] at this
        exact this
      have ex := row_at hx hi
      subst ex
      refine ⟨AR[i].1, _, rfl, .inl (.inl (s2 _ _ (hR.tup _ (List.getElem_mem hi)))), rfl, _, _, rfl, _, _, rfl, rfl, rfl, ?_⟩
      unfold tYes
      refine iteT ?_
      refine ⟨_, rfl, _, hl, ?_, fun b o hb => ?_, ?_⟩
      · rw [List.length_map, List.length_take]
        exact small1000 (by omega)
      · rw [upd_ne (ne_of_none hb hD)]
        exact s2 b o hb
      · rw [upd_same, List.take_add_one, rowat hi, List.map_append]
        rfl
    rintro H2 ⟨s2, hl⟩
    rw [List.take_of_length_le (by rw [hnl, List.length_map]; exact Nat.le_refl _)] at hl
    refine ⟨_, rfl, p, Cr, dx, _, _, rfl, s2 _ _ h1, T.cl, T.weirs, g7w _ _ _ _ _ _ _, _, rfl, D, _, rfl, .inl ⟨.inl (.inl hl), fun tz nz => ?_⟩⟩
    have s3 : Same H (upd H2 tz (.tup ((namesOf AR).map V.str))) := s2.trans (same_upd nz)
    have w3 : (upd H2 tz (.tup ((namesOf AR).map V.str))) tz = _ := upd_same
    have D3 : (upd H2 tz (.tup ((namesOf AR).map V.str))) D = some (.lst ((namesOf AR).map V.str)) := same_upd nz _ _ hl
    generalize upd H2 tz (.tup ((namesOf AR).map V.str)) = H3 at s3 w3 D3
    refine ⟨_, _, tw1 s3, .tup (.inl (.inl w3)) (dp_strs _), shaped_tup pl, shaped_tup pl, _, rfl, ?_⟩
    rw [eqt]
    refine iteF ?_
    -- len
    refine ⟨_, rfl, p, dx, _, AR.length, rfl, s3 _ _ h1, ⟨AR, Same.riv s3 R, rfl⟩, by omega, _, rfl, l, _, rfl, .inl (.inl (.inl (s3 _ _ hR.lst))), rfl, _, rfl, ?_⟩
    rw [List.length_map]
    refine iteNo (fun z => z rfl) ?_
    -- iteration
    refine ⟨_, rfl, p, dx, tw, _, _, rfl, s3 _ _ h1, ⟨dx, _, _, _, _, _, _, s3 _ _ h1⟩, .inl (.inl (s3 _ _ h2)), fun D2 hD2 => ?_⟩
    refine lc_it (walk_tup (K := K) (a := tw) (xs := (namesOf AR).map V.str)) (fun i H4 => Same H3 H4 ∧ H4 D2 = some (.lst (((namesOf AR).take i).map V.str))) ⟨same_upd hD2, by rw [upd_same, List.take_zero]; rfl⟩ (fun i H4 hi h => .inl (.inl (h.1 _ _ (s3 _ _ h2)))) ?_ ?_
    · rintro i x H4 H5 hi ⟨s4, hl4⟩ ⟨e, hx⟩
      subst e
      rw [List.length_map] at hi
      obtain ⟨y, hy, rfl⟩ : ∃ y, (namesOf AR)[i]? = some y ∧ x = .str y := by
        rw [List.getElem?_map, List.getElem?_eq_getElem hi] at hx
        exact ⟨_, List.getElem?_eq_getElem hi, (Option.some.inj hx).symm⟩
      refine ⟨rfl, ?_⟩
      unfold tYes
      refine iteT ?_
      refine ⟨_, rfl, _, hl4, ?_, fun b o hb => ?_, ?_⟩
      · rw [List.length_map, List.length_take]
        exact small1000 (by omega)
      · rw [upd_ne (ne_of_none hb hD2)]
        exact s4 b o hb
      · rw [upd_same, List.take_add_one, hy, List.map_append]
        rfl
    rintro H4 ⟨s4, hl4⟩
    rw [List.length_map, List.take_length] at hl4
    have s5 := s3.trans s4
    refine ⟨_, rfl, ?_⟩
    refine ⟨_, _, .lst (.of hl4) (dp_strs _), .lst (.of (s4 _ _ D3)) (dp_strs _), shaped_lst pl, shaped_lst pl, _, rfl, ?_⟩
    have eql : PyData.eqv (.list ((namesOf AR).map PyData.str)) (.list ((namesOf AR).map PyData.str)) = true := by
      simp only [PyData.eqv]
      exact eqv_strs _
    rw [eql]
    refine iteF ?_
    -- rows()
    refine ⟨_, rfl, p, dx, _, rfl, s5 _ _ h1, g7m (by decide +kernel), p, AR, rfl, Same.riv s5 R, fun r nr => ?_⟩
    have s6 : Same H4 (upd H4 r (.lst (AR.map fun q => V.ref q.1))) := same_upd nr
    have w6 : (upd H4 r (.lst (AR.map fun q => V.ref q.1))) r = _ := upd_same
    have nrH : H r = none := by
      cases e : H r with
      | none => rfl
      | some o => rw [s5 _ _ e] at nr; cases nr
    generalize upd H4 r (.lst (AR.map fun q => V.ref q.1)) = H6 at s6 w6
    have s7 := s5.trans s6
    refine ⟨_, rfl, .ref r, .ty "list", _, _, true, rfl, .ty "list", .base (.lst w6), kit_ty (by decide +kernel), _, rfl, ?_⟩
    refine iteF ?_
    have tupk : ∀ {H' : Hp}, (∀ b o, H b = some o → H' b = some o) → ∀ q ∈ AR, H' q.1 = some (.tup [.str q.2.1, .str q.2.2]) := fun sx q hq => sx _ _ (hR.tup q hq)
    have eqr : PyData.eqv (.list ((rowsOf AR).map rowD)) (.list ((rowsOf AR).map rowD)) = true := by
      simp only [PyData.eqv]
      rw [eqv_rows]
      exact decide_eq_true rfl
    have shr := (shaped_rows (good_plain hG)).2
    refine ⟨_, rfl, _, rfl, _, _, .lst (.of w6) (dp_rows (tupk s7)), .lst (.of (s7 _ _ hR.lst)) (dp_rows (tupk s7)), shr, shr, _, rfl, ?_⟩
    rw [eqr]
    refine iteF ?_
    refine ⟨_, rfl, .inl ⟨rfl, _, .inl (.inl w6)⟩, r, _, rfl, rfl, w6, ?_⟩
    have s8 : Same H (upd H6 r (.lst [])) := fun b o hb => by
      rw [upd_ne (ne_of_none hb nrH)]
      exact s7 b o hb
    have D7 : (upd H6 r (.lst [])) D = some (.lst ((namesOf AR).map V.str)) := by
      have dD := s6 _ _ (s4 _ _ D3)
      have nD : D ≠ r := ne_of_none (s4 _ _ D3) nr
      rw [upd_ne nD]
      exact dD
    generalize upd H6 r (.lst []) = H7 at s8 D7
    refine ⟨_, rfl, p, dx, _, rfl, s8 _ _ h1, g7m (by decide +kernel), p, AR, rfl, Same.riv s8 R, fun r2 nr2 => ?_⟩
    have s9 : Same H (upd H7 r2 (.lst (AR.map fun q => V.ref q.1))) := s8.trans (same_upd nr2)
    have w9 : (upd H7 r2 (.lst (AR.map fun q => V.ref q.1))) r2 = _ := upd_same
    have D9 := same_upd nr2 (o := .lst (AR.map fun q => V.ref q.1)) _ _ D7
    generalize upd H7 r2 (.lst (AR.map fun q => V.ref q.1)) = H9 at s9 w9 D9
    refine ⟨_, rfl, _, _, .lst (.of w9) (dp_rows (tupk s9)), .lst (.of (s9 _ _ hR.lst)) (dp_rows (tupk s9)), shr, shr, _, rfl, ?_⟩
    rw [eqr]
    refine iteT ?_
    refine ⟨_, rfl, p, Cr, dx, _, _, rfl, s9 _ _ h1, T.cl, T.weirs, g7w _ _ _ _ _ _ _, _, rfl, D, _, rfl, .inl ⟨.inl (.inl D9), fun tz nz => ?_⟩⟩
    have sA : Same H (upd H9 tz (.tup ((namesOf AR).map V.str))) := s9.trans (same_upd nz)
    have wA : (upd H9 tz (.tup ((namesOf AR).map V.str))) tz = _ := upd_same
    generalize upd H9 tz (.tup ((namesOf AR).map V.str)) = HA at sA wA
    refine ⟨_, _, tw1 sA, .tup (.inl (.inl wA)) (dp_strs _), shaped_tup pl, shaped_tup pl, ?_⟩
    rw [eqt]
    exact k HA sA
end
end K0
end

/-! ## K1G -/
section
set_option Elab.async false
set_option linter.all false
set_option maxRecDepth 100000
set_option maxHeartbeats 4000000
namespace L2
open PySem PySem.Spec PyProof.Rows
/-- a callee that may let errors out lets none out here -/
theorem passF {P : Program} {w : World} {X : Cx} : Passes (CX P w) X E0 := fun _ _ _ _ _ _ _ h => by
  obtain ⟨_, _, _, _, _, _, _, _, _, _, _, _, h⟩ := h
  exact h.elim
end L2
namespace K0
open PySem PySem.Spec PyProof.Rows L2
abbrev scWeir_N : List Str := ["_law_river_here", "_law_rows", "_law_courses", "_law_weir", "_law_course_here", "_law_depth", "_law_one", "_law_below"]
abbrev scWeir_S : Stmt := sWeir
theorem scWeir : FnScope scWeir_N ["_law_river_here", "_law_rows", "_law_courses", "_law_weir"] (defScope sWeir) := ⟨rfl, rfl, rfl, by decide +kernel, rfl, by decide +kernel, by decide +kernel⟩
/-- a dict of lists of texts -/
structure LstsAt (H : Hp) (c : Addr) (ns : List Str) (g : Str → List Str) : Prop where
  ex : ∃ ta : Str → Addr, H c = some (.dK (kmap (fun x => .ref (ta x)) ns)) ∧ ∀ x ∈ ns, H (ta x) = some (.lst ((g x).map V.str))
theorem LstsAt.same {H H' : Hp} {c : Addr} {ns : List Str} {g : Str → List Str} (t : LstsAt H c ns g) (s : Same H H') : LstsAt H' c ns g := by
  obtain ⟨ta, h1, h2⟩ := t.ex
  exact ⟨ta, s _ _ h1, fun x hx => s _ _ (h2 x hx)⟩
theorem course_sub {R : List Row} (g : GoodRows R) {y : Str} (hy : y ∈ nmsOf R) : ∀ z ∈ course R y, z ∈ nmsOf R := fun z hz => by
  obtain ⟨m, c⟩ := course_is g hy
  rw [c.eq] at hz
  obtain ⟨i, hi, e⟩ := List.mem_map.mp hz
  rw [← e]
  exact c.mem i (List.mem_range.mp hi)
theorem eqv_tups (l : List Str) : PyData.eqv (.tuple (l.map PyData.str)) (.tuple (l.map PyData.str)) = true := by
  simp only [PyData.eqv]
  exact eqv_strs _
theorem eqv_lsts (l : List Str) : PyData.eqv (.list (l.map PyData.str)) (.list (l.map PyData.str)) = true := by
  simp only [PyData.eqv]
  exact eqv_strs _
def spWeir (Cr : Addr) : Sp := fun vs H Q _ => ∃ (p l c : Addr) (AR : List (Addr × Row)) (y : Str), vs = [.ref p, .ref l, .ref c, .str y] ∧ RivAt Cr H p AR ∧ RowsAt H l AR ∧ GoodRows (rowsOf AR) ∧ LstsAt H c (namesOf AR) (course (rowsOf AR)) ∧ y ∈ namesOf AR ∧ ∀ H', Same H H' → Q (.bl true) H'
section
variable {P : Program} {w : World} {K : PySem.W.Frag} {mg : Str → Option Value} {base : Heap} {tS tM tL : Tok}
theorem ok_weir {f Cr Cn : Addr} {fd : FuncData} (F : FnP K "_law_weir_right" sWeir f fd) (D : Nd P w K mg base Cr Cn) (M : Sm K Cr) (S : Ms K Cr) (T : Rv K mg Cr) (B : Bl mg) (C : Gc mg tS tM tL) : FnOk P w K mg base CX0 6 f fd ["_law_river_here", "_law_rows", "_law_courses", "_law_weir"] (spWeir Cr) := by
  obtain ⟨fC, fdC, FC, sC, iC⟩ := M.has
  obtain ⟨f1, fd1, F1, Mbelow⟩ := S.below
  obtain ⟨f2, fd2, F2, Mabove⟩ := S.above
  obtain ⟨f3, fd3, F3, Mcourse⟩ := S.course
  obtain ⟨f4, fd4, F4, Mdepth⟩ := S.depth
  obtain ⟨f5, fd5, F5, Mupstream⟩ := S.upstream
  have GC : FnOk P w K mg base CX0 1 fC fdC ["self", "x"] (spHas (GHas K Cr)) := ok_contains FC T B
  have bC : Binds K fdC ["self", "x"] [] := FC.bindsN fun _ _ _ _ _ _ us hl => match us, hl with | [_, _], _ => rfl
  have Gbelow : FnOk P w K mg base (L2.CX P w) 4 f1 fd1 ["self", "weir"] (spAsk K Cr Cn okBelow) := ok_below F1 D T
  have bbelow : Binds K fd1 ["self", "weir"] [] := F1.bindsN fun _ _ _ _ _ _ us hl => match us, hl with | [_, _], _ => rfl
  have Gabove : FnOk P w K mg base (L2.CX P w) 4 f2 fd2 ["self", "weir"] (spAboveM K Cr Cn) := ok_aboveM F2 D T C
  have babove : Binds K fd2 ["self", "weir"] [] := F2.bindsN fun _ _ _ _ _ _ us hl => match us, hl with | [_, _], _ => rfl
  have Gcourse : FnOk P w K mg base (L2.CX P w) 4 f3 fd3 ["self", "weir"] (spAsk K Cr Cn okCourse) := ok_courseM F3 D T
  have bcourse : Binds K fd3 ["self", "weir"] [] := F3.bindsN fun _ _ _ _ _ _ us hl => match us, hl with | [_, _], _ => rfl
  have Gdepth : FnOk P w K mg base (L2.CX P w) 5 f4 fd4 ["self", "weir"] (spAsk K Cr Cn okDepth) := ok_depth F4 F3 Mcourse D T B
  have bdepth : Binds K fd4 ["self", "weir"] [] := F4.bindsN fun _ _ _ _ _ _ us hl => match us, hl with | [_, _], _ => rfl
  have Gupstream : FnOk P w K mg base (L2.CX P w) 4 f5 fd5 ["self", "weir"] (spAsk K Cr Cn okUp) := ok_upM F5 D T
  have bupstream : Binds K fd5 ["self", "weir"] [] := F5.bindsN fun _ _ _ _ _ _ us hl => match us, hl with | [_, _], _ => rfl
  refine F.ok scWeir (fun vs H Q E h => ?_) (fun cdv A outer s H vs Q E hr h => ?_)
  · obtain ⟨p, l, c, AR, y, rfl, _⟩ := h
    rfl
  · obtain ⟨p, l, c, AR, y, rfl, R, hR, hG, hL, hy, k⟩ := h
    have hu := hu_of hr
    have hu64 := hr.units
    have hr1 : Room 1 _ := hr.mono (by decide)
    have hrbelow : Room 4 _ := hr.mono (by decide)
    have hrabove : Room 4 _ := hr.mono (by decide)
    have hrcourse : Room 4 _ := hr.mono (by decide)
    have hrupstream : Room 4 _ := hr.mono (by decide)
    have hrdepth : Room 5 _ := hr
    refine ⟨_, PSs.nox (pss_cons
      (ps_set (i := 4) scWeir.nd rfl (Or.inl rfl) (pe_dget hu (pv 2) (pv 3) (fun _ _ => rfl)))
      (pss_cons
      (ps_if (PW.pt (pw_or (pt_cmpR op_ne (pe_meth (pv 0) T.cl Mbelow Gbelow hrbelow bbelow .nil passF (pa_cons (pv 3) pa_nil)) (pe_dget hu (pe_callTy (call_dictP rfl) (by rfl) B.dict (by decide +kernel) (pa_cons (pv 1) pa_nil)) (pv 3) (fun _ _ => rfl)) (nomark _)) (pw_or (pt_cmpR (op_neD hu64) (pe_meth (pv 0) T.cl Mcourse Gcourse hrcourse bcourse .nil passF (pa_cons (pv 3) pa_nil)) (pe_callTy (tupleK (K := K)) (by rfl) B.tuple (by decide +kernel) (pa_cons (pv 4) pa_nil)) (nomark _)) (pw_or1 (pt_cmpR (k0_notIn_own (K := K) GC hr1 sC iC bC) (pv 3) (pv 0) (by rfl)))))) (pss_one
      (ps_ret pe_bl)) pss_nil)
      (pss_cons
      (ps_set (i := 5) scWeir.nd rfl (Or.inl rfl) (pe_meth (pv 0) T.cl Mdepth Gdepth hrdepth bdepth .nil passF (pa_cons (pv 3) pa_nil)))
      (pss_cons
      (ps_if (PW.pt (pw_or (pt_not (pt_val (pe_callB call_isi (by rfl) B.isinstance (by decide +kernel) (pa_cons (pv 5) (pa_cons (pe_bltn (v := .ty "int") (by rfl) B.int (by decide +kernel) rfl) pa_nil))))) (pw_or (pt_val (pe_callB call_isi (by rfl) B.isinstance (by decide +kernel) (pa_cons (pv 5) (pa_cons (pe_bltn (v := .ty "bool") (by rfl) B.bool (by decide +kernel) rfl) pa_nil)))) (pw_or1 (pt_cmpR op_ne (pv 5) (pe_callB (lenK (K := K)) (by rfl) B.len PySem.boot_len (pa_cons (pv 4) pa_nil)) (nomark _)))))) (pss_one
      (ps_ret pe_bl)) pss_nil)
      (pss_cons
      (ps_if (pt_cmpR (op_neD hu64) (pe_meth (pv 0) T.cl Mabove Gabove hrabove babove .nil passF (pa_cons (pv 3) pa_nil)) (pe_callTy (tupleK (K := K)) (by rfl) B.tuple (by decide +kernel) (pa_cons (pe_lc (own := [("_law_one", 6), ("_law_below", 7)])   (by rfl) scWeir.nd (pi_list (pv 1)) (blkOk_by (own := [("_law_one", 6), ("_law_below", 7)]) (N := scWeir_N) (sc := defScope scWeir_S) (by decide +kernel)) (fun _ _ _ _ _ => (tgK (K := K) (n := 2) (by rfl) (pgs_cons (pg_name (i := 6) scWeir.nd rfl (Or.inl rfl)) (pgs_cons (pg_name (i := 7) scWeir.nd rfl (Or.inl rfl)) pgs_nil)))) (fun _ _ _ _ _ => (pts_one (pt_cmpR op_eq (pv 7) (pv 3) (nomark _)))) (fun _ _ _ _ _ => (pv 6))) pa_nil)) (nomark _)) (pss_one
      (ps_ret pe_bl)) pss_nil)
      (pss_one
      (ps_ret (pe_cmpR (op_eqD hu64) (pe_meth (pv 0) T.cl Mupstream Gupstream hrupstream bupstream .nil passF (pa_cons (pv 3) pa_nil)) (pe_callTy (tupleK (K := K)) (by rfl) B.tuple (by decide +kernel) (pa_cons (pe_lc (own := [("_law_one", 6), ("_law_below", 7)])   (by rfl) scWeir.nd (pi_list (pv 1)) (blkOk_by (own := [("_law_one", 6), ("_law_below", 7)]) (N := scWeir_N) (sc := defScope scWeir_S) (by decide +kernel)) (fun _ _ _ _ _ => (tgK (K := K) (n := 2) (by rfl) (pgs_cons (pg_name (i := 6) scWeir.nd rfl (Or.inl rfl)) (pgs_cons (pg_name (i := 7) scWeir.nd rfl (Or.inl rfl)) pgs_nil)))) (fun _ _ _ _ _ => (pts_one (pt_cmpR (inK (K := K)) (pv 3) (pe_dget hu (pv 2) (pv 6) (fun _ _ => rfl)) (by rfl)))) (fun _ _ _ _ _ => (pv 6))) pa_nil)) (nomark _))))))))), ?_⟩
    have hRm := hG.most
    have hAl : (rowsOf AR).length = AR.length := List.length_map _
    have hnl : (namesOf AR).length = AR.length := nmlen AR
    have hnd := hG.nm.nd
    obtain ⟨dx, tw, tr, db, dc, da, du, o, h1, h2, h3, h4, h5, h6, h7, h8⟩ := R.ex
    obtain ⟨ca, hc1, hc2⟩ := hL.ex
    have rowat : ∀ {i : Nat} (hi : i < AR.length), (namesOf AR)[i]? = some AR[i].2.1 ∧ lowR (rowsOf AR) AR[i].2.1 = AR[i].2.2 := fun {i} hi => by
      refine ⟨?_, low_at hnd (List.mem_map.mpr ⟨_, List.getElem_mem hi, rfl⟩)⟩
      show (((AR.map (·.2)).map (·.1)))[i]? = _
      rw [List.getElem?_map, List.getElem?_map, List.getElem?_eq_getElem hi]
      rfl
    have py : Plain y := name_plain (hG.nm.ok y hy)
    have sh : ∀ H', Shown K H' (.str y) := fun H' => .str y py (by
      have := (hG.nm.ok y hy).most
      rw [len_list]
      omega)
    have hasy : hasV AR (.str y) = true := decide_eq_true hy
    have hno : ∀ {Z : Prop}, hasV AR (.str y) = false → Z := fun z => by rw [hasy] at z; cases z
    have look : ∀ {m : Str}, (["weirs", "_rows", "_below", "_courses", "_above", "_upstream", "_deepest_first"] : List Str).contains m = false → (f7 (.ref tw) (.ref tr) (.ref db) (.ref dc) (.ref da) (.ref du) o).lookup m = none := fun h => g7m h
    refine ⟨_, rfl, _, rfl, c, _, rfl, dget_rn (.inl hc1) hy, ?_⟩
    refine ⟨_, rfl, p, dx, _, rfl, h1, look (by decide +kernel), _, rfl, p, .str y, AR, rfl, R, sh H, fun y1 e1 hy1 v1 ev1 => ?_, fun z => hno z⟩
    have e1 := V.str.inj e1
    subst e1
    subst ev1
    refine ⟨_, rfl, l, AR.map (·.1), (rowsOf AR).map fun r => ((Sum.inr r.1 : Key), V.str r.2), rfl, ?_, rows_pairs hR.tup, fun d nd => ?_⟩
    · rw [List.map_map]
      exact .inl (.inl hR.lst)
    rw [merge_all hG]
    have s1 : Same H (upd H d (.dK (belowK (rowsOf AR)))) := same_upd nd
    have d1 : (upd H d (.dK (belowK (rowsOf AR)))) d = some (.dK (belowK (rowsOf AR))) := upd_same
    generalize upd H d (.dK (belowK (rowsOf AR))) = H1 at s1 d1
    refine ⟨_, rfl, d, _, rfl, dget_rn (.inl d1) hy, rfl, _, rfl, ?_⟩
    refine iteNo (fun z => z rfl) ?_
    -- course
    refine ⟨_, rfl, p, dx, _, rfl, s1 _ _ h1, look (by decide +kernel), _, rfl, p, .str y, AR, rfl, Same.riv s1 R, sh H1, fun y1 e1 hy1 v1 ev1 => ?_, fun z => hno z⟩
    have e1 := V.str.inj e1
    subst e1
    obtain ⟨t1, rfl, ht1⟩ := ev1
    refine ⟨_, rfl, ca y, _, rfl, .inl ⟨.inl (.inl (s1 _ _ (hc2 y hy))), fun t2 nt2 => ?_⟩⟩
    have s2 : Same H1 (upd H1 t2 (.tup ((course (rowsOf AR) y).map V.str))) := same_upd nt2
    have w2 : (upd H1 t2 (.tup ((course (rowsOf AR) y).map V.str))) t2 = _ := upd_same
    generalize upd H1 t2 (.tup ((course (rowsOf AR) y).map V.str)) = H2 at s2 w2
    have plc : ∀ z ∈ course (rowsOf AR) y, Plain z := fun z hz => name_plain (hG.nm.ok z (course_sub hG hy z hz))
    refine ⟨_, _, .tup (.inl (.inl (s2 _ _ ht1))) (dp_strs _), .tup (.inl (.inl w2)) (dp_strs _), shaped_tup plc, shaped_tup plc, _, rfl, ?_⟩
    rw [eqv_tups]
    refine iteF ?_
    have s12 := s1.trans s2
    refine ⟨_, rfl, _, rfl, p, dx, _, _, rfl, s12 _ _ h1, ⟨AR, Same.riv s12 R, .inl ⟨y, rfl⟩, rfl⟩, _, rfl, ?_⟩
    rw [hasy]
    refine iteF ?_
    -- depth
    refine ⟨_, rfl, p, dx, _, rfl, s12 _ _ h1, look (by decide +kernel), _, rfl, p, .str y, AR, rfl, Same.riv s12 R, sh H2, fun y1 e1 hy1 v1 ev1 => ?_, fun z => hno z⟩
    have e1 := V.str.inj e1
    subst e1
    subst ev1
    refine ⟨_, rfl, .int ((course (rowsOf AR) y).length : Int), .ty "int", _, _, true, rfl, .ty "int", .base (.int _), kit_ty (by decide +kernel), _, rfl, ?_⟩
    refine iteF ?_
    refine ⟨_, rfl, .int ((course (rowsOf AR) y).length : Int), .ty "bool", _, _, false, rfl, .ty "bool", .base (.int _), kit_ty (by decide +kernel), _, rfl, ?_⟩
    refine iteF ?_
    refine ⟨_, rfl, _, rfl, ca y, _, rfl, .inl (.inl (.inl (s12 _ _ (hc2 y hy)))), rfl, _, rfl, ?_⟩
    rw [List.length_map]
    refine iteNo (fun z => z rfl) ?_
    -- above
    refine ⟨_, rfl, p, dx, _, rfl, s12 _ _ h1, look (by decide +kernel), _, rfl, p, .str y, AR, rfl, Same.riv s12 R, sh H2, fun y1 e1 hy1 v1 ev1 => ?_, fun z => hno z⟩
    have e1 := V.str.inj e1
    subst e1
    obtain ⟨t3, rfl, ht3⟩ := ev1
    refine ⟨_, rfl, l, rfl, ⟨_, .inl (.inl (s12 _ _ hR.lst))⟩, fun D hD => ?_⟩
    refine lc_list (K := K) (a := l) (xs := AR.map fun q => V.ref q.1) (fun i H3 => Same H2 H3 ∧ H3 D = some (.lst ((((namesOf AR).take i).filter fun x => decide (lowR (rowsOf AR) x = y)).map V.str))) ⟨same_upd hD, by rw [upd_same, List.take_zero]; rfl⟩ (fun i H3 hi h => .inl (.inl (h.1 _ _ (s12 _ _ hR.lst)))) ?_ ?_
    · rintro i x H3 hx ⟨s3, hl⟩
      have hi : i < AR.length := by
        have := (List.getElem?_eq_some_iff.mp hx).1
        rw [List.length_map] at this
        exact this
      have ex := row_at hx hi
      subst ex
      obtain ⟨hn, hlow⟩ := rowat hi
      refine ⟨AR[i].1, _, rfl, .inl (.inl (s3 _ _ (s12 _ _ (hR.tup _ (List.getElem_mem hi))))), rfl, _, _, rfl, _, _, rfl, rfl, rfl, ?_⟩
      refine ⟨_, rfl, _, rfl, rfl, _, rfl, ?_⟩
      have hft := filter_take (p := fun x => decide (lowR (rowsOf AR) x = y)) hn
      refine ite2 (fun h => ?_) (fun h => ?_)
      · have h := V.str.inj (of_decide_eq_true h)
        rw [if_pos (decide_eq_true (hlow.trans h))] at hft
        refine ⟨_, rfl, _, hl, ?_, fun b o hb => ?_, ?_⟩
        · rw [List.length_map]
          have := List.length_filter_le (fun x => decide (lowR (rowsOf AR) x = y)) ((namesOf AR).take i)
          rw [List.length_take] at this
          exact small1000 (by omega)
        · rw [upd_ne (ne_of_none hb hD)]
          exact s3 b o hb
        · rw [upd_same, hft, List.map_append]
          rfl
      · have h : ¬ lowR (rowsOf AR) AR[i].2.1 = y := fun z => h (decide_eq_true (congrArg V.str (hlow.symm.trans z)))
        rw [if_neg (by rw [decide_eq_false h]; exact Bool.false_ne_true), List.append_nil] at hft
        refine ⟨s3, ?_⟩
        rw [hft]
        exact hl
    rintro H3 ⟨s3, hl⟩
    rw [List.take_of_length_le (by rw [hnl, List.length_map]; exact Nat.le_refl _)] at hl
    have hl : H3 D = some (.lst ((aboveR (rowsOf AR) y).map V.str)) := hl
    refine ⟨D, _, rfl, .inl ⟨.inl (.inl hl), fun t4 nt4 => ?_⟩⟩
    have s34 : Same H2 (upd H3 t4 (.tup ((aboveR (rowsOf AR) y).map V.str))) := s3.trans (same_upd nt4)
    have w4 : (upd H3 t4 (.tup ((aboveR (rowsOf AR) y).map V.str))) t4 = _ := upd_same
    have pla : ∀ z ∈ aboveR (rowsOf AR) y, Plain z := fun z hz => name_plain (hG.nm.ok z (List.mem_filter.mp hz).1)
    have plu : ∀ z ∈ upR (rowsOf AR) y, Plain z := fun z hz => name_plain (hG.nm.ok z (List.mem_filter.mp hz).1)
    have t3k := s34 _ _ ht3
    generalize upd H3 t4 (.tup ((aboveR (rowsOf AR) y).map V.str)) = H4 at s34 w4 t3k
    refine ⟨_, _, .tup (.inl (.inl t3k)) (dp_strs _), .tup (.inl (.inl w4)) (dp_strs _), shaped_tup pla, shaped_tup pla, _, rfl, ?_⟩
    rw [eqv_tups]
    refine iteF ?_
    have s14 := s12.trans s34
    -- upstream
    refine ⟨_, rfl, p, dx, _, rfl, s14 _ _ h1, look (by decide +kernel), _, rfl, p, .str y, AR, rfl, Same.riv s14 R, sh H4, fun y1 e1 hy1 v1 ev1 => ?_, fun z => hno z⟩
    have e1 := V.str.inj e1
    subst e1
    obtain ⟨t5, rfl, ht5⟩ := ev1
    refine ⟨_, rfl, l, rfl, ⟨_, .inl (.inl (s14 _ _ hR.lst))⟩, fun D5 hD5 => ?_⟩
    refine lc_list (K := K) (a := l) (xs := AR.map fun q => V.ref q.1) (fun i H3 => Same H4 H3 ∧ H3 D5 = some (.lst ((((namesOf AR).take i).filter fun x => decide (y ∈ course (rowsOf AR) x)).map V.str))) ⟨same_upd hD5, by rw [upd_same, List.take_zero]; rfl⟩ (fun i H3 hi h => .inl (.inl (h.1 _ _ (s14 _ _ hR.lst)))) ?_ ?_
    · rintro i x H3 hx ⟨s3, hl⟩
      have hi : i < AR.length := by
        have := (List.getElem?_eq_some_iff.mp hx).1
        rw [List.length_map] at this
        exact this
      have ex := row_at hx hi
      subst ex
      obtain ⟨hn, hlow⟩ := rowat hi
      have hxm : AR[i].2.1 ∈ namesOf AR := List.mem_of_getElem? hn
      have s5 := s14.trans s3
      refine ⟨AR[i].1, _, rfl, .inl (.inl (s5 _ _ (hR.tup _ (List.getElem_mem hi)))), rfl, _, _, rfl, _, _, rfl, rfl, rfl, ?_⟩
      refine ⟨_, rfl, _, rfl, _, rfl, c, _, rfl, dget_rn (.inl (s5 _ _ hc1)) hxm, ca AR[i].2.1, _, rfl, .inl (.inl (.inl (s5 _ _ (hc2 _ hxm)))), rfl, flat_strs _, _, rfl, ?_⟩
      have hft := filter_take (p := fun x => decide (y ∈ course (rowsOf AR) x)) hn
      rw [inV_str]
      refine ite2 (fun h => ?_) (fun h => ?_)
      · have h : decide (y ∈ course (rowsOf AR) AR[i].2.1) = true := h
        rw [if_pos h] at hft
        refine ⟨_, rfl, _, hl, ?_, fun b o hb => ?_, ?_⟩
        · rw [List.length_map]
          have := List.length_filter_le (fun x => decide (y ∈ course (rowsOf AR) x)) ((namesOf AR).take i)
          rw [List.length_take] at this
          exact small1000 (by omega)
        · rw [upd_ne (ne_of_none hb hD5)]
          exact s3 b o hb
        · rw [upd_same, hft, List.map_append]
          rfl
      · have h : ¬ decide (y ∈ course (rowsOf AR) AR[i].2.1) = true := h
        rw [if_neg h, List.append_nil] at hft
        refine ⟨s3, ?_⟩
        rw [hft]
        exact hl
    rintro H5 ⟨s5, hl⟩
    rw [List.take_of_length_le (by rw [hnl, List.length_map]; exact Nat.le_refl _)] at hl
    have hl : H5 D5 = some (.lst ((upR (rowsOf AR) y).map V.str)) := hl
    refine ⟨D5, _, rfl, .inl ⟨.inl (.inl hl), fun t6 nt6 => ?_⟩⟩
    have s56 : Same H4 (upd H5 t6 (.tup ((upR (rowsOf AR) y).map V.str))) := s5.trans (same_upd nt6)
    have w6 : (upd H5 t6 (.tup ((upR (rowsOf AR) y).map V.str))) t6 = _ := upd_same
    have t5k := s56 _ _ ht5
    generalize upd H5 t6 (.tup ((upR (rowsOf AR) y).map V.str)) = H6 at s56 w6 t5k
    refine ⟨_, _, .tup (.inl (.inl t5k)) (dp_strs _), .tup (.inl (.inl w6)) (dp_strs _), shaped_tup plu, shaped_tup plu, ?_⟩
    rw [eqv_tups]
    exact k H6 (s14.trans s56)
end
end K0
end

/-! ## K1H -/
section
set_option Elab.async false
set_option linter.all false
set_option maxRecDepth 100000
set_option maxHeartbeats 4000000
namespace K0
open PySem PySem.Spec PyProof.Rows L2
abbrev scWhole_N : List Str := ["_law_rows", "_law_weirs", "_law_weir", "_law_below"]
abbrev scWhole_S : Stmt := sWhole
theorem scWhole : FnScope scWhole_N ["_law_rows"] (defScope sWhole) := ⟨rfl, rfl, rfl, by decide +kernel, rfl, by decide +kernel, by decide +kernel⟩
def wholeB (R : List Row) (r : Row) : Bool := decide (r.2 = ("sea" : Str)) || decide (r.2 ∈ nmsOf R)
def spWhole : Sp := fun vs H Q _ => ∃ (l : Addr) (AR : List (Addr × Row)), vs = [.ref l] ∧ RowsAt H l AR ∧ AR.length ≤ 40 ∧ (∀ r ∈ rowsOf AR, Plain r.1 ∧ Plain r.2) ∧
  ∀ (H' : Hp) (b : Bool), Same H H' → (b = true → rowsOf AR ≠ [] ∧ ∀ r ∈ rowsOf AR, r.2 = "sea" ∨ r.2 ∈ namesOf AR) → Q (.bl b) H'
section
variable {P : Program} {w : World} {K : PySem.W.Frag} {mg : Str → Option Value} {base : Heap} {tS tM tL : Tok}
theorem ok_whole {f : Addr} {fd : FuncData} (F : FnP K "_law_is_whole" sWhole f fd) (B : Bl mg) : FnOk P w K mg base CX0 1 f fd ["_law_rows"] spWhole := by
  refine F.ok scWhole (fun vs H Q E h => ?_) (fun cdv A outer s H vs Q E hr h => ?_)
  · obtain ⟨l, AR, rfl, _⟩ := h
    rfl
  · obtain ⟨l, AR, rfl, hR, hm, hp, k⟩ := h
    have hu64 := hr.units
    refine ⟨_, PSs.nox (pss_cons
      (ps_set (i := 1) scWhole.nd rfl (Or.inr rfl) (pe_lc (own := [("_law_weir", 2), ("_law_below", 3)])  (tt := tYes) (by rfl) scWhole.nd (pi_list (pv 0)) (blkOk_by (own := [("_law_weir", 2), ("_law_below", 3)]) (N := scWhole_N) (sc := defScope scWhole_S) (by decide +kernel)) (fun _ _ _ _ _ => (tgK (K := K) (n := 2) (by rfl) (pgs_cons (pg_name (i := 2) scWhole.nd rfl (Or.inl rfl)) (pgs_cons (pg_name (i := 3) scWhole.nd rfl (Or.inl rfl)) pgs_nil)))) (fun _ _ _ _ _ => pts_nil) (fun _ _ _ _ _ => (pv 2))))
      (pss_one
      (ps_ret (pe_and (pe_cmpR (op_neD hu64) (pv 0) (pe_lst pa_nil) (nomark _)) (pe_one (pe_callB (cr_all rfl) (by rfl) B.all (by decide +kernel) (pa_cons (pe_lc (own := [("_law_weir", 2), ("_law_below", 3)])  (tt := tYes) (by rfl) scWhole.nd (pi_list (pv 0)) (blkOk_by (own := [("_law_weir", 2), ("_law_below", 3)]) (N := scWhole_N) (sc := defScope scWhole_S) (by decide +kernel)) (fun _ _ _ _ _ => (tgK (K := K) (n := 2) (by rfl) (pgs_cons (pg_name (i := 2) scWhole.nd rfl (Or.inl rfl)) (pgs_cons (pg_name (i := 3) scWhole.nd rfl (Or.inl rfl)) pgs_nil)))) (fun _ _ _ _ _ => pts_nil) (fun _ _ _ _ _ => (pe_or (pe_cmpR op_eq (pv 3) pe_str (nomark _)) (pe_one (pe_cmpR (inK (K := K)) (pv 3) (pv 1) (by rfl)))))) pa_nil))))))), ?_⟩
    have hAl : (rowsOf AR).length = AR.length := List.length_map _
    have hnl : (namesOf AR).length = AR.length := nmlen AR
    have rowat : ∀ {i : Nat} (hi : i < AR.length), (namesOf AR)[i]? = some AR[i].2.1 := fun {i} hi => by
      show (((AR.map (·.2)).map (·.1)))[i]? = _
      rw [List.getElem?_map, List.getElem?_map, List.getElem?_eq_getElem hi]
      rfl
    have tupk : ∀ {H' : Hp}, Same H H' → ∀ q ∈ AR, H' q.1 = some (.tup [.str q.2.1, .str q.2.2]) := fun sx q hq => sx _ _ (hR.tup q hq)
    refine ⟨_, rfl, l, rfl, ⟨_, .inl (.inl hR.lst)⟩, fun D hD => ?_⟩
    refine lc_list (K := K) (a := l) (xs := AR.map fun q => V.ref q.1) (fun i H2 => Same H H2 ∧ H2 D = some (.lst (((namesOf AR).take i).map V.str))) ⟨same_upd hD, by rw [upd_same, List.take_zero]; rfl⟩ (fun i H2 hi h => .inl (.inl (h.1 _ _ hR.lst))) ?_ ?_
    · rintro i x H2 hx ⟨s2, hl⟩
      have hi : i < AR.length := by
        have := (List.getElem?_eq_some_iff.mp hx).1
        rw [List.length_map] at this
        exact this
      have ex := row_at hx hi
      subst ex
      refine ⟨AR[i].1, _, rfl, .inl (.inl (s2 _ _ (hR.tup _ (List.getElem_mem hi)))), rfl, _, _, rfl, _, _, rfl, rfl, rfl, ?_⟩
      unfold tYes
      refine iteT ?_
      refine ⟨_, rfl, _, hl, ?_, fun b o hb => ?_, ?_⟩
      · rw [List.length_map, List.length_take]
        exact small1000 (by omega)
      · rw [upd_ne (ne_of_none hb hD)]
        exact s2 b o hb
      · rw [upd_same, List.take_add_one, rowat hi, List.map_append]
        rfl
    rintro H2 ⟨s2, hl⟩
    rw [List.take_of_length_le (by rw [hnl, List.length_map]; exact Nat.le_refl _)] at hl
    refine ⟨_, rfl, Nat.zero_le _, fun e0 ne0 => ?_⟩
    have s3 : Same H (upd H2 e0 (.lst [])) := s2.trans (same_upd ne0)
    have w3 : (upd H2 e0 (.lst [])) e0 = some (.lst (([] : List Str).map V.str)) := upd_same
    have D3 := same_upd ne0 (o := .lst []) _ _ hl
    generalize upd H2 e0 (.lst []) = H3 at s3 w3 D3
    refine ⟨_, _, .lst (.of (s3 _ _ hR.lst)) (dp_rows (tupk s3)), .lst (.of w3) (dp_strs []), (shaped_rows hp).2, shaped_lst (fun y hy => nomatch hy), _, rfl, ?_⟩
    have eqn : PyData.eqv (.list ((rowsOf AR).map rowD)) (.list (([] : List Str).map PyData.str)) = decide (rowsOf AR = []) := by
      simp only [PyData.eqv]
      exact eqv_rows (rowsOf AR) []
    rw [eqn]
    by_cases hne : rowsOf AR = []
    · rw [decide_eq_true hne]
      refine iteF ?_
      exact k H3 false s3 (fun z => by cases z)
    rw [decide_eq_false hne]
    refine iteT ?_
    refine ⟨_, rfl, l, rfl, ⟨_, .inl (.inl (s3 _ _ hR.lst))⟩, fun D2 hD2 => ?_⟩
    refine lc_list (K := K) (a := l) (xs := AR.map fun q => V.ref q.1) (fun i H4 => Same H3 H4 ∧ H4 D2 = some (.lst ((((rowsOf AR).take i).map (wholeB (rowsOf AR))).map V.bl))) ⟨same_upd hD2, by rw [upd_same, List.take_zero]; rfl⟩ (fun i H4 hi h => .inl (.inl (h.1 _ _ (s3 _ _ hR.lst)))) ?_ ?_
    · rintro i x H4 hx ⟨s4, hl4⟩
      have hi : i < AR.length := by
        have := (List.getElem?_eq_some_iff.mp hx).1
        rw [List.length_map] at this
        exact this
      have ex := row_at hx hi
      subst ex
      have s5 := s3.trans s4
      have hri : (rowsOf AR)[i]? = some AR[i].2 := by
        rw [List.getElem?_map, List.getElem?_eq_getElem hi]
        rfl
      refine ⟨AR[i].1, _, rfl, .inl (.inl (s5 _ _ (hR.tup _ (List.getElem_mem hi)))), rfl, _, _, rfl, _, _, rfl, rfl, rfl, ?_⟩
      unfold tYes
      refine iteT ?_
      have fin : ∀ (b : Bool), b = wholeB (rowsOf AR) AR[i].2 → ∃ xs, H4 D2 = some (.lst xs) ∧ xs.length < sizeLine ∧ (Same H3 (upd H4 D2 (.lst (xs ++ [.bl b]))) ∧ (upd H4 D2 (.lst (xs ++ [.bl b]))) D2 = some (.lst ((((rowsOf AR).take (i + 1)).map (wholeB (rowsOf AR))).map V.bl))) := fun b hb => by
        refine ⟨_, hl4, ?_, fun b1 o hb1 => ?_, ?_⟩
        · rw [List.length_map, List.length_map, List.length_take]
          exact small1000 (by omega)
        · rw [upd_ne (ne_of_none hb1 hD2)]
          exact s4 b1 o hb1
        · rw [upd_same, List.take_add_one, hri, List.map_append, List.map_append, hb]
          rfl
      refine ⟨_, rfl, rfl, _, rfl, ?_⟩
      by_cases hs : AR[i].2.2 = ("sea" : Str)
      · refine iteD (congrArg V.str hs) ?_
        refine fin true ?_
        unfold wholeB
        rw [decide_eq_true hs]
        rfl
      · refine iteDn (fun z => hs (V.str.inj z)) ?_
        refine ⟨_, rfl, _, rfl, D, _, rfl, .inl (.inl (.inl (s4 _ _ D3))), rfl, flat_strs _, ?_⟩
        have e1 : (if false = true then !inV (.str AR[i].2.2) ((namesOf AR).map V.str) else inV (.str AR[i].2.2) ((namesOf AR).map V.str)) = wholeB (rowsOf AR) AR[i].2 := by
          rw [if_neg Bool.false_ne_true, inV_str]
          unfold wholeB
          rw [decide_eq_false hs]
          rfl
        exact fin _ e1
    rintro H4 ⟨s4, hl4⟩
    rw [List.take_of_length_le (by rw [hAl, List.length_map]; exact Nat.le_refl _)] at hl4
    refine ⟨D2, _, rfl, .inl (.inl hl4), ?_⟩
    refine k H4 _ (s3.trans s4) fun hb => ⟨hne, fun r hr => ?_⟩
    have h1 := (List.all_eq_true.mp hb) _ (List.mem_map.mpr ⟨r, hr, rfl⟩)
    have h1 : (decide (r.2 = ("sea" : Str)) || decide (r.2 ∈ namesOf AR)) = true := h1
    rcases Bool.or_eq_true_iff.mp h1 with z | z
    · exact .inl (of_decide_eq_true z)
    · exact .inr (of_decide_eq_true z)
end
end K0
end

/-! ## K1I -/
section
set_option Elab.async false
set_option linter.all false
set_option maxRecDepth 100000
set_option maxHeartbeats 4000000
namespace L2
open PySem PySem.Spec PyProof.Rows
theorem eqOwnK {X : Cx} {K : PySem.W.Frag} {k : Nat} {C f : Addr} {fd : FuncData} {ps : List Str} {G : Hp → Addr → V → Bool → Prop} (F : FnOk X.prog X.w X.K X.mg X.base CX0 k f fd ps (spHas G)) (hr : Room k X.A) (hl : ps.length = 2)
    (hs : PySem.W.findIn X.K (.ref C) "__eq__" = some (some (.ref f))) (hf : PySem.W.isFn X.K (.ref f) = true) (hb : Binds X.K fd ps []) (e : X.K = K := by rfl) : OpR X (compareOp .Eq) (rOwnEq K C false G) := e ▸ k0_eq_own F hr hl hs hf hb
end L2
namespace K0
open PySem PySem.Spec PyProof.Rows L2
theorem cutV_take (xs : List V) (n : Nat) : cutV xs none (some (n : Int)) = xs.take n := by
  unfold cutV
  rw [HT.sIx_none, HT.sIx_nat]
  show (xs.drop 0).take (min n xs.length - 0) = xs.take n
  rw [List.drop_zero, Nat.sub_zero]
  exact (List.take_eq_take_min ..).symm
theorem cutV_drop (xs : List V) (n : Nat) : cutV xs (some (n : Int)) none = xs.drop n := by
  unfold cutV
  rw [HT.sIx_none, HT.sIx_nat]
  show (xs.drop (min n xs.length)).take (xs.length - min n xs.length) = xs.drop n
  by_cases h : n ≤ xs.length
  · rw [Nat.min_eq_left h]
    exact List.take_of_length_le (by rw [List.length_drop]; omega)
  · rw [Nat.min_eq_right (by omega), Nat.sub_self, List.drop_of_length_le (Nat.le_refl _), List.drop_of_length_le (by omega)]
    rfl
theorem NamesOk.sub {a b : List Str} (h : NamesOk b) (s : a.Sublist b) : NamesOk a :=
  ⟨fun x hx => h.ok x (s.subset hx), fun x hx => h.sea x (s.subset hx), h.nd.sublist s, fun x hx hq => h.qq x (s.subset hx) (s.subset hq), fun x hx hq => h.dd x (s.subset hx) (s.subset hq)⟩
theorem dry_good {R : List Row} (g : GoodRows R) {i : Nat} (hi : i < R.length) : GoodRows (R.take i ++ [(R[i].1, ("sea" : Str))] ++ R.drop (i + 1)) := by
  have hR : R = R.take i ++ [R[i]] ++ R.drop (i + 1) := by
    rw [List.append_assoc]
    have := (List.take_append_drop i R).symm
    rw [List.drop_eq_getElem_cons hi] at this
    exact this
  have hn : (R.take i ++ [(R[i].1, ("sea" : Str))] ++ R.drop (i + 1)).map (·.1) = R.map (·.1) := by
    conv => rhs; rw [hR]
    simp only [List.map_append, List.map_cons, List.map_nil]
  have hl : (R.take i ++ [(R[i].1, ("sea" : Str))] ++ R.drop (i + 1)).length = R.length := by
    have := congrArg List.length hn
    rw [List.length_map, List.length_map] at this
    exact this
  obtain ⟨rk, hk⟩ := g.rank
  refine ⟨by rw [hl]; exact g.one, by rw [hl]; exact g.most, by rw [hn]; exact g.nm, rk, fun r hr => ?_⟩
  rw [hn]
  rcases List.mem_append.mp hr with h | h
  · rcases List.mem_append.mp h with h | h
    · exact hk r (List.mem_of_mem_take h)
    · rw [List.mem_singleton.mp h]
      exact .inl rfl
  · exact hk r (List.mem_of_mem_drop h)
theorem tail_good {R : List Row} (g : GoodRows R) (h1 : R.drop 1 ≠ []) (h2 : ∀ r ∈ R.drop 1, r.2 = "sea" ∨ r.2 ∈ nmsOf (R.drop 1)) : GoodRows (R.drop 1) := by
  obtain ⟨rk, hk⟩ := g.rank
  have hl : (R.drop 1).length = R.length - 1 := List.length_drop
  refine ⟨List.length_pos_iff.mpr h1, by have := g.most; omega, g.nm.sub ((List.drop_sublist 1 R).map _), rk, fun r hr => ?_⟩
  rcases h2 r hr with e | e
  · exact .inl e
  · rcases hk r (List.mem_of_mem_drop hr) with z | ⟨_, z⟩
    · exact .inl z
    · exact .inr ⟨e, z⟩
/-- the built-in types that are no rivers -/
theorem kit_own {K : PySem.W.Frag} {Cr : Addr} {T : String} (hc : (PySem.W.clsIn K Cr).isSome = true) (ht : PySem.W.typeIn K (.ref Cr) = some (.type "type")) (h : ((PySem.fastBuiltinMro T).map fun l => l.all fun v => match v with | .type _ => true | _ => false) = some true) :
    PySem.W.kitOne K (.type T) (.ref Cr) = some false ∧ PySem.W.notFirst K Cr (.type T) = true := by
  have e : PySem.W.subIn K (.type T) (.ref Cr) = some false := by
    show (PySem.fastBuiltinMro T).map (·.contains (Value.ref Cr)) = some false
    cases hm : PySem.fastBuiltinMro T with
    | none => rw [hm] at h; cases h
    | some l =>
      rw [hm] at h
      have h := Option.some.inj h
      show some (l.contains (Value.ref Cr)) = some false
      refine congrArg some ?_
      cases hz : l.contains (Value.ref Cr) with
      | false => rfl
      | true =>
        have hz := List.contains_iff_mem.mp hz
        have := List.all_eq_true.mp h _ hz
        cases this
  refine ⟨?_, ?_⟩
  · unfold PySem.W.kitOne
    rw [if_neg (by simp)]
    show (if ((PySem.W.clsIn K Cr).isSome && PySem.W.typeIn K (.ref Cr) == some (.type "type")) = true then PySem.W.subIn K (.type T) (.ref Cr) else none) = some false
    rw [if_pos (by rw [hc, ht]; rfl)]
    exact e
  · unfold PySem.W.notFirst
    rw [e]
    simp
theorem split2 {α β : Type} {C R : α → β → Prop} {G : Prop} (use : (∀ o H, R o H → C o H) → G) (key : ∀ o H, R o H → C o H) : G := use key
abbrev scEqual_N : List Str := ["_law_bag_here", "_law_river_here", "_law_rows", "_law_place", "_law_dry", "_law_other", "_law_twin", "_law_one"]
abbrev scEqual_S : Stmt := sEqual
theorem scEqual : FnScope scEqual_N ["_law_bag_here", "_law_river_here", "_law_rows"] (defScope sEqual) := ⟨rfl, rfl, rfl, by decide +kernel, rfl, by decide +kernel, by decide +kernel⟩
def spEqual (Cr : Addr) : Sp := fun vs H Q _ => ∃ (p q l : Addr) (AR : List (Addr × Row)), vs = [.ref p, .ref q, .ref l] ∧ BagAt H p ∧ RivAt Cr H q AR ∧ RowsAt H l AR ∧ GoodRows (rowsOf AR) ∧ l ≠ p ∧ ∀ H', Upto p H H' → BagAt H' p → Q (.bl true) H'
/-- what the class River needs for == and for being made -/
structure Eqs (K : PySem.W.Frag) (mg : Str → Option Value) (Cr : Addr) : Prop where
  ri : Ri K Cr
  ty : PySem.W.typeIn K (.ref Cr) = some (.type "type")
  cls : (PySem.W.clsIn K Cr).isSome = true
  eq : ∃ f fd, FnM K "__eq__" "River.__eq__" sEq f fd ∧ PySem.W.findIn K (.ref Cr) "__eq__" = some (some (.ref f)) ∧ PySem.W.isFn K (.ref f) = true
  ne : PySem.W.findIn K (.ref Cr) "__ne__" = some (some (.builtin "object.__ne__"))
  made : ∃ f fd, FnM K "__init__" "River.__init__" sInit f fd ∧ Mk K Cr f
section
variable {P : Program} {w : World} {K : PySem.W.Frag} {mg : Str → Option Value} {base : Heap} {tS tM tL : Tok}
theorem ok_equal {f fT fM fW Cr : Addr} {fd fdT fdM fdW : FuncData} (F : FnP K "_law_equal_right" sEqual f fd) (F_law_take : FnP K "_law_take" sTake fT fdT) (F_law_mixed : FnP K "_law_mixed" sMixed fM fdM) (F_law_is_whole : FnP K "_law_is_whole" sWhole fW fdW)
    (g_law_take : mg "_law_take" = some (.ref fT)) (g_law_mixed : mg "_law_mixed" = some (.ref fM)) (g_law_is_whole : mg "_law_is_whole" = some (.ref fW)) (E : Eqs K mg Cr) (Mm : Mf K mg) (M : Sm K Cr) (S : Ms K Cr) (T : Rv K mg Cr) (B : Bl mg) (C : Gc mg tS tM tL) :
    FnOk P w K mg base CX0 6 f fd ["_law_bag_here", "_law_river_here", "_law_rows"] (spEqual Cr) := by
  obtain ⟨fE, fdE, FE, sE, iE⟩ := E.eq
  obtain ⟨fI, fdI, FI, MK⟩ := E.made
  obtain ⟨fR, fdR, FR, Mrows⟩ := S.rows
  have GE : FnOk P w K mg base CX0 1 fE fdE ["self", "other"] (spHas (GEq K Cr)) := ok_eq FE T E.ri E.ty B
  have bE : Binds K fdE ["self", "other"] [] := FE.bindsN fun _ _ _ _ _ _ us hl => match us, hl with | [_, _], _ => rfl
  have GI : FnOk P w K mg base CX0 4 fI fdI ["self", "rows"] (spInit Cr) := ok_init FI Mm T B C
  have bI : Binds K fdI ["self", "rows"] [] := FI.bindsN fun _ _ _ _ _ _ us hl => match us, hl with | [_, _], _ => rfl
  have Grows : FnOk P w K mg base CX0 1 fR fdR ["self"] (spRows Cr) := ok_rows FR T B
  have brows : Binds K fdR ["self"] [] := FR.bindsN fun _ _ _ _ _ _ us hl => match us, hl with | [_], _ => rfl
  have G_law_take : FnOk P w K mg base CX0 1 fT fdT ["_law_bag_here", "_law_many"] spTake := ok_take F_law_take B
  have b_law_take : Binds K fdT ["_law_bag_here", "_law_many"] [] := F_law_take.bindsN fun _ _ _ _ _ _ us hl => match us, hl with | [_, _], _ => rfl
  have G_law_mixed : FnOk P w K mg base CX0 2 fM fdM ["_law_bag_here", "_law_some"] (spMixed K) := ok_mixed F_law_mixed F_law_take B g_law_take
  have b_law_mixed : Binds K fdM ["_law_bag_here", "_law_some"] [] := F_law_mixed.bindsN fun _ _ _ _ _ _ us hl => match us, hl with | [_, _], _ => rfl
  have G_law_is_whole : FnOk P w K mg base CX0 1 fW fdW ["_law_rows"] spWhole := ok_whole F_law_is_whole B
  have b_law_is_whole : Binds K fdW ["_law_rows"] [] := F_law_is_whole.bindsN fun _ _ _ _ _ _ us hl => match us, hl with | [_], _ => rfl
  refine F.ok scEqual (fun vs H Q E h => ?_) (fun cdv A outer s H vs Q X0 hr h => ?_)
  · obtain ⟨p, q, l, AR, rfl, _⟩ := h
    rfl
  · obtain ⟨p, q, l, AR, rfl, hB, R, hR, hG, hlp, k⟩ := h
    have hu64 := hr.units
    have hr5 : Room 5 _ := hr
    have hr1 : Room 1 _ := hr.mono (by decide)
    have hr2 : Room (1 + 1) _ := hr.mono (by decide)
    have hrrows : Room 1 _ := hr1
    have hr_law_take : Room 1 _ := hr1
    have hr_law_mixed : Room 2 _ := hr.mono (by decide)
    have hr_law_is_whole : Room 1 _ := hr1
    refine ⟨_, PSs.nox (pss_cons
      (ps_set (i := 3) scEqual.nd rfl (Or.inl rfl) (pe_call G_law_take hr_law_take (by rfl) g_law_take F_law_take.kp b_law_take .nil pass0 (pa_cons (pv 0) (pa_cons (pe_callB (lenK (K := K)) (by rfl) B.len PySem.boot_len (pa_cons (pv 2) pa_nil)) pa_nil))))
      (pss_cons
      (ps_set (i := 4) scEqual.nd rfl (Or.inl rfl) (pe_op op_cat (pe_op op_cat (pe_slice sl_list (pv 2) po_none (po_some (pv 3))) (pe_lst (pa_cons (pe_tup (pa_cons (pe_ix (ixTK (K := K)) (pe_ix (ixLK (K := K)) (pv 2) (pv 3) (fun _ _ => rfl)) pe_int (fun _ _ => rfl)) (pa_cons pe_str pa_nil))) pa_nil))) (pe_slice sl_list (pv 2) (po_some (pe_op op_add (pv 3) pe_int)) po_none)))
      (pss_cons
      (ps_for PassesOwn.never rfl (pi_list (pe_lst (pa_cons (pe_callTy (listK (K := K)) (by rfl) B.list (by decide +kernel) (pa_cons (pv 2) pa_nil)) (pa_cons (pe_call G_law_mixed hr_law_mixed (by rfl) g_law_mixed F_law_mixed.kp b_law_mixed .nil pass0 (pa_cons (pv 0) (pa_cons (pv 2) pa_nil))) (pa_cons (pv 4) (pa_cons (pe_ifExp (pt_val (pe_call G_law_is_whole hr_law_is_whole (by rfl) g_law_is_whole F_law_is_whole.kp b_law_is_whole .nil pass0 (pa_cons (pe_slice sl_list (pv 2) (po_some pe_int) po_none) pa_nil))) (pe_slice sl_list (pv 2) (po_some pe_int) po_none) (pv 4)) pa_nil)))))) (pg_name (i := 5) scEqual.nd rfl (Or.inl rfl)) (pss_cons
      (ps_set (i := 6) scEqual.nd rfl (Or.inl rfl) (pe_make MK GI hr5 (by rfl) T.mgC bI .nil pass0 (pa_cons (pv 5) pa_nil)))
      (pss_one
      (ps_if (PW.pt (pw_or (pt_cmpR op_ne (pe_cmpR (k0_eq_own GE hr1 rfl sE iE bE) (pv 1) (pv 6) (nomark _)) (pe_cmpR (op_eqD hu64) (pv 5) (pv 2) (nomark _)) (nomark _)) (pw_or1 (pt_cmpR op_ne (pe_cmpR (k0_ne_own GE hr2 rfl sE E.ne E.ri.hm iE bE) (pv 1) (pv 6) (nomark _)) (pe_cmpR (op_neD hu64) (pv 5) (pv 2) (nomark _)) (nomark _))))) (pss_one
      (ps_ret pe_bl)) pss_nil))))
      (pss_one
      (ps_ret (pe_not (pe_callB (cr_any rfl) (by rfl) B.any (by decide +kernel) (pa_cons (pe_lc (own := [("_law_one", 7)]) (g := gName 7) (tt := tYes) (by rfl) scEqual.nd (pi_list (pe_lst (pa_cons pe_non (pa_cons (pv 2) (pa_cons (pe_callTy (tupleK (K := K)) (by rfl) B.tuple (by decide +kernel) (pa_cons (pv 2) pa_nil)) (pa_cons (fldK (K := K) (pv 1) rfl) (pa_cons (pe_meth0 (pv 1) T.cl Mrows Grows hrrows brows .nil pass0) (pa_cons (pe_callB (lenK (K := K)) (by rfl) B.len PySem.boot_len (pa_cons (pv 2) pa_nil)) pa_nil)))))))) (blkOk_by (own := [("_law_one", 7)]) (N := scEqual_N) (sc := defScope scEqual_S) (by decide +kernel)) (fun _ _ _ _ _ => (pg_name (i := 7) scEqual.nd rfl (Or.inl rfl))) (fun _ _ _ _ _ => pts_nil) (fun _ _ _ _ _ => (pe_cmpR (eqOwnK (K := K) GE hr1 rfl sE iE bE) (pv 1) (pv 7) (nomark _)))) pa_nil)))))))), ?_⟩
    have hRm := hG.most
    have hR1 := hG.one
    have hAl : (rowsOf AR).length = AR.length := List.length_map _
    refine ⟨_, rfl, _, rfl, l, _, rfl, .inl (.inl (.inl hR.lst)), p, ((AR.map fun q => V.ref q.1).length : Int), rfl, hB, by rw [List.length_map]; omega, by rw [List.length_map]; omega, fun r xs hr0 hr1' hx => ?_⟩
    obtain ⟨i, rfl⟩ : ∃ i : Nat, r = (i : Int) := ⟨r.toNat, by omega⟩
    have hi : i < AR.length := by rw [List.length_map] at hr1'; omega
    have u1 : Upto p H (upd H p (.lst xs)) := Upto.at_
    have B1 : BagAt (upd H p (.lst xs)) p := ⟨xs, upd_same, hx⟩
    have ins_p : ∀ {H' : Hp}, BagAt H p → ∀ {dx : Addr} {fs : List (Str × V)}, H q = some (.ins Cr dx fs) → q ≠ p := fun hB _ _ hq => by
      obtain ⟨b, hb, _⟩ := hB
      exact ne_of hq hb (fun z => by cases z)
    have rivU : ∀ {H1 H2 : Hp} {o : Addr} {A1 : List (Addr × Row)}, BagAt H1 p → Upto p H1 H2 → RivAt Cr H1 o A1 → RivAt Cr H2 o A1 := fun {H1 H2 o A1} hB u r => by
      obtain ⟨b, hb, _⟩ := hB
      obtain ⟨dx, tw, tr, db, dc, da, du, o, h1, h2, h3, h4, h5, h6, h7, h8⟩ := r.ex
      have kp : ∀ {a : Addr} {ho : HO}, H1 a = some ho → (∀ xs, ho ≠ .lst xs) → H2 a = some ho := fun e n => u _ _ e (ne_of e hb (n b))
      have tp : ∀ {c : Addr} {ns : List Str} {g : Str → List Str}, TupsAt H1 c ns g → TupsAt H2 c ns g := fun t => by
        obtain ⟨ta, q1, q2⟩ := t.ex
        exact ⟨ta, kp q1 (fun _ z => by cases z), fun x hx => kp (q2 x hx) (fun _ z => by cases z)⟩
      exact ⟨dx, tw, tr, db, dc, da, du, o, kp h1 (fun _ z => by cases z), kp h2 (fun _ z => by cases z), kp h3 (fun _ z => by cases z), fun q hq => kp (h4 q hq) (fun _ z => by cases z), kp h5 (fun _ z => by cases z), tp h6, tp h7, tp h8⟩
    have R1 := rivU hB u1 R
    have W1 := hR.upto hB hlp u1
    generalize upd H p (.lst xs) = H1 at u1 B1 R1 W1
    refine ⟨_, rfl, _, rfl, _, rfl, l, _, rfl, .inl (.inl W1.lst), fun a1 n1 => ?_⟩
    rw [cutV_take]
    have sA : Same H1 (upd H1 a1 (.lst ((AR.map fun q => V.ref q.1).take i))) := same_upd n1
    have wA : (upd H1 a1 (.lst ((AR.map fun q => V.ref q.1).take i))) a1 = _ := upd_same
    generalize upd H1 a1 (.lst ((AR.map fun q => V.ref q.1).take i)) = HA at sA wA
    have hv : (AR.map fun q => V.ref q.1)[i]? = some (.ref AR[i].1) := by rw [List.getElem?_map, List.getElem?_eq_getElem hi]; rfl
    refine ⟨_, rfl, _, rfl, l, _, _, _, rfl, rfl, .inl (.inl (sA _ _ W1.lst)), atI_nat hv, AR[i].1, _, 0, _, rfl, rfl, .inl (.inl (sA _ _ (W1.tup _ (List.getElem_mem hi)))), atI_nat (j := 0) rfl, by show 2 ≤ _; rw [sizeLine_eq]; omega, fun t nt => ?_⟩
    have z40 : 1000 ≤ sizeLine := by rw [sizeLine_eq]; omega
    refine ⟨by show 1 ≤ _; omega, fun a2 n2 => ?_⟩
    have sB : Same HA (upd (upd HA t (.tup [.str AR[i].2.1, .str "sea"])) a2 (.lst [.ref t])) := (same_upd nt).trans (same_upd n2)
    have wt : (upd (upd HA t (.tup [.str AR[i].2.1, .str "sea"])) a2 (.lst [.ref t])) t = some (.tup [.str AR[i].2.1, .str "sea"]) := same_upd n2 _ _ upd_same
    have w2 : (upd (upd HA t (.tup [.str AR[i].2.1, .str "sea"])) a2 (.lst [.ref t])) a2 = _ := upd_same
    have ntA := nt
    generalize upd (upd HA t (.tup [.str AR[i].2.1, .str "sea"])) a2 (.lst [.ref t]) = HB at sB wt w2
    have hti : ((AR.map fun q => V.ref q.1).take i).length ≤ 40 := by rw [List.length_take, List.length_map]; omega
    refine ⟨a1, a2, _, _, rfl, rfl, sB _ _ wA, w2, by show _ + 1 ≤ _; omega, fun c nc => ?_⟩
    have sC : Same HB (upd HB c (.lst ((AR.map fun q => V.ref q.1).take i ++ [.ref t]))) := same_upd nc
    have wc : (upd HB c (.lst ((AR.map fun q => V.ref q.1).take i ++ [.ref t]))) c = _ := upd_same
    generalize upd HB c (.lst ((AR.map fun q => V.ref q.1).take i ++ [.ref t])) = HC at sC wc
    have sAC := (sA.trans sB).trans sC
    refine ⟨_, rfl, _, rfl, _, 1, rfl, rfl, _, rfl, l, _, rfl, .inl (.inl (sAC _ _ W1.lst)), fun a3 n3 => ?_⟩
    have ei : ((i : Int) + 1) = ((i + 1 : Nat) : Int) := by omega
    rw [ei, cutV_drop]
    have sD : Same HC (upd HC a3 (.lst ((AR.map fun q => V.ref q.1).drop (i + 1)))) := same_upd n3
    have w3 : (upd HC a3 (.lst ((AR.map fun q => V.ref q.1).drop (i + 1)))) a3 = _ := upd_same
    generalize upd HC a3 (.lst ((AR.map fun q => V.ref q.1).drop (i + 1))) = HD at sD w3
    refine ⟨c, a3, _, _, rfl, rfl, sD _ _ wc, w3, by rw [List.length_append, List.length_drop, List.length_map]; show _ + 1 + _ ≤ _; omega, fun d nd => ?_⟩
    have dp : d ≠ p := by
      obtain ⟨b, hb, _⟩ := B1
      exact (ne_of_none ((sAC.trans sD) _ _ hb) nd).symm
    have edry : ((AR.map fun q => V.ref q.1).take i ++ [.ref t]) ++ (AR.map fun q => V.ref q.1).drop (i + 1) = (AR.take i ++ [(t, (AR[i].2.1, ("sea" : Str)))] ++ AR.drop (i + 1)).map fun q => V.ref q.1 := by
      simp only [List.map_append, List.map_take, List.map_drop, List.map_cons, List.map_nil]
    rw [edry]
    have hAR2 : rowsOf (AR.take i ++ [(t, (AR[i].2.1, ("sea" : Str)))] ++ AR.drop (i + 1)) = (rowsOf AR).take i ++ [((rowsOf AR)[i].1, ("sea" : Str))] ++ (rowsOf AR).drop (i + 1) := by
      simp only [rowsOf, List.map_append, List.map_take, List.map_drop, List.map_cons, List.map_nil, List.getElem_map]
    have Gd : GoodRows (rowsOf (AR.take i ++ [(t, (AR[i].2.1, ("sea" : Str)))] ++ AR.drop (i + 1))) := by
      rw [hAR2]
      exact dry_good hG (by omega)
    have sAll : Same H1 (upd HD d (.lst ((AR.take i ++ [(t, (AR[i].2.1, ("sea" : Str)))] ++ AR.drop (i + 1)).map fun q => V.ref q.1))) := (sAC.trans sD).trans (same_upd nd)
    have Wd : RowsAt (upd HD d (.lst ((AR.take i ++ [(t, (AR[i].2.1, ("sea" : Str)))] ++ AR.drop (i + 1)).map fun q => V.ref q.1))) d (AR.take i ++ [(t, (AR[i].2.1, ("sea" : Str)))] ++ AR.drop (i + 1)) := by
      refine ⟨upd_same, fun z hz => ?_⟩
      rcases List.mem_append.mp hz with h | h
      · rcases List.mem_append.mp h with h | h
        · exact sAll _ _ (W1.tup z (List.mem_of_mem_take h))
        · rw [List.mem_singleton.mp h]
          exact same_upd nd _ _ (sD _ _ (sC _ _ wt))
      · exact sAll _ _ (W1.tup z (List.mem_of_mem_drop h))
    generalize AR.take i ++ [(t, (AR[i].2.1, ("sea" : Str)))] ++ AR.drop (i + 1) = ARd at sAll Wd Gd
    generalize upd HD d (.lst (ARd.map fun q => V.ref q.1)) = H2 at sAll Wd
    have B2 : BagAt H2 p := by
      obtain ⟨b, hb, hv⟩ := B1
      exact ⟨b, sAll _ _ hb, hv⟩
    have u2 : Upto p H H2 := u1.trans (Upto.of sAll)
    have R2 := Same.riv sAll R1
    have W2 := W1.same sAll
    clear hAR2 edry ei sD w3 wc sC sAC w2 wt sB wA sA ntA hv
    refine ⟨_, rfl, l, _, rfl, .inl (.inl (.inl W2.lst)), fun o1 m1 => ?_⟩
    have sO : Same H2 (upd H2 o1 (.lst (AR.map fun q => V.ref q.1))) := same_upd m1
    have V1 : RowsAt (upd H2 o1 (.lst (AR.map fun q => V.ref q.1))) o1 AR := ⟨upd_same, fun z hz => sO _ _ (W2.tup z hz)⟩
    have o1p : o1 ≠ p := by
      obtain ⟨b, hb, _⟩ := B2
      exact (ne_of_none hb m1).symm
    have B3 : BagAt (upd H2 o1 (.lst (AR.map fun q => V.ref q.1))) p := by
      obtain ⟨b, hb, hv⟩ := B2
      exact ⟨b, sO _ _ hb, hv⟩
    have W3 := W2.same sO
    have R3 := Same.riv sO R2
    have Wd3 := Wd.same sO
    have u3 := u2.trans (Upto.of sO)
    generalize upd H2 o1 (.lst (AR.map fun q => V.ref q.1)) = H3 at sO V1 B3 W3 R3 Wd3 u3
    refine ⟨_, rfl, _, rfl, p, l, _, rfl, B3, hlp, .inl (.inl W3.lst), by rw [List.length_map]; omega, fun H4 o2 zs u34 B4 no2 o2p ho2 hperm => ?_⟩
    obtain ⟨AR2, ez, pAR2⟩ := perm_lift (f := fun q : Addr × Row => V.ref q.1) hperm AR rfl
    subst ez
    have V2 : RowsAt H4 o2 AR2 := ⟨ho2, fun z hz => u34 _ _ (W3.tup z (pAR2.mem_iff.mp hz)) (bag_ne B3 (W3.tup z (pAR2.mem_iff.mp hz)))⟩
    have G2 : GoodRows (rowsOf AR2) := GoodRows.perm (pAR2.map _) hG
    have V14 := V1.upto B3 o1p u34
    have W4 := W3.upto B3 hlp u34
    have R4 := rivU B3 u34 R3
    have Wd4 := Wd3.upto B3 dp u34
    have u4 := u3.trans u34
    refine ⟨_, rfl, _, rfl, _, rfl, l, _, rfl, .inl (.inl W4.lst), fun t1 nt1 => ?_⟩
    rw [show (some (1 : Int)) = some ((1 : Nat) : Int) from rfl, cutV_drop, ← List.map_drop]
    have sT : Same H4 (upd H4 t1 (.lst ((AR.drop 1).map fun q => V.ref q.1))) := same_upd nt1
    have VT : RowsAt (upd H4 t1 (.lst ((AR.drop 1).map fun q => V.ref q.1))) t1 (AR.drop 1) := ⟨upd_same, fun z hz => sT _ _ (W4.tup z (List.mem_of_mem_drop hz))⟩
    generalize upd H4 t1 (.lst ((AR.drop 1).map fun q => V.ref q.1)) = H5 at sT VT
    have eT : rowsOf (AR.drop 1) = (rowsOf AR).drop 1 := List.map_drop
    refine ⟨t1, AR.drop 1, rfl, VT, by rw [List.length_drop]; omega, fun r hr => good_plain hG r (by rw [eT] at hr; exact List.mem_of_mem_drop hr), fun H6 b s6 hb => ⟨_, rfl, ?_⟩⟩
    have s46 := sT.trans s6
    have W6 := W4.same s46
    refine split2 (R := fun o H7 => Same H6 H7 ∧ ∃ A4, RowsAt H7 o A4 ∧ GoodRows (rowsOf A4)) (C := ?C) ?use ?key
    case use =>
      intro key
      cases b with
      | true =>
        obtain ⟨hb1, hb2⟩ := hb rfl
        refine iteT ?_
        refine ⟨_, rfl, _, rfl, l, _, rfl, .inl (.inl W6.lst), fun o4 n4 => ?_⟩
        rw [show (some (1 : Int)) = some ((1 : Nat) : Int) from rfl, cutV_drop, ← List.map_drop]
        have s7 : Same H6 (upd H6 o4 (.lst ((AR.drop 1).map fun q => V.ref q.1))) := same_upd n4
        have V4 : RowsAt (upd H6 o4 (.lst ((AR.drop 1).map fun q => V.ref q.1))) o4 (AR.drop 1) := ⟨upd_same, fun z hz => s7 _ _ (W6.tup z (List.mem_of_mem_drop hz))⟩
        have G4 : GoodRows (rowsOf (AR.drop 1)) := by
          rw [eT]
          rw [eT] at hb1 hb2
          refine tail_good hG hb1 fun r hr => ?_
          have := hb2 r hr
          have e2 : namesOf (AR.drop 1) = nmsOf ((rowsOf AR).drop 1) := by show nmsOf (rowsOf (AR.drop 1)) = _; rw [eT]
          rw [e2] at this
          exact this
        generalize upd H6 o4 (.lst ((AR.drop 1).map fun q => V.ref q.1)) = H7 at s7 V4
        exact key o4 H7 ⟨s7, _, V4, G4⟩
      | false =>
        refine iteF ?_
        exact ⟨_, rfl, key d H6 ⟨.refl _, _, Wd4.same s46, Gd⟩⟩
    case key =>
      rintro o4 H7 ⟨s67, A4, V4, G4⟩
      refine ⟨by show 4 ≤ _; omega, fun L nL => ?_⟩
      have s47 := s46.trans s67
      have s78 : Same H7 (upd H7 L (.lst [.ref o1, .ref o2, .ref d, .ref o4])) := same_upd nL
      have wL : (upd H7 L (.lst [.ref o1, .ref o2, .ref d, .ref o4])) L = some (.lst [.ref o1, .ref o2, .ref d, .ref o4]) := upd_same
      generalize upd H7 L (.lst [.ref o1, .ref o2, .ref d, .ref o4]) = H8 at s78 wL
      have s48 := s47.trans s78
      have R8 := Same.riv s48 R4
      have W8 := W4.same s48
      have each : ∀ x ∈ ([.ref o1, .ref o2, .ref d, .ref o4] : List V), ∃ o A, x = .ref o ∧ RowsAt H8 o A ∧ GoodRows (rowsOf A) := fun x hx => by
        simp only [List.mem_cons, List.not_mem_nil, or_false] at hx
        rcases hx with rfl | rfl | rfl | rfl
        · exact ⟨o1, AR, rfl, V14.same s48, hG⟩
        · exact ⟨o2, AR2, rfl, V2.same s48, G2⟩
        · exact ⟨d, ARd, rfl, Wd4.same s48, Gd⟩
        · exact ⟨o4, A4, rfl, V4.same s78, G4⟩
      refine ⟨L, rfl, ⟨_, .inl (.inl wL)⟩, ?_⟩
      refine for_it (walk_list (K := K) (a := L) (xs := [.ref o1, .ref o2, .ref d, .ref o4])) (fun j σ H9 => ∃ v5 v6, σ = [some (.ref p), some (.ref q), some (.ref l), some (.int (i : Int)), some (.ref d), v5, v6, none] ∧ Same H8 H9)
        ⟨none, none, rfl, .refl _⟩ (fun j σ H9 hj h => by obtain ⟨_, _, _, s9⟩ := h; exact .inl (.inl (s9 _ _ wL))) ?_ ?_
      · rintro j x σ H9 H10 hj ⟨v5, v6, rfl, s9⟩ ⟨e, hx⟩
        subst e
        obtain ⟨o, A, rfl, hA, gA⟩ := each x (List.mem_of_getElem? hx)
        have hA9 := hA.same s9
        have R9 := Same.riv s9 R8
        have W9 := W8.same s9
        refine ⟨_, rfl, fun tw dx nx ndx hne => ?_⟩
        have sN : Same H10 (upd (upd H10 dx (.own tw)) tw (.ins Cr dx [])) := (same_upd ndx).trans (same_upd (by rw [upd_ne hne.symm]; exact nx))
        refine ⟨tw, o, dx, A, rfl, upd_same, hA9.same sN, gA, fun Ha ua Ra => ⟨rfl, ?_⟩⟩
        have sa : Same H10 Ha := fun b o hb => ua b o (sN b o hb) (ne_of_none hb nx)
        have Rq := Same.riv sa R9
        have Wa := W9.same sa
        have Aa := hA9.same sa
        obtain ⟨dxq, qw, qr, qb, qc, qa, qu, qo, q1, _⟩ := Rq.ex
        obtain ⟨dxt, z1, z2, z3, z4, z5, z6, z7, t1', _⟩ := Ra.ex
        have tyT : TyX K Ha (.ref tw) (.ref Cr) := .base (.ins t1' T.cl E.ri.ha E.ri.hn E.ri.htk E.ri.hm)
        have nfT : PySem.W.notFirst K Cr (.ref Cr) = true := by unfold PySem.W.notFirst; simp
        have gE : GEq K Cr Ha q (.ref tw) (decide (rowsOf AR = rowsOf A)) := ⟨AR, Rq, hG, .inl ⟨tw, A, rfl, Ra, gA, rfl⟩⟩
        have dO : Dp K Ha (.ref o) (.list ((rowsOf A).map rowD)) := .lst (.of Aa.lst) (dp_rows Aa.tup)
        have dL : Dp K Ha (.ref l) (.list ((rowsOf AR).map rowD)) := .lst (.of Wa.lst) (dp_rows Wa.tup)
        have shO := (shaped_rows (good_plain gA)).2
        have shL := (shaped_rows (good_plain hG)).2
        have eqv : PyData.eqv (.list ((rowsOf A).map rowD)) (.list ((rowsOf AR).map rowD)) = decide (rowsOf AR = rowsOf A) := by
          simp only [PyData.eqv]
          rw [eqv_rows, Bool.eq_iff_iff, decide_eq_true_eq, decide_eq_true_eq]
          exact eq_comm
        refine ⟨_, rfl, _, rfl, q, dxq, _, _, _, rfl, q1, gE, tyT, nfT, _, rfl, _, rfl, _, _, dO, dL, shO, shL, ?_⟩
        rw [eqv]
        refine ⟨rfl, _, rfl, ?_⟩
        refine iteNo (fun z => z rfl) ?_
        refine ⟨_, rfl, _, rfl, q, dxq, _, _, _, rfl, q1, gE, tyT, nfT, _, rfl, _, rfl, _, _, dO, dL, shO, shL, ?_⟩
        rw [eqv]
        refine ⟨rfl, _, rfl, ?_⟩
        refine iteNo (fun z => z rfl) ?_
        exact ⟨_, _, rfl, s9.trans sa⟩
      · rintro σ H9 ⟨v5, v6, rfl, s9⟩
        have R9 := Same.riv s9 R8
        have W9 := W8.same s9
        obtain ⟨dxq, qw, qr, qb, qc, qa, qu, qo, q1, q2, q3, q4, q5, q6, q7, q8⟩ := R9.ex
        refine ⟨_, rfl, _, rfl, l, _, rfl, .inl ⟨.inl (.inl W9.lst), fun tt ntt => ?_⟩⟩
        have sE : Same H9 (upd H9 tt (.tup (AR.map fun q => V.ref q.1))) := same_upd ntt
        have wE : (upd H9 tt (.tup (AR.map fun q => V.ref q.1))) tt = _ := upd_same
        generalize upd H9 tt (.tup (AR.map fun q => V.ref q.1)) = HE at sE wE
        refine ⟨_, rfl, q, Cr, dxq, _, _, rfl, sE _ _ q1, T.cl, T.weirs, g7w _ _ _ _ _ _ _, ?_⟩
        refine ⟨_, rfl, q, dxq, _, rfl, sE _ _ q1, g7m (by decide +kernel), q, AR, rfl, Same.riv sE R9, fun rr nrr => ?_⟩
        have sF : Same HE (upd HE rr (.lst (AR.map fun q => V.ref q.1))) := same_upd nrr
        have wF : (upd HE rr (.lst (AR.map fun q => V.ref q.1))) rr = _ := upd_same
        generalize upd HE rr (.lst (AR.map fun q => V.ref q.1)) = HF at sF wF
        refine ⟨_, rfl, l, _, rfl, .inl (.inl (.inl (sF _ _ (sE _ _ W9.lst)))), ?_⟩
        refine ⟨by show 6 ≤ _; omega, fun LL nLL => ?_⟩
        have sG := same_upd nLL (o := .lst [.non, .ref l, .ref tt, .ref qw, .ref rr, .int ((AR.map fun q => V.ref q.1).length : Int)])
        have wG : (upd HF LL (.lst [.non, .ref l, .ref tt, .ref qw, .ref rr, .int ((AR.map fun q => V.ref q.1).length : Int)])) LL = _ := upd_same
        generalize upd HF LL (.lst [.non, .ref l, .ref tt, .ref qw, .ref rr, .int ((AR.map fun q => V.ref q.1).length : Int)]) = HG at sG wG
        have s9G := (sE.trans sF).trans sG
        have ko := fun {T : String} h => kit_own (K := K) (Cr := Cr) (T := T) E.cls E.ty h
        have eachT : ∀ x ∈ ([.non, .ref l, .ref tt, .ref qw, .ref rr, .int ((AR.map fun q => V.ref q.1).length : Int)] : List V), ∃ t, (∀ {H'}, Same HG H' → TyX K H' x t) ∧ PySem.W.kitOne K t (.ref Cr) = some false ∧ PySem.W.notFirst K Cr t = true := fun x hx => by
          simp only [List.mem_cons, List.not_mem_nil, or_false] at hx
          rcases hx with rfl | rfl | rfl | rfl | rfl | rfl
          · exact ⟨.type "NoneType", fun _ => .base .non, ko (by decide +kernel)⟩
          · exact ⟨.type "list", fun s => .base (.lst (s _ _ (s9G _ _ W9.lst))), ko (by decide +kernel)⟩
          · exact ⟨.type "tuple", fun s => .base (.tup (s _ _ (sG _ _ (sF _ _ wE)))), ko (by decide +kernel)⟩
          · exact ⟨.type "tuple", fun s => .base (.tup (s _ _ (s9G _ _ q2))), ko (by decide +kernel)⟩
          · exact ⟨.type "list", fun s => .base (.lst (s _ _ (sG _ _ wF))), ko (by decide +kernel)⟩
          · exact ⟨.type "int", fun _ => .base (.int _), ko (by decide +kernel)⟩
        refine ⟨LL, rfl, ⟨_, .inl (.inl wG)⟩, fun D hD => ?_⟩
        refine lc_list (K := K) (a := LL) (fun j HH => Same HG HH ∧ HH D = some (.lst ((List.replicate j false).map V.bl))) ⟨same_upd hD, upd_same⟩ (fun j HH hj h => .inl (.inl (h.1 _ _ wG))) ?_ ?_
        · rintro j x HH hx ⟨sH, hDH⟩
          obtain ⟨t, ty, kt, nf⟩ := eachT x (List.mem_of_getElem? hx)
          have hj : j < 6 := (List.getElem?_eq_some_iff.mp hx).1
          have s9H := s9G.trans sH
          refine ⟨rfl, ?_⟩
          unfold tYes
          refine iteT ?_
          refine ⟨_, rfl, _, rfl, q, dxq, _, false, t, rfl, s9H _ _ q1, ⟨AR, Same.riv s9H R9, hG, .inr ⟨t, ty sH, kt, rfl⟩⟩, ty sH, nf, _, hDH, ?_, fun b o hb => ?_, ?_⟩
          · rw [List.length_map, List.length_replicate]
            exact small1000 (by omega)
          · rw [upd_ne (ne_of_none hb hD)]
            exact sH b o hb
          · rw [upd_same, List.replicate_succ', List.map_append]
            rfl
        · rintro HH ⟨sH, hDH⟩
          refine ⟨D, List.replicate 6 false, rfl, .inl (.inl hDH), ?_⟩
          have e : (List.replicate 6 false).any id = false := by decide
          rw [e]
          refine ⟨false, rfl, ?_⟩
          have sZ := ((s48.trans s9).trans s9G).trans sH
          obtain ⟨b4, hb4, hv4⟩ := B4
          exact k HH (u4.trans (Upto.of sZ)) ⟨b4, sZ _ _ hb4, hv4⟩
end
end K0
end

/-! ## K1J -/
section
set_option Elab.async false
set_option linter.all false
set_option maxRecDepth 100000
set_option maxHeartbeats 4000000
namespace L2
open PySem PySem.Spec PyProof.Rows
/-- isinstance of a caught error that has a dict -/
theorem k0_kitx {K : PySem.W.Frag} {x D : Addr} {ox : Obj} (C : ExcC K D) : PySem.W.KitX K (.ref x) (.ref D) (fun h => ∃ od, PySem.W.InstAt h x ox D od) where
  ty := fun _ _ _ I => by
    obtain ⟨od, I⟩ := I
    exact I.type
  it := fun _ _ X _ => by
    obtain ⟨cdD, hcD, _⟩ := PySem.W.any_some C.hd
    unfold PySem.W.clsIn at hcD
    split at hcD
    · rename_i c' d' cd' sl' ho
      intro A' Q' E' s' k q
      unfold isType loadHead
      exact wpAny_bind (wpAny_loadPart (k _ _ (X _ _ ho)) (wpAny_pure q))
    · cases hcD
  ne := fun h tp dd its n sl X htp => (PySem.W.handS_kitx_exc (x := x) (ox := ox) C.hg C.hk C.hs C.hd C.ha C.hn C.ht C.hm).ne h tp dd its n sl X htp
  ca := fun X ⟨od, I⟩ k => PySem.W.kx_classE X I C.hg C.hk C.hs (PySem.W.findObj_dataE (by obtain ⟨cd, hc, _⟩ := PySem.W.any_some C.hd; rw [hc]; rfl) C.ha C.hn C.ht) C.hm k
def rIsED (K : PySem.W.Frag) (a : Addr) (cls : Value) (d : Option Addr) : List V → Hp → VK → Prop := fun xs H Q => ∃ (c : V) (cv : Value) (b : Bool) (D dd : Addr) (fs : List (Str × V)), xs = [.ref a, c] ∧ cls = .ref D ∧ d = some dd ∧ ExcC K D ∧ H dd = some (.xd fs) ∧ (∀ u, RelV c u → u = cv) ∧ PySem.W.kitOne K (.ref D) cv = some b ∧ Q (.bl b) H
theorem k0_isE {X : Cx} {a : Addr} {oe : Obj} {cls : Value} {d : Option Addr} {pn : List (Addr × Obj)} (hz : Zc cls d oe) (hf : ∃ vs, oe.data = .fields vs) : CallR (X.suite a ((a, oe) :: pn)) (.builtin "isinstance") (rIsED X.K a cls d) := by
  intro pins s σ H xs us Q I r h
  obtain ⟨c, cv, b, D, dd, fs, rfl, rfl, rfl, C, ea, hcv, e, q⟩ := h
  cases r with
  | cons rx rr =>
    cases rr with
    | cons rt rr =>
      cases rr
      cases rx
      have ec := hcv _ rt
      subst ec
      obtain ⟨hget, _⟩ := I.pin (a, oe) (List.mem_append.mpr (.inl List.mem_cons_self))
      obtain ⟨vs, hv⟩ := hf
      have hx : ObjOk X.prog X.w H s.heap dd (.xd fs) := I.hok dd _ ea
      obtain ⟨mA, hns, hr⟩ := hx
      obtain ⟨od, ho, hl⟩ := lookIn_ns hns
      have J : PySem.W.InstAt s.heap a oe D (some od) := ⟨hget, hz.1, by unfold PySem.W.notCls; rw [hv], by rw [hz.2]; exact ho⟩
      exact PySem.W.kia_one (k0_kitx C) I.kIn ⟨_, J⟩ e (fun z => nomatch z) fun tk => ⟨.bl b, H, I.kept (t' := tk) fun _ _ z => z, rfl, q⟩
end L2
namespace LamX
open PySem PySem.Spec PyProof.Rows L2
/-! ### x(lambda: body, b) -/
section
variable {X : Cx} {pins : List (Addr × Obj)} {σ : L2.St} {H : Hp} {s : Shared}
/-- x(), in the def that got the lambda; what may be let out is wished for the slots as they stand at the call -/
theorem pe_act2 {CXg : CXT} {Eg : XK} {Ng : List Str} {qg : Str} {sg : Scope} {g f c' : Addr} {cdg pm ctv : Value} {params : Arguments} {body : Expr} {scope : Scope} {k i : Nat} {a : Str} {pn : List (Addr × Obj)} {xe : Value → Shared → Prop} {W : WX} {tb : XK → TE} {p1 p2 : Pos}
    (I : Inv X pins σ H s) (L : LamS X.env.scope scope) (hf : s.heap.get? f = some (PySem.W.kla_obj "<lambda>" (X.env.qual ++ "<lambda>") params body scope (cloFrom X.env.cells scope.names []) pm c' ctv)) (hfn : H f = none) (hfr : f ∉ frs X.stack)
    (hbind : bindArgs (PySem.W.kla_fn "<lambda>" (X.env.qual ++ "<lambda>") params body scope (cloFrom X.env.cells scope.names []) pm (.ref c') ctv) ⟨[], []⟩ = pure [])
    (tk : Takes ((cxOf CXg X.prog X.w X.K X.mg X.base Ng qg sg g cdg X.A X.stack s H Eg).tr pn xe) W) (hr : Room (k + 1) (X.A.deeper (envOfC qg sg s.heap.objs.size g cdg)))
    (hbody : ∀ (E : XK) (A : Around) (outer : List Env) (s : Shared) (H : Hp), Room k (A.deeper (lamEnv X scope s.heap.objs.size f c')) → PE (lamCx X A outer s H E scope f c') body (tb E))
    (hN : Ng[i]? = some a) (hv : Vis sg a) (hd : (a == ("__debug__" : Str)) = false := by decide) (hcd : (a == ("__classdict__" : Str)) = false := by decide) :
    PE ((cxOf CXg X.prog X.w X.K X.mg X.base Ng qg sg g cdg X.A X.stack s H Eg).tr pn xe) (.Call (.Name a p1) [] [] p2)
      (fun σZ HZ Q => σZ[i]? = some (some (.ref f)) ∧ HZ c' = some (CodeO c' (X.env.qual ++ "<lambda>")) ∧ ∃ E : XK, (∀ cls d H', E cls d H' → W cls d σZ H') ∧ tb E σ HZ Q) := by
  refine ⟨fun pinsZ sZ σZ HZ Q IZ h => ?_⟩
  obtain ⟨hs, hc, E, hW, ht⟩ := h
  refine wpAny_Call_Name_kw (thn ((pe_var (pos := p1) (i := i) hN hv hd hcd).run pinsZ sZ σZ HZ (fun v H1 => v = .ref f ∧ H1 = HZ) IZ ⟨.ref f, hs, rfl, rfl⟩) fun u s1 ⟨v, H1, I1, r1, ev, eH⟩ => ?_)
  subst ev
  rw [eH] at I1
  obtain rfl : u = Value.ref f := r1
  have of1 := I1.base.keep f _ hf hfn hfr (fun z => nomatch (show f ∈ ([] : List Addr) from z))
  have un : Un (frs X.stack) [] H HZ s.heap s1.heap := I1.base
  obtain ⟨⟨oc, vs, t, hoc, hdc, hvc⟩, _, _⟩ := I1.hok c' _ hc
  refine PySem.W.callWith_F0 ⟨_, _, _, _, of1⟩ (wpAny_call (codeAny_mono (R := CR (L2.CX X.prog X.w) (envOfC qg sg s.heap.objs.size g cdg :: X.stack) X.prog X.w HZ s1 Q E) ?_ fun r s' hq => ?_))
  · refine PySem.W.kla_callFunE hr.depth of1 rfl L.co L.gen rfl ⟨c', oc, vs, t, rfl, hoc, hdc, hvc⟩ ?_
    refine wpAny_of_eq (a := []) hbind (wpAny_newFunctionEnv (fun y hy => (L.own y hy).2) (fun y hy => nomatch hy) (fun h₁ hns hsb => ⟨I1.nolimit.fresh _ hsb, ?_⟩) L.kind)
    have J := lam_start2 (f := f) (c' := c') (E := E) (tk := s1.toks) I L I1.env0 hr.hd un hns fun b o e => hsb.extBut b o (Nat.ne_of_lt (Heap.lt_size e)) (Heap.get?_push_of_some _ e)
    refine PySem.W.kla_codeExpr (wpAny_mono ((hbody E _ _ s1 HZ (hr.deeper _)).run [] _ _ HZ Q J ht) (fun v s' hq => ?_) fun e s' hq => hq)
    obtain ⟨v', H', J', rv, q⟩ := hq
    exact ⟨v', H', J'.os, J'.bare, J'.base, J'.hok, rv, q⟩
  · cases r with
    | error e => exact tk e s' (XE.of_call I1 (fun cls d H' h => hW cls d H' h) hq)
    | ok fl =>
      cases fl with
      | ret u => exact I1.after hq
      | next => exact False.elim hq
      | brk => exact False.elim hq
      | cont => exact False.elim hq
end
def GivesTo2 (X : Cx) (Ng : List Str) (x : Str) (sg : Scope) (g : Addr) (cdg : Value) (bg : List Stmt) (a : Str) (q : Str) (TT : V → (XK → Hp → VK → Prop) → Hp → VK → Prop) : Prop :=
  ∀ (f c' : Addr) (s : Shared) (H : Hp) (Q : VK) (x2 : V) (tl : XK → Hp → VK → Prop), Room 0 ((cxOf C8.CX0 X.prog X.w X.K X.mg X.base Ng x sg g cdg X.A X.stack s H C8.E0).A) →
    (∀ (W : WX) (pn : List (Addr × Obj)) (xe : Value → Shared → Prop) (p1 p2 : Pos), Takes ((cxOf C8.CX0 X.prog X.w X.K X.mg X.base Ng x sg g cdg X.A X.stack s H C8.E0).tr pn xe) W →
      PE ((cxOf C8.CX0 X.prog X.w X.K X.mg X.base Ng x sg g cdg X.A X.stack s H C8.E0).tr pn xe) (.Call (.Name a p1) [] [] p2) (fun σZ HZ Q => σZ[0]? = some (some (.ref f)) ∧ HZ c' = some (CodeO c' q) ∧ ∃ E : XK, (∀ cls d H', E cls d H' → W cls d σZ H') ∧ tl E HZ Q)) →
    H c' = some (CodeO c' q) → TT x2 tl H Q →
    ∃ t, PSs (cxOf C8.CX0 X.prog X.w X.K X.mg X.base Ng x sg g cdg X.A X.stack s H C8.E0).nox bg t ∧ t { nx := fun _ H' => Q .non H', rt := Q } (L2.start Ng [.ref f, x2]) H
def tLam2 (T : List (Addr × Str)) (TT : V → (XK → Hp → VK → Prop) → Hp → VK → Prop) (j : Nat) (t : XK → TE) : TE := fun σ H Q => Tabs T H ∧ ∃ x2, σ[j]? = some (some x2) ∧ ∀ H1, ExtN H H1 → Tabs T H1 → TT x2 (fun E H' Q' => t E σ H' Q') H1 Q
section
variable {X : Cx}
theorem pe_lamcall2 {T : List (Addr × Str)} {TT : V → (XK → Hp → VK → Prop) → Hp → VK → Prop} {x a b : Str} {g c P : Addr} {k j : Nat} {pg : Arguments} {bg : List Stmt} {sg : Scope} {dV kV doc pm cdv ct oc : Value} {an od : Option Addr} {osl : Array (Option Value)} {Ng : List Str}
    {params : Arguments} {body e2 : Expr} {scope : Scope} {t : XK → TE} {p lpos pos : Pos} (hg : Gl X x) (hm : X.mg x = some (.ref g)) (hk : PySem.W.keepIn X.K (.ref g) = true)
    (lk : X.K.lookup g = some ⟨oc, od, .func (PySem.W.fnOf x x pg bg sg dV kV doc pm an cdv ct), osl⟩) (hcg : PySem.W.codeIn X.K cdv x = true) (hb : L2.Binds X.K (PySem.W.fnOf x x pg bg sg dV kV doc pm an cdv ct) [a, b] []) (Sg : FnScope Ng [a, b] sg) (hNg : Ng[0]? = some a) (hva : Vis sg a)
    (hG : GivesTo2 X Ng x sg g cdv bg a (X.env.qual ++ "<lambda>") TT)
    (TB : TabB X.base X.mg c P) (hcode : X.env.code = .ref c) (hmT : (P, X.env.qual ++ "<lambda>") ∈ T) (hu : ∀ p ∈ T, p.1 = P → p.2 = X.env.qual ++ "<lambda>") (hr : Room (k + 2) X.A) (L : LamS X.env.scope scope) (hdef : defaultsOf params X.env = ([], []))
    (hs : X.stack = X.env :: X.outer) (hfr : X.env.frame = some X.env.locals) (he2 : PE X e2 (tVar j))
    (hbind : ∀ (q : Str) (cl : List (Str × Addr)) (pm cv ctv : Value), bindArgs (PySem.W.kla_fn "<lambda>" q params body scope cl pm cv ctv) ⟨[], []⟩ = pure [])
    (hbody : ∀ (A : Around) (outer : List Env) (s : Shared) (H : Hp) (E : XK) (f c' : Addr), Room k (A.deeper (lamEnv X scope s.heap.objs.size f c')) → PE (lamCx X A outer s H E scope f c') body (t E))
    (hst : starEach [.Lambda params body scope lpos, e2] X.env = (false, eval (.Lambda params body scope lpos) X.env) :: starEach [e2] X.env := by rfl) (hst2 : starEach [e2] X.env = [(false, eval e2 X.env)] := by rfl)
    (hdb : (x == ("__debug__" : Str)) = false := by decide) (hd : (a == ("__debug__" : Str)) = false := by decide) (hcd : (a == ("__classdict__" : Str)) = false := by decide) :
    PE X (.Call (.Name x p) [.Lambda params body scope lpos, e2] [] pos) (tLam2 T TT j t) := by
  refine ⟨fun pins s σ H Q I h => ?_⟩
  obtain ⟨hT, x2, hx2, h⟩ := h
  refine wpAny_Call_Name_kw (ld_glob I hg hm ?_ hdb)
  refine PySem.W.callWith_K (h₀ := X.base) I.ok.mod.kin hk ?_ hst (by rw [hst2]; rfl)
  show wpAny _ _ (spliced ((false, eval (.Lambda params body scope lpos) X.env) :: backTo pos (starEach [e2] X.env))) _ _ s
  refine Calls.spliced_cons (lam_make2 I TB hcode hmT hu hT hdef (L.has I.ok) fun f c' pm' ctv H1 s' I1 eN T1 hf hfn hfr' hco => ?_)
  rw [hst2]
  show wpAny _ _ (spliced [(false, eval e2 X.env)]) _ _ _
  have nloc : f ≠ X.env.locals := fun z => hfr' (by
    rw [hs, z]
    exact List.mem_filterMap.mpr ⟨X.env, List.mem_cons_self, hfr⟩)
  have nfs : f ∉ X.fs := fun z => hfr' (by
    rw [hs]
    obtain ⟨e, he, q⟩ := List.mem_filterMap.mp z
    exact List.mem_filterMap.mpr ⟨e, List.mem_cons_of_mem _ he, q⟩)
  have Ip := I1.pins_of (pins' := (f, PySem.W.kla_obj "<lambda>" (X.env.qual ++ "<lambda>") params body scope (cloFrom X.env.cells scope.names []) pm' c' ctv) :: pins) fun q hq => by
    rcases List.mem_cons.mp hq with e | e
    · rw [e]
      exact ⟨hf, hfn, nloc, nfs, fun v z => by cases z⟩
    · exact I1.pin q (List.mem_append_right _ e)
  refine Calls.spliced_cons (thn (he2.run _ s' σ H1 (fun v H' => v = x2 ∧ H' = H1) Ip ⟨x2, hx2, rfl, rfl⟩) fun u2 s2 ⟨v2, H2, I2, r2, ev, eH⟩ => ?_)
  have ev2 : x2 = v2 := ev.symm
  have eH2 : H1 = H2 := eH.symm
  subst ev2
  subst eH2
  have hf2 := (I2.pin _ (List.mem_append_right _ List.mem_cons_self)).1
  refine Calls.spliced_nil ⟨I2.kIn, ?_⟩
  have rc : codeAny (model X.prog X.w) X.A (.call (.ref g) ⟨[.ref f, u2], []⟩) (CR C8.CX0 X.stack X.prog X.w H1 s2 Q C8.E0) s2 := by
    refine run_ofS (N := Ng) (ps := [a, b]) (us := [.ref f, u2]) (vs := [.ref f, x2]) lk hcg Sg hr I2.env0 (hb s2 [.ref f, u2] I2.kIn rfl) (.cons rfl (.cons r2 .nil)) rfl fun hr' => ?_
    obtain ⟨t', ht', hq'⟩ := hG f c' s2 H1 Q x2 (fun E H' Q' => t E σ H' Q') (hr'.mono (Nat.zero_le _)) (fun W pn xe p1 p2 tk => pe_act2 (i := 0) I2 L hf2 hfn hfr' (hbind _ _ _ _ _) tk hr' (fun E A outer s H hr2 => hbody A outer s H E f c' hr2) hNg hva hd hcd) hco (h H1 eN T1)
    exact ⟨t', ht'.nox, hq'⟩
  refine wpAny_call (codeAny_mono rc fun r s3 hq => ?_)
  have fin : ∀ {Q' : VK} {u : Value} {s' : Shared}, EP X ((f, PySem.W.kla_obj "<lambda>" (X.env.qual ++ "<lambda>") params body scope (cloFrom X.env.cells scope.names []) pm' c' ctv) :: pins) σ Q' u s' → EP X pins σ Q' u s' := fun ⟨v, H', J, rv, q⟩ => ⟨v, H', J.pins_of fun z hz => J.pin z (by
      rcases List.mem_append.mp (List.mem_append_right X.pn (List.mem_cons_of_mem _ hz)) with h | h
      · exact List.mem_append_left _ h
      · exact List.mem_append_right _ h), rv, q⟩
  cases r with
  | error e => exact (show False from hq).elim
  | ok fl =>
    cases fl with
    | ret u => exact fin (I2.after hq)
    | next => exact False.elim hq
    | brk => exact False.elim hq
    | cont => exact False.elim hq
end
end LamX
end

/-! ## K1K -/
section
set_option Elab.async false
set_option linter.all false
set_option maxRecDepth 100000
set_option maxHeartbeats 4000000
namespace L2
open PySem PySem.Spec PyProof.Rows
theorem eqDK {X : Cx} {K : PySem.W.Frag} (hu : X.A.units + 64 < cLine) (e : X.K = K := by rfl) : OpR X (compareOp .Eq) (rEqD K) := e ▸ op_eqD hu
theorem isiK {X : Cx} {K : PySem.W.Frag} (e : X.K = K := by rfl) : CallR X (.builtin "isinstance") (rIsi K) := e ▸ call_isi
end L2
namespace K0
open PySem PySem.Spec PyProof.Rows L2 LamX
abbrev scRefused_N : List Str := ["_law_ask", "_law_odd_here", "e"]
theorem scRefused : FnScope scRefused_N ["_law_ask", "_law_odd_here"] (defScope sRefused) := ⟨rfl, rfl, rfl, by decide +kernel, rfl, by decide +kernel, by decide +kernel⟩
/-- what the classes of errors say -/
structure Er (K : PySem.W.Frag) (mg : Str → Option Value) (Cn Cw Ch : Addr) : Prop where
  ec : ExcC K Cn
  xf : XfC K Cn
  hno : PySem.W.findIn K (.ref Cn) "name" = some none
  mW : mg "WeirError" = some (.ref Cw)
  mH : mg "NoRight" = some (.ref Ch)
  mN : mg "NoWeir" = some (.ref Cn)
  ex : PySem.W.exmOne K (.ref Cn) (.ref Cw) = some true
  kN : PySem.W.kitOne K (.ref Cn) (.ref Cn) = some true
  kH : PySem.W.kitOne K (.ref Cn) (.ref Ch) = some false
  kV : PySem.W.kitOne K (.ref Cn) (.type "ValueError") = some true
/-- told: the caught error bears the value that was handed in -/
def TRef (K : PySem.W.Frag) (Cn : Addr) : V → (XK → Hp → VK → Prop) → Hp → VK → Prop := fun x2 tl H Q =>
  ∀ Q', tl (fun cls d H' => cls = .ref Cn ∧ ∃ dd, d = some dd ∧ H' dd = some (.xd [(("name" : Str), x2)]) ∧ Shown K H' x2 ∧ Q (.bl true) H') H Q'
theorem shown_bool {K : PySem.W.Frag} {H : Hp} {x : V} (h : Shown K H x) : ∃ t b, TyX K H x t ∧ PySem.W.kitOne K t (.type "bool") = some b := by
  cases h with
  | str y _ _ => exact ⟨_, false, .base (.str y), kit_ty (by decide +kernel)⟩
  | non => exact ⟨_, false, .base .non, kit_ty (by decide +kernel)⟩
  | bl b => exact ⟨_, true, .base (.bl b), kit_ty (by decide +kernel)⟩
  | int i _ _ => exact ⟨_, false, .base (.int i), kit_ty (by decide +kernel)⟩
  | lst e _ _ => exact ⟨_, false, .base (.lst e), kit_ty (by decide +kernel)⟩
  | tup e _ _ => exact ⟨_, false, .base (.tup e), kit_ty (by decide +kernel)⟩
theorem shown_eqv {K : PySem.W.Frag} {H : Hp} {x : V} (h : Shown K H x) : ∃ d, Dp K H x d ∧ SeqAt.shaped d = true ∧ PyData.eqv d d = true := by
  cases h with
  | str y hp _ => exact ⟨_, .str y, shaped_str hp, by simp only [PyData.eqv, beq_self_eq_true]⟩
  | non => exact ⟨_, .non, by decide +kernel, by simp only [PyData.eqv]⟩
  | bl b => exact ⟨.bool b, .bl b, by cases b <;> decide +kernel, by simp only [PyData.eqv, beq_self_eq_true]⟩
  | int i _ _ => exact ⟨.int i, .int i, by unfold SeqAt.shaped; simp only [PyData.canLay0, PyData.depth]; rfl, by simp only [PyData.eqv, beq_self_eq_true]⟩
  | @lst a l e hp _ => exact ⟨_, .lst (.of e) (dp_strs l), shaped_lst hp, eqv_lsts l⟩
  | @tup a l e hp _ => exact ⟨_, .tup (.inl (.inl e)) (dp_strs l), shaped_tup hp, eqv_tups l⟩
section
variable {P : Program} {w : World} {K : PySem.W.Frag} {mg : Str → Option Value} {base : Heap} {tS tM tL : Tok}
theorem refused_gives {X : Cx} {g : Addr} {cdg : Value} {q : Str} {Cn Cw Ch : Addr} (R : Er X.K X.mg Cn Cw Ch) (B : Bl X.mg) : GivesTo2 X scRefused_N "_law_refused" (defScope sRefused) g cdg (defBody sRefused) "_law_ask" q (TRef X.K Cn) := by
  intro f c' s H Q x2 tl hr act hc h
  have hu64 := hr.units
  refine ⟨_, pss_cons (ps_try_as (X := (cxOf C8.CX0 X.prog X.w X.K X.mg X.base scRefused_N "_law_refused" (defScope sRefused) g cdg X.A X.stack s H C8.E0).nox) (c := .ref Cw) (i := 2)
      (tb := fun W D σ H => σ[0]? = some (some (.ref f)) ∧ H c' = some (CodeO c' q) ∧ ∃ Ech : XK, (∀ cls d H', Ech cls d H' → W cls d σ H') ∧ ∀ Q', tl Ech H Q')
      rfl rfl scRefused.nd rfl rfl ⟨rfl, by decide, .inl R.mW⟩ LamX.takes0 (fun W pn xe tk _ => ?_) (fun a oe cls d pn hz hf => (pss_cons
      (ps_if (PW.pt (pw_or (pt_not (pt_val (pe_callB (k0_isE hz hf) (by rfl) B.isinstance (by decide +kernel) (pa_cons (pv 2) (pa_cons (pe_glob (v := .ref Cn) (by rfl) R.mN rfl) pa_nil))))) (pw_or (pt_val (pe_callB (k0_isE hz hf) (by rfl) B.isinstance (by decide +kernel) (pa_cons (pv 2) (pa_cons (pe_glob (v := .ref Ch) (by rfl) R.mH rfl) pa_nil)))) (pw_or1 (pt_not (pt_val (pe_callB (k0_isE hz hf) (by rfl) B.isinstance (by decide +kernel) (pa_cons (pv 2) (pa_cons (pe_bltn (v := .ty "ValueError") (by rfl) B.valueError (by decide +kernel) rfl) pa_nil))))))))) (pss_one
      (ps_ret pe_bl)) pss_nil)
      (pss_one
      (ps_ret (pe_and (pe_cmpR (eqDK (K := X.K) hu64) (pe_xf R.xf R.hno hz hf (pv 2)) (pv 1) (nomark _)) (pe_one (pe_cmpR op_eq (pe_callB (isiK (K := X.K)) (by rfl) B.isinstance (by decide +kernel) (pa_cons (pe_xf R.xf R.hno hz hf (pv 2)) (pa_cons (pe_bltn (v := .ty "bool") (by rfl) B.bool (by decide +kernel) rfl) pa_nil))) (pe_callB (isiK (K := X.K)) (by rfl) B.isinstance (by decide +kernel) (pa_cons (pv 1) (pa_cons (pe_bltn (v := .ty "bool") (by rfl) B.bool (by decide +kernel) rfl) pa_nil))) (nomark _))))))))) (pss_one (ps_ret pe_bl)), ?_⟩
  · refine ⟨fun pins s' σ H' D I h' => ?_⟩
    obtain ⟨h1, h2, Ech, hW, h3⟩ := h'
    refine (pss_one (ps_expr (act W pn xe _ _ tk))).run pins s' σ H' D I ?_
    exact ⟨h1, h2, Ech, hW, h3 _⟩
  · refine ⟨rfl, hc, fun cls d H' => cls = .ref Cn ∧ ∃ dd, d = some dd ∧ H' dd = some (.xd [(("name" : Str), x2)]) ∧ Shown X.K H' x2 ∧ Q (.bl true) H', fun cls d H' ⟨ec, dd, ed, hdd, sh, hQ⟩ => ?_, h⟩
    subst ec
    subst ed
    refine ⟨true, R.ex, fun _ a na => ?_, fun z => by cases z⟩
    refine ⟨_, rfl, .ref Cn, .ref Cn, true, Cn, dd, _, rfl, rfl, rfl, R.ec, hdd, fun u hu => hu, R.kN, _, rfl, ?_⟩
    refine iteF ?_
    refine ⟨_, rfl, .ref Ch, .ref Ch, false, Cn, dd, _, rfl, rfl, rfl, R.ec, hdd, fun u hu => hu, R.kH, _, rfl, ?_⟩
    refine iteF ?_
    refine ⟨_, rfl, .ty "ValueError", .type "ValueError", true, Cn, dd, _, rfl, rfl, rfl, R.ec, hdd, fun u hu => hu, R.kV, _, rfl, ?_⟩
    refine iteF ?_
    obtain ⟨dt, d1, d2, d3⟩ := shown_eqv sh
    obtain ⟨t, b, ty, kb⟩ := shown_bool sh
    refine ⟨_, rfl, rfl, rfl, dd, _, x2, rfl, hdd, rfl, _, rfl, dt, dt, d1, d1, d2, d2, ?_⟩
    rw [d3]
    refine ⟨true, rfl, iteT ?_⟩
    refine ⟨_, rfl, rfl, rfl, dd, _, x2, rfl, hdd, rfl, x2, .ty "bool", t, .type "bool", b, rfl, .ty "bool", ty, kb, ?_⟩
    refine ⟨_, rfl, x2, .ty "bool", t, .type "bool", b, rfl, .ty "bool", ty, kb, rfl, ?_⟩
    rw [decide_eq_true rfl]
    exact hQ
end
end K0
end

/-! ## K1L -/
section
set_option Elab.async false
set_option linter.all false
set_option maxRecDepth 100000
set_option maxHeartbeats 4000000
namespace K0
open PySem PySem.Spec PyProof.Rows L2 LamX
theorem rivE {Cr : Addr} {H H' : Hp} {p : Addr} {AR : List (Addr × Row)} (s : ExtN H H') (r : RivAt Cr H p AR) : RivAt Cr H' p AR := by
  obtain ⟨dx, tw, tr, db, dc, da, du, o, h1, h2, h3, h4, h5, h6, h7, h8⟩ := r.ex
  have tp : ∀ {c : Addr} {ns : List Str} {g : Str → List Str}, TupsAt H c ns g → TupsAt H' c ns g := fun t => by
    obtain ⟨ta, q1, q2⟩ := t.ex
    exact ⟨ta, s _ _ q1 (fun _ z => by cases z), fun x hx => s _ _ (q2 x hx) (fun _ z => by cases z)⟩
  exact ⟨dx, tw, tr, db, dc, da, du, o, s _ _ h1 (fun _ z => by cases z), s _ _ h2 (fun _ z => by cases z), s _ _ h3 (fun _ z => by cases z), fun q hq => s _ _ (h4 q hq) (fun _ z => by cases z), s _ _ h5 (fun _ z => by cases z), tp h6, tp h7, tp h8⟩
theorem shownE {K : PySem.W.Frag} {H H' : Hp} {x : V} (s : ExtN H H') (h : Shown K H x) : Shown K H' x := by
  cases h with
  | str y h z => exact .str y h z
  | non => exact .non
  | bl b => exact .bl b
  | int i h z => exact .int i h z
  | lst e h z => exact .lst (s _ _ e (fun _ z => by cases z)) h z
  | tup e h z => exact .tup (s _ _ e (fun _ z => by cases z)) h z
theorem bagE {H H' : Hp} {p : Addr} (s : ExtN H H') (h : BagAt H p) : BagAt H' p := by
  obtain ⟨b, hb, hv⟩ := h
  exact ⟨b, s _ _ hb (fun _ z => by cases z), hv⟩
theorem tabs_upto {T : List (Addr × Str)} {H H' : Hp} {p : Addr} (B : BagAt H p) (u : Upto p H H') (t : Tabs T H) : Tabs T H' := fun z hz => by
  obtain ⟨ps, h1, h2, h3⟩ := t z hz
  obtain ⟨b, hb, _⟩ := B
  refine ⟨ps, u _ _ h1 (ne_of h1 hb (fun z => by cases z)), h2, fun pos cv hc => ?_⟩
  obtain ⟨c, e1, e2⟩ := h3 pos cv hc
  exact ⟨c, e1, u _ _ e2 (ne_of e2 hb (fun z => by unfold CodeO at z; cases z))⟩
/-- all but what stands at p, and the tables -/
def UptoT (p : Addr) (H H' : Hp) : Prop := ∀ b o, H b = some o → b ≠ p → (∀ ps, o ≠ .tbl ps) → H' b = some o
theorem rivUp {Cr : Addr} {H1 H2 : Hp} {p o : Addr} {A1 : List (Addr × Row)} (hB : BagAt H1 p) (u : Upto p H1 H2) (r : RivAt Cr H1 o A1) : RivAt Cr H2 o A1 := by
  obtain ⟨b, hb, _⟩ := hB
  obtain ⟨dx, tw, tr, db, dc, da, du, o, h1, h2, h3, h4, h5, h6, h7, h8⟩ := r.ex
  have kp : ∀ {a : Addr} {ho : HO}, H1 a = some ho → (∀ xs, ho ≠ .lst xs) → H2 a = some ho := fun e n => u _ _ e (ne_of e hb (n b))
  have tp : ∀ {c : Addr} {ns : List Str} {g : Str → List Str}, TupsAt H1 c ns g → TupsAt H2 c ns g := fun t => by
    obtain ⟨ta, q1, q2⟩ := t.ex
    exact ⟨ta, kp q1 (fun _ z => by cases z), fun x hx => kp (q2 x hx) (fun _ z => by cases z)⟩
  exact ⟨dx, tw, tr, db, dc, da, du, o, kp h1 (fun _ z => by cases z), kp h2 (fun _ z => by cases z), kp h3 (fun _ z => by cases z), fun q hq => kp (h4 q hq) (fun _ z => by cases z), kp h5 (fun _ z => by cases z), tp h6, tp h7, tp h8⟩
abbrev scRefuses_N : List Str := ["_law_bag_here", "_law_river_here", "_law_rows", "_law_odd_here"]
theorem scRefuses : FnScope scRefuses_N ["_law_bag_here", "_law_river_here", "_law_rows"] (defScope sRefuses) := ⟨rfl, rfl, rfl, by decide +kernel, rfl, by decide +kernel, by decide +kernel⟩
abbrev lamQ : Str := ("_law_refuses_right" : Str) ++ ".<locals>." ++ "<lambda>"
def spRefuses (Cr : Addr) (T : List (Addr × Str)) : Sp := fun vs H Q _ => ∃ (p q l : Addr) (AR : List (Addr × Row)), vs = [.ref p, .ref q, .ref l] ∧ BagAt H p ∧ RivAt Cr H q AR ∧ RowsAt H l AR ∧ GoodRows (rowsOf AR) ∧ l ≠ p ∧ Tabs T H ∧
  ∀ H', UptoT p H H' → BagAt H' p → Tabs T H' → Q (.bl true) H'
section
variable {P : Program} {w : World} {K : PySem.W.Frag} {mg : Str → Option Value} {base : Heap} {tS tM tL : Tok}
theorem okC_of {CX : CXT} {x qual : Str} {st : Stmt} {f c : Addr} {fd : FuncData} {N ps : List Str} {k : Nat} {sp : Sp} (F : FnM K x qual st f fd) (hc : fd.code = .ref c) (S : FnScope N ps (defScope st)) (len : ∀ vs H Q E, sp vs H Q E → vs.length = ps.length)
    (hbody : ∀ (A : Around) (outer : List Env) (s : Shared) (H : Hp) (vs : List V) (Q : VK) (E : XK), Room k (A.deeper (envOfC qual (defScope st) s.heap.objs.size f (.ref c))) → sp vs H Q E →
      ∃ t, PSs (cxOf CX P w K mg base N qual (defScope st) f (.ref c) A outer s H E) (defBody st) t ∧ t { nx := fun _ H' => Q .non H', rt := Q } (start N vs) H) : FnOk P w K mg base CX (k + 1) f fd ps sp := by
  obtain ⟨oc, od, dV, kV, doc, pm, an, cdv, ct, osl, rfl, lk, hcd, _, _⟩ := F.ex
  have e : cdv = .ref c := hc
  subst e
  exact fn_of lk hcd S len fun A outer s H vs Q E hr hsp => hbody A outer s H vs Q E hr hsp
theorem ok_refuses {f fT fO fD fR Cr Cn Cw Ch c Pt : Addr} {fd fdT fdO fdD fdR : FuncData} (F : FnP K "_law_refuses_right" sRefuses f fd) (hcode : fd.code = .ref c) (TB : TabB base mg c Pt) (F_law_take : FnP K "_law_take" sTake fT fdT) (F_law_of : FnP K "_law_of" sOf fO fdO) (F_law_odd : FnP K "_law_odd" sOdd fD fdD) (F_law_refused : FnP K "_law_refused" sRefused fR fdR)
    (g_law_take : mg "_law_take" = some (.ref fT)) (g_law_of : mg "_law_of" = some (.ref fO)) (g_law_odd : mg "_law_odd" = some (.ref fD)) (g_law_refused : mg "_law_refused" = some (.ref fR)) (R : Er K mg Cn Cw Ch) (D : Nd P w K mg base Cr Cn) (M : Sm K Cr) (S : Ms K Cr) (T : Rv K mg Cr) (B : Bl mg) (C : Gc mg tS tM tL) :
    FnOk P w K mg base CX0 8 f fd ["_law_bag_here", "_law_river_here", "_law_rows"] (spRefuses Cr [(Pt, lamQ)]) := by
  obtain ⟨fC, fdC, FC, sC, iC⟩ := M.has
  obtain ⟨f1, fd1, F1, Mbelow⟩ := S.below
  obtain ⟨f2, fd2, F2, Mabove⟩ := S.above
  obtain ⟨f3, fd3, F3, Mcourse⟩ := S.course
  obtain ⟨f4, fd4, F4, Mdepth⟩ := S.depth
  obtain ⟨f5, fd5, F5, Mupstream⟩ := S.upstream
  have GC : FnOk P w K mg base CX0 1 fC fdC ["self", "x"] (spHas (GHas K Cr)) := ok_contains FC T B
  have bC : Binds K fdC ["self", "x"] [] := FC.bindsN fun _ _ _ _ _ _ us hl => match us, hl with | [_, _], _ => rfl
  have Gbelow : FnOk P w K mg base (L2.CX P w) 4 f1 fd1 ["self", "weir"] (spAsk K Cr Cn okBelow) := ok_below F1 D T
  have bbelow : Binds K fd1 ["self", "weir"] [] := F1.bindsN fun _ _ _ _ _ _ us hl => match us, hl with | [_, _], _ => rfl
  have Gabove : FnOk P w K mg base (L2.CX P w) 4 f2 fd2 ["self", "weir"] (spAboveM K Cr Cn) := ok_aboveM F2 D T C
  have babove : Binds K fd2 ["self", "weir"] [] := F2.bindsN fun _ _ _ _ _ _ us hl => match us, hl with | [_, _], _ => rfl
  have Gcourse : FnOk P w K mg base (L2.CX P w) 4 f3 fd3 ["self", "weir"] (spAsk K Cr Cn okCourse) := ok_courseM F3 D T
  have bcourse : Binds K fd3 ["self", "weir"] [] := F3.bindsN fun _ _ _ _ _ _ us hl => match us, hl with | [_, _], _ => rfl
  have Gdepth : FnOk P w K mg base (L2.CX P w) 5 f4 fd4 ["self", "weir"] (spAsk K Cr Cn okDepth) := ok_depth F4 F3 Mcourse D T B
  have bdepth : Binds K fd4 ["self", "weir"] [] := F4.bindsN fun _ _ _ _ _ _ us hl => match us, hl with | [_, _], _ => rfl
  have Gupstream : FnOk P w K mg base (L2.CX P w) 4 f5 fd5 ["self", "weir"] (spAsk K Cr Cn okUp) := ok_upM F5 D T
  have bupstream : Binds K fd5 ["self", "weir"] [] := F5.bindsN fun _ _ _ _ _ _ us hl => match us, hl with | [_, _], _ => rfl
  have G_law_odd : FnOk P w K mg base CX0 3 fD fdD ["_law_bag_here", "_law_rows"] (spOdd K) := ok_odd F_law_odd F_law_take F_law_of B g_law_take g_law_of
  have b_law_odd : Binds K fdD ["_law_bag_here", "_law_rows"] [] := F_law_odd.bindsN fun _ _ _ _ _ _ us hl => match us, hl with | [_, _], _ => rfl
  have bR : Binds K fdR ["_law_ask", "_law_odd_here"] [] := F_law_refused.bindsN fun _ _ _ _ _ _ us hl => match us, hl with | [_, _], _ => rfl
  have kR := F_law_refused.kp
  obtain ⟨oc, od, dV, kV, doc, pm, an, cdvR, ct, osl, rfl, lkR, hcR, _, _⟩ := F_law_refused.ex
  refine okC_of F hcode scRefuses (fun vs H Q E h => ?_) (fun A outer s H vs Q E hr h => ?_)
  · obtain ⟨p, q, l, AR, rfl, _⟩ := h
    rfl
  · obtain ⟨p, q, l, AR, rfl, hB, Rv0, hR, hG, hlp, hT, k⟩ := h
    have hu64 := hr.units
    have hr7 : Room (5 + 2) _ := hr
    have hr1 : Room 1 _ := hr.mono (by decide)
    have hr_law_odd : Room 3 _ := hr.mono (by decide)
    refine ⟨_, PSs.nox (pss_cons
      (ps_set (i := 3) scRefuses.nd rfl (Or.inr rfl) (pe_call G_law_odd hr_law_odd (by rfl) g_law_odd F_law_odd.kp b_law_odd .nil pass0 (pa_cons (pv 0) (pa_cons (pv 2) pa_nil))))
      (pss_cons
      (ps_if (PW.pt (pw_or (pt_cmpR (k0_in_own (K := K) GC hr1 sC iC bC) (pv 3) (pv 1) (by rfl)) (pw_or1 (pt_not (pt_val (pe_lamcall2 (j := 3) (k := 5) (T := [(Pt, lamQ)]) (TT := TRef K Cn) (t := fun E => tMeth Cr "below" (spAsk K Cr Cn okBelow) [] E (tVar 1) (tCons (tVar 3) tNil)) (by rfl) g_law_refused kR lkR hcR bR scRefused rfl (Or.inl rfl) (refused_gives R B) TB rfl (List.mem_singleton.mpr rfl) (fun z hz _ => by rw [List.mem_singleton.mp hz]; rfl) hr7 (lamS_by (sc := defScope sRefuses) (by decide +kernel)) rfl rfl rfl (pv 3) (fun _ _ _ _ _ => rfl) (fun A1 o1 s1 H1 E1 fl c1 hr5 => (pe_meth (pv 1) T.cl Mbelow Gbelow (hr5.mono (by decide)) bbelow .nil (passes_call (takes_of rfl rfl rfl rfl) (fun _ _ _ _ h => h)) (pa_cons (pv 3) pa_nil))))))))) (pss_one
      (ps_ret pe_bl)) pss_nil)
      (pss_cons
      (ps_if (pt_not (pt_val (pe_lamcall2 (j := 3) (k := 5) (T := [(Pt, lamQ)]) (TT := TRef K Cn) (t := fun E => tMeth Cr "course" (spAsk K Cr Cn okCourse) [] E (tVar 1) (tCons (tVar 3) tNil)) (by rfl) g_law_refused kR lkR hcR bR scRefused rfl (Or.inl rfl) (refused_gives R B) TB rfl (List.mem_singleton.mpr rfl) (fun z hz _ => by rw [List.mem_singleton.mp hz]; rfl) hr7 (lamS_by (sc := defScope sRefuses) (by decide +kernel)) rfl rfl rfl (pv 3) (fun _ _ _ _ _ => rfl) (fun A1 o1 s1 H1 E1 fl c1 hr5 => (pe_meth (pv 1) T.cl Mcourse Gcourse (hr5.mono (by decide)) bcourse .nil (passes_call (takes_of rfl rfl rfl rfl) (fun _ _ _ _ h => h)) (pa_cons (pv 3) pa_nil)))))) (pss_one
      (ps_ret pe_bl)) pss_nil)
      (pss_cons
      (ps_if (pt_not (pt_val (pe_lamcall2 (j := 3) (k := 5) (T := [(Pt, lamQ)]) (TT := TRef K Cn) (t := fun E => tMeth Cr "depth" (spAsk K Cr Cn okDepth) [] E (tVar 1) (tCons (tVar 3) tNil)) (by rfl) g_law_refused kR lkR hcR bR scRefused rfl (Or.inl rfl) (refused_gives R B) TB rfl (List.mem_singleton.mpr rfl) (fun z hz _ => by rw [List.mem_singleton.mp hz]; rfl) hr7 (lamS_by (sc := defScope sRefuses) (by decide +kernel)) rfl rfl rfl (pv 3) (fun _ _ _ _ _ => rfl) (fun A1 o1 s1 H1 E1 fl c1 hr5 => (pe_meth (pv 1) T.cl Mdepth Gdepth (hr5.mono (by decide)) bdepth .nil (passes_call (takes_of rfl rfl rfl rfl) (fun _ _ _ _ h => h)) (pa_cons (pv 3) pa_nil)))))) (pss_one
      (ps_ret pe_bl)) pss_nil)
      (pss_cons
      (ps_if (PW.pt (pw_and (pt_cmpR (op_neD hu64) (pv 3) pe_str (nomark _)) (pw_and1 (pt_not (pt_val (pe_lamcall2 (j := 3) (k := 5) (T := [(Pt, lamQ)]) (TT := TRef K Cn) (t := fun E => tMeth Cr "above" (spAboveM K Cr Cn) [] E (tVar 1) (tCons (tVar 3) tNil)) (by rfl) g_law_refused kR lkR hcR bR scRefused rfl (Or.inl rfl) (refused_gives R B) TB rfl (List.mem_singleton.mpr rfl) (fun z hz _ => by rw [List.mem_singleton.mp hz]; rfl) hr7 (lamS_by (sc := defScope sRefuses) (by decide +kernel)) rfl rfl rfl (pv 3) (fun _ _ _ _ _ => rfl) (fun A1 o1 s1 H1 E1 fl c1 hr5 => (pe_meth (pv 1) T.cl Mabove Gabove (hr5.mono (by decide)) babove .nil (passes_call (takes_of rfl rfl rfl rfl) (fun _ _ _ _ h => h)) (pa_cons (pv 3) pa_nil))))))))) (pss_one
      (ps_ret pe_bl)) pss_nil)
      (pss_one
      (ps_ret (pe_lamcall2 (j := 3) (k := 5) (T := [(Pt, lamQ)]) (TT := TRef K Cn) (t := fun E => tMeth Cr "upstream" (spAsk K Cr Cn okUp) [] E (tVar 1) (tCons (tVar 3) tNil)) (by rfl) g_law_refused kR lkR hcR bR scRefused rfl (Or.inl rfl) (refused_gives R B) TB rfl (List.mem_singleton.mpr rfl) (fun z hz _ => by rw [List.mem_singleton.mp hz]; rfl) hr7 (lamS_by (sc := defScope sRefuses) (by decide +kernel)) rfl rfl rfl (pv 3) (fun _ _ _ _ _ => rfl) (fun A1 o1 s1 H1 E1 fl c1 hr5 => (pe_meth (pv 1) T.cl Mupstream Gupstream (hr5.mono (by decide)) bupstream .nil (passes_call (takes_of rfl rfl rfl rfl) (fun _ _ _ _ h => h)) (pa_cons (pv 3) pa_nil))))))))))), ?_⟩
    refine ⟨_, rfl, _, rfl, p, l, AR, rfl, hB, hR, hG, hlp, fun H1 x u1 B1 sh hno hxp => ?_⟩
    have T1 := tabs_upto hB u1 hT
    have R1 := rivUp hB u1 Rv0
    obtain ⟨dx, tw, tr, db, dc, da, du, o, h1, _⟩ := R1.ex
    have vac : ∀ {Z : Prop} {y : Str}, x = .str y → y ∈ namesOf AR → Z := fun e hy => by
      subst e
      rw [show hasV AR (.str _) = true from decide_eq_true hy] at hno
      cases hno
    have ask : ∀ {m : Str} {ok : Hp → Addr → List (Addr × Row) → Str → V → Prop} {Hk : Hp} {Q : VK}, (["weirs", "_rows", "_below", "_courses", "_above", "_upstream", "_deepest_first"] : List Str).contains m = false → ExtN H1 Hk → Tabs [(Pt, lamQ)] Hk →
        (∀ H', ExtN H1 H' → Tabs [(Pt, lamQ)] H' → Q (.bl true) H') → tLam2 [(Pt, lamQ)] (TRef K Cn) 3 (fun E => tMeth Cr m (spAsk K Cr Cn ok) [] E (tVar 1) (tCons (tVar 3) tNil)) [some (.ref p), some (.ref q), some (.ref l), some x] Hk Q := fun hm e t kk =>
      ⟨t, x, rfl, fun H5 e5 t5 Q' => ⟨_, rfl, q, dx, _, rfl, (e.trans e5) _ _ h1 (fun _ z => by cases z), g7m hm, _, rfl, q, x, AR, rfl, rivE (e.trans e5) R1, shownE (e.trans e5) sh, fun y ey hy v ev => vac ey hy,
        fun hb d nd => ⟨rfl, d, rfl, upd_same, shownE ((e.trans e5).trans (ExtN.of (same_upd nd))) sh, kk _ ((e.trans e5).trans (ExtN.of (same_upd nd))) (t5.ext (same_upd nd))⟩⟩⟩
    refine ⟨_, rfl, _, rfl, q, dx, _, _, rfl, h1, ⟨AR, R1, shown_ty sh, rfl⟩, _, rfl, ?_⟩
    rw [hno]
    refine iteF ?_
    refine ask (by decide +kernel) (ExtN.refl _) T1 fun H2 e2 t2 => ⟨_, rfl, iteF ?_⟩
    refine ask (by decide +kernel) e2 t2 fun H3 e3 t3 => ⟨_, rfl, iteF ?_⟩
    refine ask (by decide +kernel) e3 t3 fun H4 e4 t4 => ⟨_, rfl, iteF ?_⟩
    have fin : ∀ H5, ExtN H1 H5 → Tabs [(Pt, lamQ)] H5 → Q (.bl true) H5 := fun H5 e5 t5 => k H5 (fun b o hb hn ht => e5 _ _ (u1 _ _ hb hn) ht) (bagE e5 B1) t5
    obtain ⟨dd, q1, q2, q3⟩ := shown_dp (shownE e4 sh)
    refine ⟨_, rfl, dd, .str "sea", q1, .str "sea", q2, shaped_str sea_plain, _, rfl, ?_⟩
    have hcase : (PyData.eqv dd (.str "sea") = true ∧ x = .str "sea") ∨ (PyData.eqv dd (.str "sea") = false ∧ x ≠ .str "sea") := by
      rcases q3 with ⟨y, rfl, rfl⟩ | ⟨no, nod⟩
      · by_cases hy : y = "sea"
        · subst hy
          exact .inl ⟨by simp only [PyData.eqv]; decide +kernel, rfl⟩
        · refine .inr ⟨?_, fun z => hy (V.str.inj z)⟩
          simp only [PyData.eqv]
          simpa using hy
      · refine .inr ⟨?_, no _⟩
        cases dd with
        | str y => exact absurd rfl (nod y)
        | _ => simp only [PyData.eqv]
    rcases hcase with ⟨e, _⟩ | ⟨e, xs⟩
    · rw [e]
      refine iteF ?_
      exact ask (by decide +kernel) e4 t4 fun H5 e5 t5 => fin H5 e5 t5
    · rw [e]
      refine iteT ?_
      refine ⟨t4, x, rfl, fun H5 e5 t5 Q' => ⟨_, rfl, q, dx, _, rfl, (e4.trans e5) _ _ h1 (fun _ z => by cases z), g7m (by decide +kernel), _, rfl, q, x, AR, rfl, rivE (e4.trans e5) R1, shownE (e4.trans e5) sh, fun y ey hy v ev => ?_,
        fun hb hs d nd => ⟨rfl, d, rfl, upd_same, shownE ((e4.trans e5).trans (ExtN.of (same_upd nd))) sh, ⟨_, rfl, iteF ?_⟩⟩⟩⟩
      · rcases List.mem_append.mp hy with h | h
        · exact vac ey h
        · rw [List.mem_singleton.mp h] at ey
          exact absurd ey xs
      · exact ask (by decide +kernel) ((e4.trans e5).trans (ExtN.of (same_upd nd))) (t5.ext (same_upd nd)) fun H6 e6 t6 => fin H6 e6 t6
end
end K0
end

/-! ## K1M -/
section
set_option Elab.async false
set_option linter.all false
set_option maxRecDepth 100000
set_option maxHeartbeats 4000000
namespace K0
open PySem PySem.Spec PyProof.Rows L2 LamX
abbrev scLaw_N : List Str := ["_law_script", "_law_at", "_law_bag_here", "_law_rows", "_law_handed", "_law_courses", "_law_river_here", "_law_turn", "_law_weir", "_law_below"]
abbrev scLaw_S : Stmt := sLaw
theorem scLaw : FnScope scLaw_N ["_law_script"] (defScope sLaw) := ⟨rfl, rfl, rfl, by decide +kernel, rfl, by decide +kernel, by decide +kernel⟩
def spLaw (K : PySem.W.Frag) (T : List (Addr × Str)) : Sp := fun vs H Q _ => ∃ (a : Addr) (ns : List Int), vs = [.ref a] ∧ SqL K H a (ns.map V.int) ∧ ns.length ≤ 63 ∧ Tabs T H ∧ ∀ H', Q (.bl true) H'
theorem paired_imp {α β : Type} {R S : α → β → Prop} (h : ∀ a b, R a b → S a b) : ∀ {l : List α} {m : List β}, Paired R l m → Paired S l m
  | _, _, .nil => .nil
  | _, _, .cons a b => .cons (h _ _ a) (paired_imp h b)
theorem paired_snoc {α β : Type} {R : α → β → Prop} {a : α} {b : β} (h : R a b) : ∀ {l : List α} {m : List β}, Paired R l m → Paired R (l ++ [a]) (m ++ [b])
  | _, _, .nil => .cons h .nil
  | _, _, .cons c d => .cons c (paired_snoc h d)
theorem merge_k {f : Str → V} : ∀ {ms ns : List Str}, (ns ++ ms).Nodup → mergeK (kmap f ns) (ms.map fun x => ((Sum.inr x : Key), f x)) = kmap f (ns ++ ms)
  | [], ns, _ => by
    show kmap f ns = kmap f (ns ++ [])
    rw [List.append_nil]
  | m :: ms, ns, hd => by
    have hd2 : ((ns ++ [m]) ++ ms).Nodup := by
      rw [List.append_assoc]
      exact hd
    have hn : m ∉ ns := fun z => (List.nodup_append.mp hd).2.2 m z m List.mem_cons_self rfl
    show mergeK (putK (kmap f ns) (Sum.inr m) (f m)) (ms.map fun x => ((Sum.inr x : Key), f x)) = _
    rw [kmap_put hn, merge_k hd2, List.append_assoc]
    rfl
/-- what stands between the steps of the law -/
structure Lw (K : PySem.W.Frag) (T : List (Addr × Str)) (Cr : Addr) (H : Hp) (a : Addr) (xs : List V) (p q l c : Addr) (AR : List (Addr × Row)) : Prop where
  seq : (Rd H a (.lst xs) ∧ a ≠ p) ∨ ∀ H', SqL K H' a xs
  bag : BagAt H p
  riv : RivAt Cr H q AR
  rows : RowsAt H l AR
  lp : l ≠ p
  lst : ∃ ca : Str → Addr, H c = some (.dK (kmap (fun x => .ref (ca x)) (namesOf AR))) ∧ ∀ x ∈ namesOf AR, H (ca x) = some (.lst ((course (rowsOf AR) x).map V.str)) ∧ ca x ≠ p
  tabs : Tabs T H
theorem Lw.sq {K : PySem.W.Frag} {T : List (Addr × Str)} {Cr : Addr} {H : Hp} {a : Addr} {xs : List V} {p q l c : Addr} {AR : List (Addr × Row)} (h : Lw K T Cr H a xs p q l c AR) : SqL K H a xs := h.seq.elim (fun z => .inl z.1) fun z => z H
theorem Lw.lsts {K : PySem.W.Frag} {T : List (Addr × Str)} {Cr : Addr} {H : Hp} {a : Addr} {xs : List V} {p q l c : Addr} {AR : List (Addr × Row)} (h : Lw K T Cr H a xs p q l c AR) : LstsAt H c (namesOf AR) (course (rowsOf AR)) := by
  obtain ⟨ca, h1, h2⟩ := h.lst
  exact ⟨ca, h1, fun x hx => (h2 x hx).1⟩
theorem rd_uptoT {p a : Addr} {H H' : Hp} {xs : List V} (u : UptoT p H H') (n : a ≠ p) (r : Rd H a (.lst xs)) : Rd H' a (.lst xs) :=
  r.elim (fun e => .inl (u _ _ e n (fun _ z => by cases z))) fun ⟨o, e⟩ => .inr ⟨o, u _ _ e n (fun _ z => by cases z)⟩
theorem Lw.keep {K : PySem.W.Frag} {T : List (Addr × Str)} {Cr : Addr} {H H' : Hp} {a : Addr} {xs : List V} {p q l c : Addr} {AR : List (Addr × Row)} (h : Lw K T Cr H a xs p q l c AR) (u : UptoT p H H') (B : BagAt H' p) (t : Tabs T H') : Lw K T Cr H' a xs p q l c AR := by
  obtain ⟨b, hb, _⟩ := h.bag
  have kp : ∀ {x : Addr} {ho : HO}, H x = some ho → (∀ xs, ho ≠ .lst xs) → (∀ ps, ho ≠ .tbl ps) → H' x = some ho := fun e n1 n2 => u _ _ e (ne_of e hb (n1 b)) n2
  have tp : ∀ {c : Addr} {ns : List Str} {g : Str → List Str}, TupsAt H c ns g → TupsAt H' c ns g := fun t => by
    obtain ⟨ta, q1, q2⟩ := t.ex
    exact ⟨ta, kp q1 (fun _ z => by cases z) (fun _ z => by cases z), fun x hx => kp (q2 x hx) (fun _ z => by cases z) (fun _ z => by cases z)⟩
  refine ⟨?_, B, ?_, ⟨u _ _ h.rows.lst h.lp (fun _ z => by cases z), fun z hz => kp (h.rows.tup z hz) (fun _ z => by cases z) (fun _ z => by cases z)⟩, h.lp, ?_, t⟩
  · rcases h.seq with ⟨r, n⟩ | z
    · exact .inl ⟨rd_uptoT u n r, n⟩
    · exact .inr z
  · obtain ⟨dx, tw, tr, db, dc, da, du, o, h1, h2, h3, h4, h5, h6, h7, h8⟩ := h.riv.ex
    exact ⟨dx, tw, tr, db, dc, da, du, o, kp h1 (fun _ z => by cases z) (fun _ z => by cases z), kp h2 (fun _ z => by cases z) (fun _ z => by cases z), kp h3 (fun _ z => by cases z) (fun _ z => by cases z), fun q hq => kp (h4 q hq) (fun _ z => by cases z) (fun _ z => by cases z), kp h5 (fun _ z => by cases z) (fun _ z => by cases z), tp h6, tp h7, tp h8⟩
  · obtain ⟨ca, h1, h2⟩ := h.lst
    exact ⟨ca, kp h1 (fun _ z => by cases z) (fun _ z => by cases z), fun x hx => ⟨u _ _ (h2 x hx).1 (h2 x hx).2 (fun _ z => by cases z), (h2 x hx).2⟩⟩
theorem Lw.same {K : PySem.W.Frag} {T : List (Addr × Str)} {Cr : Addr} {H H' : Hp} {a : Addr} {xs : List V} {p q l c : Addr} {AR : List (Addr × Row)} (h : Lw K T Cr H a xs p q l c AR) (s : Same H H') : Lw K T Cr H' a xs p q l c AR :=
  h.keep (fun b o hb _ _ => s b o hb) (by obtain ⟨b, hb, hv⟩ := h.bag; exact ⟨b, s _ _ hb, hv⟩) (h.tabs.ext s)
/-- all functions of the text -/
structure All (P : Program) (w : World) (K : PySem.W.Frag) (mg : Str → Option Value) (base : Heap) (tS tM tL : Tok) (Cr Cn Cw Ch Pt : Addr) : Prop where
  B : Bl mg
  C : Gc mg tS tM tL
  T : Rv K mg Cr
  S : Ms K Cr
  M : Sm K Cr
  E : Eqs K mg Cr
  D : Nd P w K mg base Cr Cn
  R : Er K mg Cn Cw Ch
  Mm : Mf K mg
  bag : ∃ f fd, FnP K "_law_bag" sBag f fd ∧ mg "_law_bag" = some (.ref f)
  take : ∃ f fd, FnP K "_law_take" sTake f fd ∧ mg "_law_take" = some (.ref f)
  of : ∃ f fd, FnP K "_law_of" sOf f fd ∧ mg "_law_of" = some (.ref f)
  mixed : ∃ f fd, FnP K "_law_mixed" sMixed f fd ∧ mg "_law_mixed" = some (.ref f)
  names : ∃ f fd, FnP K "_law_names" sNames f fd ∧ mg "_law_names" = some (.ref f)
  river : ∃ f fd, FnP K "_law_river" sLRiver f fd ∧ mg "_law_river" = some (.ref f)
  course : ∃ f fd, FnP K "_law_course" sLCourse f fd ∧ mg "_law_course" = some (.ref f)
  refused : ∃ f fd, FnP K "_law_refused" sRefused f fd ∧ mg "_law_refused" = some (.ref f)
  odd : ∃ f fd, FnP K "_law_odd" sOdd f fd ∧ mg "_law_odd" = some (.ref f)
  told : ∃ f fd, FnP K "_law_told_right" sTold f fd ∧ mg "_law_told_right" = some (.ref f)
  weir : ∃ f fd, FnP K "_law_weir_right" sWeir f fd ∧ mg "_law_weir_right" = some (.ref f)
  equal : ∃ f fd, FnP K "_law_equal_right" sEqual f fd ∧ mg "_law_equal_right" = some (.ref f)
  whole : ∃ f fd, FnP K "_law_is_whole" sWhole f fd ∧ mg "_law_is_whole" = some (.ref f)
  refuses : ∃ f fd c, FnP K "_law_refuses_right" sRefuses f fd ∧ mg "_law_refuses_right" = some (.ref f) ∧ fd.code = .ref c ∧ TabB base mg c Pt
section
variable {P : Program} {w : World} {K : PySem.W.Frag} {mg : Str → Option Value} {base : Heap} {tS tM tL : Tok}
theorem ok_law {f Cr Cn Cw Ch Pt : Addr} {fd : FuncData} (F : FnP K "law" sLaw f fd) (L : All P w K mg base tS tM tL Cr Cn Cw Ch Pt) : FnOk P w K mg base CX0 9 f fd ["_law_script"] (spLaw K [(Pt, lamQ)]) := by
  obtain ⟨B, C, T, S, M, E, D, R, Mm, ⟨f1, d1, F_law_bag, g_law_bag⟩, ⟨f2, d2, F_law_take, g_law_take⟩, ⟨f3, d3, F_law_of, g_law_of⟩, ⟨f4, d4, F_law_mixed, g_law_mixed⟩, ⟨f5, d5, F_law_names, g_law_names⟩, ⟨f6, d6, F_law_river, g_law_river⟩, ⟨f7, d7, F_law_course, g_law_course⟩,
    ⟨f8, d8, F_law_refused, g_law_refused⟩, ⟨f9, d9, F_law_odd, g_law_odd⟩, ⟨fa, da, F_law_told_right, g_law_told_right⟩, ⟨fb, db, F_law_weir_right, g_law_weir_right⟩, ⟨fc, dc, F_law_equal_right, g_law_equal_right⟩, ⟨fe, de, F_law_is_whole, g_law_is_whole⟩, ⟨fg, dg, cg, F_law_refuses_right, g_law_refuses_right, hcg, TB⟩⟩ := L
  obtain ⟨fI, fdI, FI, MK⟩ := E.made
  obtain ⟨fA, fdA, FA, Mabove⟩ := S.above
  have GI : FnOk P w K mg base CX0 4 fI fdI ["self", "rows"] (spInit Cr) := ok_init FI Mm T B C
  have bI : Binds K fdI ["self", "rows"] [] := FI.bindsN fun _ _ _ _ _ _ us hl => match us, hl with | [_, _], _ => rfl
  have Gabove : FnOk P w K mg base (L2.CX P w) 4 fA fdA ["self", "weir"] (spAboveM K Cr Cn) := ok_aboveM FA D T C
  have babove : Binds K fdA ["self", "weir"] [] := FA.bindsN fun _ _ _ _ _ _ us hl => match us, hl with | [_, _], _ => rfl
  have G_law_bag : FnOk P w K mg base CX0 1 f1 d1 ["_law_script", "_law_at", "_law_salt"] (spBag K) := ok_bag F_law_bag B
  have b_law_bag : Binds K d1 ["_law_script", "_law_at", "_law_salt"] [] := F_law_bag.bindsN fun _ _ _ _ _ _ us hl => match us, hl with | [_, _, _], _ => rfl
  have G_law_take : FnOk P w K mg base CX0 1 f2 d2 ["_law_bag_here", "_law_many"] spTake := ok_take F_law_take B
  have b_law_take : Binds K d2 ["_law_bag_here", "_law_many"] [] := F_law_take.bindsN fun _ _ _ _ _ _ us hl => match us, hl with | [_, _], _ => rfl
  have G_law_course : FnOk P w K mg base CX0 1 f7 d7 ["_law_rows", "_law_weir"] spLCourse := ok_lcourse F_law_course B
  have b_law_course : Binds K d7 ["_law_rows", "_law_weir"] [] := F_law_course.bindsN fun _ _ _ _ _ _ us hl => match us, hl with | [_, _], _ => rfl
  have G_law_told_right : FnOk P w K mg base CX0 3 fa da ["_law_river_here", "_law_rows"] (spTold Cr) := ok_told F_law_told_right M S T B
  have b_law_told_right : Binds K da ["_law_river_here", "_law_rows"] [] := F_law_told_right.bindsN fun _ _ _ _ _ _ us hl => match us, hl with | [_, _], _ => rfl
  have G_law_weir_right : FnOk P w K mg base CX0 6 fb db ["_law_river_here", "_law_rows", "_law_courses", "_law_weir"] (spWeir Cr) := ok_weir F_law_weir_right D M S T B C
  have b_law_weir_right : Binds K db ["_law_river_here", "_law_rows", "_law_courses", "_law_weir"] [] := F_law_weir_right.bindsN fun _ _ _ _ _ _ us hl => match us, hl with | [_, _, _, _], _ => rfl
  have G_law_equal_right : FnOk P w K mg base CX0 6 fc dc ["_law_bag_here", "_law_river_here", "_law_rows"] (spEqual Cr) := ok_equal F_law_equal_right F_law_take F_law_mixed F_law_is_whole g_law_take g_law_mixed g_law_is_whole E Mm M S T B C
  have b_law_equal_right : Binds K dc ["_law_bag_here", "_law_river_here", "_law_rows"] [] := F_law_equal_right.bindsN fun _ _ _ _ _ _ us hl => match us, hl with | [_, _, _], _ => rfl
  have G_law_refuses_right : FnOk P w K mg base CX0 8 fg dg ["_law_bag_here", "_law_river_here", "_law_rows"] (spRefuses Cr [(Pt, lamQ)]) := ok_refuses F_law_refuses_right hcg TB F_law_take F_law_of F_law_odd F_law_refused g_law_take g_law_of g_law_odd g_law_refused R D M S T B C
  have b_law_refuses_right : Binds K dg ["_law_bag_here", "_law_river_here", "_law_rows"] [] := F_law_refuses_right.bindsN fun _ _ _ _ _ _ us hl => match us, hl with | [_, _, _], _ => rfl
  have G_law_river : FnOk P w K mg base CX0 4 f6 d6 ["_law_bag_here", "_law_many"] spLRiver := ok_lriver F_law_river ⟨B, ⟨f2, d2, F_law_take, g_law_take⟩, ⟨f3, d3, F_law_of, g_law_of⟩, ⟨f4, d4, F_law_mixed, g_law_mixed⟩, ⟨f5, d5, F_law_names, g_law_names⟩⟩
  have b_law_river : Binds K d6 ["_law_bag_here", "_law_many"] [] := F_law_river.bindsN fun _ _ _ _ _ _ us hl => match us, hl with | [_, _], _ => rfl
  refine F.ok scLaw (fun vs H Q E h => ?_) (fun cdv A outer s H vs Q X0 hr h => ?_)
  · obtain ⟨a, ns, rfl, _⟩ := h
    rfl
  · obtain ⟨a, ns, rfl, hS, hns, hT, k⟩ := h
    have hu64 := hr.units
    have hr5 : Room 5 _ := hr.mono (by decide)
    have hrabove : Room 4 _ := hr.mono (by decide)
    have hr_law_bag : Room 1 _ := hr.mono (by decide)
    have hr_law_take : Room 1 _ := hr.mono (by decide)
    have hr_law_river : Room 4 _ := hr.mono (by decide)
    have hr_law_course : Room 1 _ := hr.mono (by decide)
    have hr_law_told_right : Room 3 _ := hr.mono (by decide)
    have hr_law_weir_right : Room 6 _ := hr.mono (by decide)
    have hr_law_equal_right : Room 6 _ := hr.mono (by decide)
    have hr_law_refuses_right : Room 8 _ := hr
    refine ⟨_, PSs.nox (pss_cons
      (ps_for PassesOwn.never rfl (pi_range1 (by rfl) B.range (pa_cons (pe_callB (call_max2 rfl) (by rfl) B.max (by decide +kernel) (pa_cons pe_int (pa_cons (pe_callB (call_min2 rfl) (by rfl) B.min (by decide +kernel) (pa_cons pe_int (pa_cons (pe_callB (lenK (K := K)) (by rfl) B.len PySem.boot_len (pa_cons (pv 0) pa_nil)) pa_nil))) pa_nil))) pa_nil)) (pg_name (i := 1) scLaw.nd rfl (Or.inl rfl)) (pss_cons
      (ps_set (i := 2) scLaw.nd rfl (Or.inl rfl) (pe_call G_law_bag hr_law_bag (by rfl) g_law_bag F_law_bag.kp b_law_bag .nil pass0 (pa_cons (pv 0) (pa_cons (pv 1) (pa_cons pe_int pa_nil)))))
      (pss_cons
      (ps_set (i := 3) scLaw.nd rfl (Or.inr rfl) (pe_call G_law_river hr_law_river (by rfl) g_law_river F_law_river.kp b_law_river .nil pass0 (pa_cons (pv 2) (pa_cons (pe_op op_add pe_int (pe_call G_law_take hr_law_take (by rfl) g_law_take F_law_take.kp b_law_take .nil pass0 (pa_cons (pv 2) (pa_cons (pe_ifExp (pt_cmpR op_eq (pe_call G_law_take hr_law_take (by rfl) g_law_take F_law_take.kp b_law_take .nil pass0 (pa_cons (pv 2) (pa_cons pe_int pa_nil))) pe_int (nomark _)) pe_int pe_int) pa_nil)))) pa_nil))))
      (pss_cons
      (ps_asg (pe_tup (pa_cons (pe_callTy (listK (K := K)) (by rfl) B.list (by decide +kernel) (pa_cons (pv 3) pa_nil)) (pa_cons (pe_callTy (call_dictP rfl) (by rfl) B.dict (by decide +kernel) (pa_cons (pe_lc (own := [("_law_weir", 8), ("_law_below", 9)])  (tt := tYes) (by rfl) scLaw.nd (pi_list (pv 3)) (blkOk_by (own := [("_law_weir", 8), ("_law_below", 9)]) (N := scLaw_N) (sc := defScope scLaw_S) (by decide +kernel)) (fun _ _ _ _ _ => (tgK (K := K) (n := 2) (by rfl) (pgs_cons (pg_name (i := 8) scLaw.nd rfl (Or.inl rfl)) (pgs_cons (pg_name (i := 9) scLaw.nd rfl (Or.inl rfl)) pgs_nil)))) (fun _ _ _ _ _ => pts_nil) (fun _ _ _ _ _ => (pe_tup (pa_cons (pv 8) (pa_cons (pe_call G_law_course hr_law_course (by rfl) g_law_course F_law_course.kp b_law_course .nil pass0 (pa_cons (pv 3) (pa_cons (pv 8) pa_nil))) pa_nil))))) pa_nil)) pa_nil))) (tgK (K := K) (n := 2) (by rfl) (pgs_cons (pg_name (i := 4) scLaw.nd rfl (Or.inl rfl)) (pgs_cons (pg_name (i := 5) scLaw.nd rfl (Or.inr rfl)) pgs_nil))))
      (pss_cons
      (ps_set (i := 6) scLaw.nd rfl (Or.inr rfl) (pe_make MK GI hr5 (by rfl) T.mgC bI .nil pass0 (pa_cons (pv 4) pa_nil)))
      (pss_cons
      (ps_if (pt_cmpR (op_neD hu64) (pv 4) (pv 3) (nomark _)) (pss_one
      (ps_ret pe_bl)) pss_nil)
      (pss_cons
      (ps_asg pe_non (pg_sub (pv 4) (pe_call G_law_take hr_law_take (by rfl) g_law_take F_law_take.kp b_law_take .nil pass0 (pa_cons (pv 2) (pa_cons (pe_callB (lenK (K := K)) (by rfl) B.len PySem.boot_len (pa_cons (pv 3) pa_nil)) pa_nil))) set_list))
      (pss_cons
      (ps_expr (pe_bm PySem.F.plainAttrs_list PySem.F.slot_list_append PySem.F.type_list_append mt_append (pv 4) (pa_cons (pe_tup (pa_cons pe_str (pa_cons pe_str pa_nil))) pa_nil)))
      (pss_cons
      (ps_for PassesOwn.never rfl (pi_range1 (by rfl) B.range (pa_cons pe_int pa_nil)) (pg_name (i := 7) scLaw.nd rfl (Or.inl rfl)) (pss_cons
      (ps_if (PW.pt (pw_or (pt_not (pt_val (pe_call G_law_told_right hr_law_told_right (by rfl) g_law_told_right F_law_told_right.kp b_law_told_right .nil pass0 (pa_cons (pv 6) (pa_cons (pv 3) pa_nil))))) (pw_or1 (pt_not (pt_val (pe_call G_law_refuses_right hr_law_refuses_right (by rfl) g_law_refuses_right F_law_refuses_right.kp b_law_refuses_right .nil pass0 (pa_cons (pv 2) (pa_cons (pv 6) (pa_cons (pv 3) pa_nil))))))))) (pss_one
      (ps_ret pe_bl)) pss_nil)
      (pss_cons
      (ps_if (pt_not (pt_val (pe_callB (cr_all rfl) (by rfl) B.all (by decide +kernel) (pa_cons (pe_lc (own := [("_law_weir", 8), ("_law_below", 9)])  (tt := tYes) (by rfl) scLaw.nd (pi_list (pv 3)) (blkOk_by (own := [("_law_weir", 8), ("_law_below", 9)]) (N := scLaw_N) (sc := defScope scLaw_S) (by decide +kernel)) (fun _ _ _ _ _ => (tgK (K := K) (n := 2) (by rfl) (pgs_cons (pg_name (i := 8) scLaw.nd rfl (Or.inl rfl)) (pgs_cons (pg_name (i := 9) scLaw.nd rfl (Or.inl rfl)) pgs_nil)))) (fun _ _ _ _ _ => pts_nil) (fun _ _ _ _ _ => (pe_call G_law_weir_right hr_law_weir_right (by rfl) g_law_weir_right F_law_weir_right.kp b_law_weir_right .nil pass0 (pa_cons (pv 6) (pa_cons (pv 3) (pa_cons (pv 5) (pa_cons (pv 8) pa_nil))))))) pa_nil)))) (pss_one
      (ps_ret pe_bl)) pss_nil)
      (pss_one
      (ps_if (pt_cmpR (op_neD hu64) (pe_meth (pv 6) T.cl Mabove Gabove hrabove babove .nil passF (pa_cons pe_str pa_nil)) (pe_callTy (tupleK (K := K)) (by rfl) B.tuple (by decide +kernel) (pa_cons (pe_lc (own := [("_law_weir", 8), ("_law_below", 9)])   (by rfl) scLaw.nd (pi_list (pv 3)) (blkOk_by (own := [("_law_weir", 8), ("_law_below", 9)]) (N := scLaw_N) (sc := defScope scLaw_S) (by decide +kernel)) (fun _ _ _ _ _ => (tgK (K := K) (n := 2) (by rfl) (pgs_cons (pg_name (i := 8) scLaw.nd rfl (Or.inl rfl)) (pgs_cons (pg_name (i := 9) scLaw.nd rfl (Or.inl rfl)) pgs_nil)))) (fun _ _ _ _ _ => (pts_one (pt_cmpR op_eq (pv 9) pe_str (nomark _)))) (fun _ _ _ _ _ => (pv 8))) pa_nil)) (nomark _)) (pss_one
      (ps_ret pe_bl)) pss_nil)))))
      (pss_one
      (ps_if (pt_not (pt_val (pe_call G_law_equal_right hr_law_equal_right (by rfl) g_law_equal_right F_law_equal_right.kp b_law_equal_right .nil pass0 (pa_cons (pv 2) (pa_cons (pv 6) (pa_cons (pv 3) pa_nil)))))) (pss_one
      (ps_ret pe_bl)) pss_nil)))))))))))
      (pss_one
      (ps_ret pe_bl))), ?_⟩
    refine ⟨_, rfl, a, _, rfl, .inl hS, _, _, rfl, _, _, rfl, _, rfl, ?_⟩
    have hN : ∃ N : Int, (if (if (((ns.map V.int).length : Nat) : Int) < 3 then (((ns.map V.int).length : Nat) : Int) else 3) > 1 then (if (((ns.map V.int).length : Nat) : Int) < 3 then (((ns.map V.int).length : Nat) : Int) else 3) else 1) = N ∧ 1 ≤ N ∧ N ≤ 3 := ⟨_, rfl, by split <;> split <;> omega, by split <;> split <;> omega⟩
    obtain ⟨N, eN, hN1, hN2⟩ := hN
    rw [eN]
    clear eN
    refine ⟨by omega, by omega, ?_⟩
    refine for_range (n := N.toNat) (lo := 0) (fun i σ H2 => ∃ v1 v2 v3 v4 v5 v6 v7 v8 v9, σ = [some (.ref a), v1, v2, v3, v4, v5, v6, v7, v8, v9] ∧ SqL K H2 a (ns.map V.int) ∧ Tabs [(Pt, lamQ)] H2)
      ⟨_, _, _, _, _, _, _, _, _, rfl, hS, hT⟩ ?_ ?_
    · rintro i σ H2 hi ⟨v1, v2, v3, v4, v5, v6, v7, v8, v9, rfl, hS2, hT2⟩
      have hi3 : i < 3 := by omega
      refine ⟨_, rfl, _, rfl, a, ns, _, _, rfl, hS2, hns, by omega, by omega, by decide, by decide, fun H3 p s3 np B3 => ?_⟩
      have hT3 := hT2.ext s3
      have sq : (∀ H', SqL K H' a (ns.map V.int)) ∨ ((∃ u, H2 a = some u) ∧ a ≠ p) := by
        rcases hS2 with (r | ⟨o, r⟩) | r
        · exact .inr ⟨⟨_, r⟩, ne_of_none r np⟩
        · exact .inr ⟨⟨_, r⟩, ne_of_none r np⟩
        · exact .inl fun H' => .inr r
      refine ⟨_, rfl, _, rfl, _, rfl, p, 8, rfl, B3, by decide, by decide, fun r8 x8 _ _ hx8 => ⟨rfl, _, rfl, ?_⟩⟩
      have u4 : Upto p H3 (upd H3 p (.lst x8)) := Upto.at_
      have B4 : BagAt (upd H3 p (.lst x8)) p := ⟨x8, upd_same, hx8⟩
      generalize upd H3 p (.lst x8) = H4 at u4 B4
      refine split_if' (α := Int) (R := fun c => 0 < c ∧ c ≤ 40) (C := ?C) ?use ?key
      case use =>
        intro key
        refine ite2 (fun _ => ?_) (fun _ => ?_)
        · generalize h40 : (40 : Int) = c40
          exact key c40 ⟨by omega, by omega⟩
        · exact key 6 ⟨by decide, by decide⟩
      case key =>
        rintro many ⟨hm1, hm2⟩
        refine ⟨p, many, rfl, B4, hm1, by omega, fun r x4 hr0 hr1 hx4 => ⟨1, r, rfl, rfl, ?_⟩⟩
        obtain ⟨rn, rfl⟩ : ∃ rn : Nat, r = (rn : Int) := ⟨r.toNat, by omega⟩
        have u45 : Upto p H3 (upd H4 p (.lst x4)) := u4.trans Upto.at_
        have B45 : BagAt (upd H4 p (.lst x4)) p := ⟨x4, upd_same, hx4⟩
        generalize upd H4 p (.lst x4) = H45 at u45 B45
        refine ⟨p, 1 + rn, by show [V.ref p, V.int ((1 : Int) + (rn : Int))] = [V.ref p, V.int ((1 + rn : Nat) : Int)]; rw [show ((1 : Int) + (rn : Int)) = ((1 + rn : Nat) : Int) by omega], B45, by omega, by omega, fun H5 l AR u5 B5 nl lp hR hG hlen => ?_⟩
        have u35 := u45.trans u5
        have hT5 := tabs_upto B3 u35 hT3
        have u25 : UptoT p H2 H5 := fun b o hb hn _ => u35 _ _ (s3 _ _ hb) hn
        have hRm := hG.most
        have hR1 := hG.one
        have hAl : (rowsOf AR).length = AR.length := List.length_map _
        have hnl : (namesOf AR).length = AR.length := nmlen AR
        refine ⟨_, rfl, l, _, rfl, .inl (.inl (.inl hR.lst)), fun hl nhl => ?_⟩
        have s6 : Same H5 (upd H5 hl (.lst (AR.map fun q => V.ref q.1))) := same_upd nhl
        have whl : (upd H5 hl (.lst (AR.map fun q => V.ref q.1))) hl = _ := upd_same
        have hlp : hl ≠ p := by
          obtain ⟨b, hb, _⟩ := B5
          exact (ne_of_none hb nhl).symm
        have nhl2 : H2 hl = none := by
          cases e : H2 hl with
          | none => rfl
          | some o =>
            have := u35 _ _ (s3 _ _ e) hlp
            rw [this] at nhl
            cases nhl
        generalize upd H5 hl (.lst (AR.map fun q => V.ref q.1)) = H6 at s6 whl
        refine ⟨_, rfl, l, rfl, ⟨_, .inl (.inl (s6 _ _ hR.lst))⟩, fun D hD => ?_⟩
        have hnd := hG.nm.nd
        have rowat : ∀ {i : Nat} (hi : i < AR.length), (namesOf AR)[i]? = some AR[i].2.1 := fun {i} hi => by
          show (((AR.map (·.2)).map (·.1)))[i]? = _
          rw [List.getElem?_map, List.getElem?_map, List.getElem?_eq_getElem hi]
          rfl
        refine lc_list (K := K) (a := l) (xs := AR.map fun q => V.ref q.1) (fun j Hk => Same H6 Hk ∧ ∃ (ts : List Addr) (ca : Str → Addr), Hk D = some (.lst (ts.map V.ref)) ∧ Paired (fun t (kv : Key × V) => Hk t = some (.tup [kV kv.1, kv.2])) ts (((namesOf AR).take j).map fun x => ((Sum.inr x : Key), V.ref (ca x))) ∧ ts.length = j ∧
            ∀ x ∈ (namesOf AR).take j, Hk (ca x) = some (.lst ((course (rowsOf AR) x).map V.str)) ∧ ca x ≠ p ∧ ca x ≠ D ∧ ca x ≠ hl)
          ⟨same_upd hD, [], fun _ => 0, upd_same, by rw [List.take_zero]; exact .nil, rfl, fun x hx => by rw [List.take_zero] at hx; cases hx⟩ (fun j Hk hj h => .inl (.inl (h.1 _ _ (s6 _ _ hR.lst)))) ?_ ?_
        · rintro j x Hk hx ⟨sk, ts, ca, hDk, hpk, htl, hck⟩
          have hj : j < AR.length := by
            have := (List.getElem?_eq_some_iff.mp hx).1
            rw [List.length_map] at this
            exact this
          have ex := row_at hx hj
          subst ex
          have hn := rowat hj
          have sk6 := s6.trans sk
          refine ⟨AR[j].1, _, rfl, .inl (.inl (sk6 _ _ (hR.tup _ (List.getElem_mem hj)))), rfl, _, _, rfl, _, _, rfl, rfl, rfl, ?_⟩
          unfold tYes
          refine iteT ?_
          refine ⟨_, rfl, _, rfl, _, rfl, l, AR, AR[j].2.1, rfl, hR.same sk6, hG, List.mem_of_getElem? hn, fun Hc cc sc nc hcc => ⟨by show 2 ≤ _; rw [sizeLine_eq]; omega, fun t nt => ?_⟩⟩
          have st := same_upd nt (o := .tup [.str AR[j].2.1, .ref cc])
          have skt := sc.trans st
          have Dt : D ≠ t := ne_of_none (sc _ _ hDk) nt
          have Dc : D ≠ cc := ne_of_none hDk nc
          have hni : AR[j].2.1 ∉ (namesOf AR).take j := nodup_take hnd hn
          have ecn : ∀ x ∈ (namesOf AR).take j, (if x = AR[j].2.1 then cc else ca x) = ca x := fun x hx => if_neg fun z : x = AR[j].2.1 => hni (by rw [← z]; exact hx)
          refine ⟨_, skt _ _ hDk, ?_, ?_, ts ++ [t], fun z => if z = AR[j].2.1 then cc else ca z, ?_, ?_, ?_, ?_⟩
          · rw [List.length_map, htl]
            exact small1000 (by omega)
          · intro b o hb
            rw [upd_ne (ne_of_none hb hD)]
            exact skt _ _ (sk _ _ hb)
          · rw [upd_same, List.map_append]
            rfl
          · rw [List.take_add_one, hn, List.map_append]
            have em : ((namesOf AR).take j).map (fun x => ((Sum.inr x : Key), V.ref (if x = AR[j].2.1 then cc else ca x))) = ((namesOf AR).take j).map fun x => ((Sum.inr x : Key), V.ref (ca x)) := List.map_congr_left fun x hx => by rw [ecn x hx]
            rw [em]
            refine paired_snoc ?_ (paired_imp (fun z kv e => (upd_ne (ne_of e hDk (fun z => by cases z))).trans (skt _ _ e)) hpk)
            show (upd (upd Hc t (.tup [.str AR[j].2.1, .ref cc])) D (.lst (ts.map V.ref ++ [.ref t]))) t = some (.tup [kV (Sum.inr AR[j].2.1), V.ref (if AR[j].2.1 = AR[j].2.1 then cc else ca AR[j].2.1)])
            rw [if_pos rfl, upd_ne Dt.symm, upd_same]
            rfl
          · rw [List.length_append, htl]
            rfl
          · intro x hx
            rw [List.take_add_one, hn] at hx
            rcases List.mem_append.mp hx with hx | hx
            · dsimp only
              rw [ecn x hx]
              obtain ⟨q1, q2, q3, q4⟩ := hck x hx
              exact ⟨(upd_ne q3).trans (skt _ _ q1), q2, q3, q4⟩
            · have hx := List.mem_singleton.mp (show x ∈ [AR[j].2.1] from hx)
              dsimp only
              rw [if_pos hx, hx]
              refine ⟨(upd_ne Dc.symm).trans (st _ _ hcc), ?_, Dc.symm, (ne_of_none (sk _ _ whl) nc).symm⟩
              obtain ⟨b, hb, _⟩ := B5
              exact (ne_of_none (sk6 _ _ hb) nc).symm
        rintro Hk ⟨sk, ts, ca, hDk, hpk, htl, hck⟩
        rw [List.take_of_length_le (by rw [hnl, List.length_map]; exact Nat.le_refl _)] at hpk hck
        refine ⟨D, ts, _, rfl, .inl (.inl hDk), paired_imp (fun z kv e => .inl (.inl e)) hpk, fun c nc => ?_⟩
        have hmk := merge_k (f := fun x => V.ref (ca x)) (ns := []) (ms := namesOf AR) (by simpa using hnd)
        rw [show (kmap (fun x => V.ref (ca x)) ([] : List Str)) = [] from rfl, List.nil_append] at hmk
        rw [hmk]
        have s7 : Same Hk (upd Hk c (.dK (kmap (fun x => V.ref (ca x)) (namesOf AR)))) := same_upd nc
        have wc : (upd Hk c (.dK (kmap (fun x => V.ref (ca x)) (namesOf AR)))) c = some (.dK (kmap (fun x => V.ref (ca x)) (namesOf AR))) := upd_same
        generalize upd Hk c (.dK (kmap (fun x => V.ref (ca x)) (namesOf AR))) = H7 at s7 wc
        refine ⟨by show 2 ≤ _; rw [sizeLine_eq]; omega, fun tp ntp => ?_⟩
        have s8 : Same H7 (upd H7 tp (.tup [.ref hl, .ref c])) := same_upd ntp
        have wtp : (upd H7 tp (.tup [.ref hl, .ref c])) tp = some (.tup [.ref hl, .ref c]) := upd_same
        generalize upd H7 tp (.tup [.ref hl, .ref c]) = H8 at s8 wtp
        refine ⟨tp, _, rfl, .inl (.inl wtp), rfl, _, _, rfl, _, _, rfl, rfl, ?_⟩
        have s68 := (sk.trans s7).trans s8
        have s58 := s6.trans s68
        have hR8 := hR.same s58
        have hhl8 : RowsAt H8 hl AR := ⟨s68 _ _ whl, hR8.tup⟩
        refine ⟨_, rfl, fun q dx nx ndx hne => ?_⟩
        have sN : Same H8 (upd (upd H8 dx (.own q)) q (.ins Cr dx [])) := (same_upd ndx).trans (same_upd (by rw [upd_ne hne.symm]; exact nx))
        refine ⟨q, hl, dx, AR, rfl, upd_same, hhl8.same sN, hG, fun H9 u9 R9 => ⟨rfl, ?_⟩⟩
        have s9 : Same H8 H9 := fun b o hb => u9 b o (sN b o hb) (ne_of_none hb nx)
        have hR9 := hR8.same s9
        have hhl9 := hhl8.same s9
        have shr := (shaped_rows (good_plain hG)).2
        have eqr : PyData.eqv (.list ((rowsOf AR).map rowD)) (.list ((rowsOf AR).map rowD)) = true := by
          simp only [PyData.eqv]
          rw [eqv_rows]
          exact decide_eq_true rfl
        refine ⟨_, rfl, _, rfl, _, _, .lst (.of hhl9.lst) (dp_rows hhl9.tup), .lst (.of hR9.lst) (dp_rows hR9.tup), shr, shr, _, rfl, ?_⟩
        rw [eqr]
        refine iteF ?_
        have s59 := s58.trans s9
        have B9 : BagAt H9 p := by
          obtain ⟨b, hb, hv⟩ := B5
          exact ⟨b, s59 _ _ hb, hv⟩
        refine ⟨_, rfl, _, rfl, _, rfl, l, _, rfl, .inl (.inl (.inl hR9.lst)), p, ((AR.map fun q => V.ref q.1).length : Int), rfl, B9, by rw [List.length_map]; omega, by rw [List.length_map]; omega, fun r9 x9 hr90 hr91 hx9 => ?_⟩
        have u10 : Upto p H9 (upd H9 p (.lst x9)) := Upto.at_
        have B10 : BagAt (upd H9 p (.lst x9)) p := ⟨x9, upd_same, hx9⟩
        have whl10 : (upd H9 p (.lst x9)) hl = some (.lst (AR.map fun q => V.ref q.1)) := (upd_ne hlp).trans hhl9.lst
        generalize upd H9 p (.lst x9) = H10 at u10 B10 whl10
        have hix : ixN (AR.map fun q => V.ref q.1).length r9 = some r9.toNat := by
          unfold ixN
          rw [if_pos (by omega), if_pos (by omega)]
        refine ⟨hl, _, r9, r9.toNat, rfl, rfl, whl10, hix, ?_⟩
        have whl11 : (upd H10 hl (.lst ((AR.map fun q => V.ref q.1).set r9.toNat .non))) hl = some (.lst ((AR.map fun q => V.ref q.1).set r9.toNat .non)) := upd_same
        have u911 : ∀ b o, H9 b = some o → b ≠ p → b ≠ hl → (upd H10 hl (.lst ((AR.map fun q => V.ref q.1).set r9.toNat .non))) b = some o := fun b o hb hp hh => (upd_ne hh).trans (u10 _ _ hb hp)
        have B11 : BagAt (upd H10 hl (.lst ((AR.map fun q => V.ref q.1).set r9.toNat .non))) p := by
          obtain ⟨b, hb, hv⟩ := B10
          exact ⟨b, (upd_ne hlp.symm).trans hb, hv⟩
        generalize upd H10 hl (.lst ((AR.map fun q => V.ref q.1).set r9.toNat .non)) = H11 at whl11 u911 B11
        refine ⟨_, rfl, .inl ⟨rfl, _, .inl (.inl whl11)⟩, by show 2 ≤ _; rw [sizeLine_eq]; omega, fun t3 nt3 => ?_⟩
        have s12 : Same H11 (upd H11 t3 (.tup [.str "odd", .str "sea"])) := same_upd nt3
        refine ⟨hl, _, _, rfl, rfl, s12 _ _ whl11, by rw [List.length_set, List.length_map]; exact small1000 (by omega), ?_⟩
        have u913 : ∀ b o, H9 b = some o → b ≠ p → b ≠ hl → (upd (upd H11 t3 (.tup [.str "odd", .str "sea"])) hl (.lst ((AR.map fun q => V.ref q.1).set r9.toNat .non ++ [.ref t3]))) b = some o := fun b o hb hp hh => (upd_ne hh).trans (s12 _ _ (u911 _ _ hb hp hh))
        have B13 : BagAt (upd (upd H11 t3 (.tup [.str "odd", .str "sea"])) hl (.lst ((AR.map fun q => V.ref q.1).set r9.toNat .non ++ [.ref t3]))) p := by
          obtain ⟨b, hb, hv⟩ := B11
          exact ⟨b, (upd_ne hlp.symm).trans (s12 _ _ hb), hv⟩
        generalize upd (upd H11 t3 (.tup [.str "odd", .str "sea"])) hl (.lst ((AR.map fun q => V.ref q.1).set r9.toNat .non ++ [.ref t3])) = H13 at u913 B13
        have L13 : Lw K [(Pt, lamQ)] Cr H13 a (ns.map V.int) p q l c AR := by
          obtain ⟨b5, hb5, _⟩ := B9
          have kp : ∀ {x : Addr} {ho : HO}, H9 x = some ho → (∀ xs, ho ≠ .lst xs) → H13 x = some ho := fun e n => u913 _ _ e (ne_of e hb5 (n b5)) (ne_of e hhl9.lst (n _))
          have tp' : ∀ {c : Addr} {ns : List Str} {g : Str → List Str}, TupsAt H9 c ns g → TupsAt H13 c ns g := fun t => by
            obtain ⟨ta, q1, q2⟩ := t.ex
            exact ⟨ta, kp q1 (fun _ z => by cases z), fun x hx => kp (q2 x hx) (fun _ z => by cases z)⟩
          have s79 := (s7.trans s8).trans s9
          refine ⟨?_, B13, ?_, ⟨u913 _ _ hR9.lst lp (ne_of_none hR.lst nhl), fun z hz => kp (hR9.tup z hz) (fun _ z => by cases z)⟩, lp, ⟨ca, kp (s9 _ _ (s8 _ _ wc)) (fun _ z => by cases z), fun x hx => ?_⟩, ?_⟩
          · rcases hS2 with r | r
            · have anp : a ≠ p := by
                rcases r with e | ⟨o, e⟩
                · exact ne_of_none e np
                · exact ne_of_none e np
              refine .inl ⟨?_, anp⟩
              rcases r with e | ⟨o, e⟩
              · exact .inl (u913 _ _ (s59 _ _ (u25 _ _ e anp (fun _ z => by cases z))) anp (ne_of_none e nhl2))
              · exact .inr ⟨o, u913 _ _ (s59 _ _ (u25 _ _ e anp (fun _ z => by cases z))) anp (ne_of_none e nhl2)⟩
            · exact .inr fun H' => .inr r
          · obtain ⟨dx, tw, tr, db, dc, da, du, o, h1, h2, h3, h4, h5, h6, h7, h8⟩ := R9.ex
            exact ⟨dx, tw, tr, db, dc, da, du, o, kp h1 (fun _ z => by cases z), kp h2 (fun _ z => by cases z), kp h3 (fun _ z => by cases z), fun q hq => kp (h4 q hq) (fun _ z => by cases z), kp h5 (fun _ z => by cases z), tp' h6, tp' h7, tp' h8⟩
          · obtain ⟨q1, q2, q3, q4⟩ := hck x hx
            exact ⟨u913 _ _ (s79 _ _ q1) q2 q4, q2⟩
          · intro z hz
            obtain ⟨ps, t1, t2, t3'⟩ := (hT5.ext s59) z hz
            refine ⟨ps, kp t1 (fun _ z => by cases z), t2, fun pos cv hc => ?_⟩
            obtain ⟨c2, e1, e2⟩ := t3' pos cv hc
            exact ⟨c2, e1, kp e2 (fun _ z => by unfold CodeO at z; cases z)⟩
        clear u913 u911 whl11 whl10 s9 sN s8 s7 sk hck hpk hDk B13
        refine ⟨_, rfl, by decide, by decide, ?_⟩
        refine for_range (n := 2) (lo := 0) (fun j σ H14 => ∃ v7 v8 v9, σ = [some (.ref a), some (.int (0 + (i : Int))), some (.ref p), some (.ref l), some (.ref hl), some (.ref c), some (.ref q), v7, v8, v9] ∧ Lw K [(Pt, lamQ)] Cr H14 a (ns.map V.int) p q l c AR)
          ⟨_, _, _, rfl, L13⟩ ?_ ?_
        · rintro j σ H14 hj ⟨v7, v8, v9, rfl, L14⟩
          refine ⟨_, rfl, _, rfl, q, l, AR, rfl, L14.riv, L14.rows, hG, fun H15 s15 => ⟨_, rfl, iteF ?_⟩⟩
          have L15 := L14.same s15
          refine ⟨_, rfl, _, rfl, _, rfl, p, q, l, AR, rfl, L15.bag, L15.riv, L15.rows, hG, L15.lp, L15.tabs, fun H16 u16 B16 t16 => ⟨_, rfl, iteF ?_⟩⟩
          have L16 := L15.keep u16 B16 t16
          refine ⟨_, rfl, l, rfl, ⟨_, .inl (.inl L16.rows.lst)⟩, fun D2 hD2 => ?_⟩
          refine lc_list (K := K) (a := l) (xs := AR.map fun q => V.ref q.1) (fun m Hk => Same H16 Hk ∧ Hk D2 = some (.lst ((List.replicate m true).map V.bl))) ⟨same_upd hD2, upd_same⟩ (fun m Hk hm h => .inl (.inl (h.1 _ _ L16.rows.lst))) ?_ ?_
          · rintro m x Hk hx ⟨sk, hDk⟩
            have hm : m < AR.length := by
              have := (List.getElem?_eq_some_iff.mp hx).1
              rw [List.length_map] at this
              exact this
            have ex := row_at hx hm
            subst ex
            have Lk := L16.same sk
            refine ⟨AR[m].1, _, rfl, .inl (.inl (Lk.rows.tup _ (List.getElem_mem hm))), rfl, _, _, rfl, _, _, rfl, rfl, rfl, ?_⟩
            unfold tYes
            refine iteT ?_
            refine ⟨_, rfl, _, rfl, _, rfl, _, rfl, q, l, c, AR, AR[m].2.1, rfl, Lk.riv, Lk.rows, hG, Lk.lsts, List.mem_of_getElem? (rowat hm), fun Hm sm => ?_⟩
            refine ⟨_, sm _ _ hDk, ?_, fun b o hb => ?_, ?_⟩
            · rw [List.length_map, List.length_replicate]
              exact small1000 (by omega)
            · rw [upd_ne (ne_of_none hb hD2)]
              exact sm _ _ (sk _ _ hb)
            · rw [upd_same, List.replicate_succ', List.map_append]
              rfl
          rintro H17 ⟨s17, hD17⟩
          refine ⟨D2, List.replicate (AR.map fun q => V.ref q.1).length true, rfl, .inl (.inl hD17), ?_⟩
          rw [show (List.replicate (AR.map fun q => V.ref q.1).length true).all id = true from List.all_eq_true.mpr fun b hb => (List.mem_replicate.mp hb).2]
          refine ⟨_, rfl, iteF ?_⟩
          have L17 := L16.same s17
          obtain ⟨dx7, tw7, tr7, db7, dc7, da7, du7, o7, i1, _⟩ := L17.riv.ex
          have hsm : ("sea" : Str) ∈ namesOf AR ++ [("sea" : Str)] := List.mem_append_right _ (List.mem_singleton.mpr rfl)
          refine ⟨_, rfl, q, dx7, _, rfl, i1, g7m (by decide +kernel), q, .str "sea", AR, rfl, L17.riv, .str _ sea_plain (by decide +kernel), fun y1 e1 hy1 v1 ev1 => ?_, fun hb hs => absurd rfl hs⟩
          have e1 := V.str.inj e1
          subst e1
          obtain ⟨t5, rfl, ht5⟩ := ev1
          refine ⟨_, rfl, l, rfl, ⟨_, .inl (.inl L17.rows.lst)⟩, fun D5 hD5 => ?_⟩
          refine lc_list (K := K) (a := l) (xs := AR.map fun q => V.ref q.1) (fun m H3 => Same H17 H3 ∧ H3 D5 = some (.lst ((((namesOf AR).take m).filter fun x => decide (lowR (rowsOf AR) x = ("sea" : Str))).map V.str))) ⟨same_upd hD5, by rw [upd_same, List.take_zero]; rfl⟩ (fun m H3 hm h => .inl (.inl (h.1 _ _ L17.rows.lst))) ?_ ?_
          · rintro m x H3 hx ⟨sk, hl3⟩
            have hm : m < AR.length := by
              have := (List.getElem?_eq_some_iff.mp hx).1
              rw [List.length_map] at this
              exact this
            have ex := row_at hx hm
            subst ex
            have hn := rowat hm
            have hlow : lowR (rowsOf AR) AR[m].2.1 = AR[m].2.2 := low_at hnd (List.mem_map.mpr ⟨_, List.getElem_mem hm, rfl⟩)
            refine ⟨AR[m].1, _, rfl, .inl (.inl (sk _ _ (L17.rows.tup _ (List.getElem_mem hm)))), rfl, _, _, rfl, _, _, rfl, rfl, rfl, ?_⟩
            refine ⟨_, rfl, rfl, _, rfl, ?_⟩
            have hft := filter_take (p := fun x => decide (lowR (rowsOf AR) x = ("sea" : Str))) hn
            refine ite2 (fun h => ?_) (fun h => ?_)
            · have h := V.str.inj (of_decide_eq_true h)
              rw [if_pos (decide_eq_true (hlow.trans h))] at hft
              refine ⟨_, rfl, _, hl3, ?_, fun b o hb => ?_, ?_⟩
              · rw [List.length_map]
                have := List.length_filter_le (fun x => decide (lowR (rowsOf AR) x = ("sea" : Str))) ((namesOf AR).take m)
                rw [List.length_take] at this
                exact small1000 (by omega)
              · rw [upd_ne (ne_of_none hb hD5)]
                exact sk b o hb
              · rw [upd_same, hft, List.map_append]
                rfl
            · have h : ¬ lowR (rowsOf AR) AR[m].2.1 = ("sea" : Str) := fun z => h (decide_eq_true (congrArg V.str (hlow.symm.trans z)))
              rw [if_neg (by rw [decide_eq_false h]; exact Bool.false_ne_true), List.append_nil] at hft
              refine ⟨sk, ?_⟩
              rw [hft]
              exact hl3
          rintro H18 ⟨s18, hl3⟩
          rw [List.take_of_length_le (by rw [hnl, List.length_map]; exact Nat.le_refl _)] at hl3
          have hl3 : H18 D5 = some (.lst ((aboveR (rowsOf AR) "sea").map V.str)) := hl3
          refine ⟨D5, _, rfl, .inl ⟨.inl (.inl hl3), fun t6 nt6 => ?_⟩⟩
          have s19 : Same H17 (upd H18 t6 (.tup ((aboveR (rowsOf AR) "sea").map V.str))) := s18.trans (same_upd nt6)
          have w19 : (upd H18 t6 (.tup ((aboveR (rowsOf AR) "sea").map V.str))) t6 = _ := upd_same
          have t5k := s19 _ _ ht5
          generalize upd H18 t6 (.tup ((aboveR (rowsOf AR) "sea").map V.str)) = H19 at s19 w19 t5k
          have pla : ∀ z ∈ aboveR (rowsOf AR) "sea", Plain z := fun z hz => name_plain (hG.nm.ok z (List.mem_filter.mp hz).1)
          refine ⟨_, _, .tup (.inl (.inl t5k)) (dp_strs _), .tup (.inl (.inl w19)) (dp_strs _), shaped_tup pla, shaped_tup pla, _, rfl, ?_⟩
          rw [eqv_tups]
          refine iteF ?_
          exact ⟨_, _, _, rfl, L17.same s19⟩
        · rintro σ H14 ⟨v7, v8, v9, rfl, L14⟩
          refine ⟨_, rfl, _, rfl, _, rfl, p, q, l, AR, rfl, L14.bag, L14.riv, L14.rows, hG, L14.lp, fun H15 u15 B15 => ⟨_, rfl, iteF ?_⟩⟩
          have L15 := L14.keep (fun b o hb hn _ => u15 b o hb hn) B15 (tabs_upto L14.bag u15 L14.tabs)
          exact ⟨_, _, _, _, _, _, _, _, _, rfl, L15.sq, L15.tabs⟩
    · rintro σ H2 ⟨v1, v2, v3, v4, v5, v6, v7, v8, v9, rfl, hS2, hT2⟩
      exact k H2
end
end K0
end

/-! ## K1N -/
section
set_option Elab.async false
set_option linter.all false
set_option maxRecDepth 100000
set_option maxHeartbeats 0
namespace K0H
open PySem PySem.Spec PyProof.Rows L2 K0
open PySem.W (Frag)
/-! ### the defs, as data -/
def dD (x : Str) (st : Stmt) : He.DefD := ⟨(x, none), x, x, defArgs st, defBody st, defScope st, [], []⟩
def dM (m q : Str) (st : Stmt) : He.DefD := ⟨("River", some m), m, q, defArgs st, defBody st, defScope st, [], []⟩
def fn : List He.DefD := [dD "need_weir" sNeed, dD "is_name" sIsName, dD "_is_row" sIsRow, dD "_need_rows" sNeedRows, dD "_course" sCourse, dD "_find_courses" sFind, dD "_directly_above" sAbove, dD "_find_upstream" sUp, dD "_order_by_depth" sOrder,
  dM "__init__" "River.__init__" sInit, dM "__eq__" "River.__eq__" sEq, dM "__len__" "River.__len__" sLen, dM "__iter__" "River.__iter__" sIter, dM "__contains__" "River.__contains__" sContains, dM "rows" "River.rows" sRows, dM "below" "River.below" sBelow, dM "above" "River.above" sAboveM, dM "course" "River.course" sCourseM, dM "depth" "River.depth" sDepth, dM "upstream" "River.upstream" sUpM,
  dD "_law_bag" sBag, dD "_law_take" sTake, dD "_law_of" sOf, dD "_law_mixed" sMixed, dD "_law_names" sNames, dD "_law_river" sLRiver, dD "_law_course" sLCourse, dD "_law_refused" sRefused, dD "_law_odd" sOdd, dD "_law_told_right" sTold, dD "_law_weir_right" sWeir, dD "_law_equal_right" sEqual, dD "_law_is_whole" sWhole, dD "_law_refuses_right" sRefuses, dD "law" sLaw]
def names : List Str := ["need_weir", "is_name", "_is_row", "_need_rows", "_course", "_find_courses", "_directly_above", "_find_upstream", "_order_by_depth", "River", "NoWeir", "WeirError", "NoRight",
  "_law_bag", "_law_take", "_law_of", "_law_mixed", "_law_names", "_law_river", "_law_course", "_law_refused", "_law_odd", "_law_told_right", "_law_weir_right", "_law_equal_right", "_law_is_whole", "_law_refuses_right", "law"]
def frees : List Str := ["len", "enumerate", "int", "abs", "list", "range", "dict", "tuple", "isinstance", "str", "all", "any", "bool", "sorted", "max", "min", "iter", "super", "ValueError"]
def noats : List Str := ["weirs", "_rows", "_below", "_courses", "_above", "_upstream", "_deepest_first"]
def meths : List Str := ["rows", "below", "above", "course", "depth", "upstream"]
def fa : List He.Fa := names.map .glo ++ frees.map .free ++ [.str "SEA" "sea", .int "MOST_ROWS" 40, .int "LONGEST_NAME" 8, .cls "River", .mkr "River", .exm "NoWeir" "WeirError" true, .noat "NoWeir" "name"] ++ noats.map (.noat "River") ++ meths.map (.meth "River")
def tf : List He.Defn := [("_law_refuses_right", none)]
/-! ### more facts, as a Bool -/
def spB (K : Frag) (m : Str) : Bool := He.eqO (PySem.W.findIn K (.ref (He.ga K "River")) m) (some (some (.ref (He.ma K (He.ga K "River") m)))) && PySem.W.isFn K (.ref (He.ma K (He.ga K "River") m))
def riverB (K : Frag) : Bool := He.eqO (PySem.W.findIn K (.ref (He.ga K "River")) "__class__") (some (some (.builtin "object.__class__"))) && (He.eqO (PySem.W.specialIn K (.builtin "object.__class__") "__get__") (some (some (.builtin "getset_descriptor.__get__"))) &&
  (decide (PySem.W.takesIn K (.builtin "object.__class__") = some true) && (decide (PySem.W.mroIn K (He.ga K "River") (.type "object") = some true) && (decide (PySem.W.typeIn K (.ref (He.ga K "River")) = some (.type "type")) && ((PySem.W.clsIn K (He.ga K "River")).isSome &&
  (He.eqO (PySem.W.findIn K (.ref (He.ga K "River")) "__ne__") (some (some (.builtin "object.__ne__"))) && (spB K "__contains__" && (spB K "__len__" && (spB K "__iter__" && spB K "__eq__")))))))))
/-- NoWeir is a class over ValueError, its __init__ its own -/
def clsB (K : Frag) : Bool := match K.lookup (He.ga K "NoWeir") with
  | some ⟨.type t, _, .cls cd, sl⟩ => decide (t = "type") && (match cd.mro, sl.toList with
    | .ref C' :: bm, [_, _, _, _, some (.builtin n), _] => decide (C' = He.ga K "NoWeir") && (decide (n = "ValueError.__new__") && (cd.hasDict && (!cd.hasDel && PySem.HandSPX.refsVE bm)))
    | _, _ => false)
  | _ => false
def errB (K : Frag) : Bool := He.eqO (PySem.W.findIn K (.ref (He.ga K "NoWeir")) "__setattr__") (some (some (.builtin "object.__setattr__"))) && (decide (PySem.W.subIn K (.ref (He.ga K "NoWeir")) (.type "BaseException") = some true) && (decide (PySem.W.typeIn K (.ref (He.ga K "NoWeir")) = some (.type "type")) && (PySem.W.keepIn K (.ref (He.ga K "NoWeir")) &&
  (decide (PySem.W.mroIn K (He.ga K "NoWeir") (.ref (He.ga K "NoWeir")) = some true) && (decide (PySem.W.subIn K (.ref (He.ga K "NoWeir")) (.type "ValueError") = some true) && (He.eqO (PySem.W.ks_superIn K (He.ga K "NoWeir") (He.ga K "NoWeir") "__init__") (some (some (.builtin "ValueError.__init__"))) &&
  (He.eqO (PySem.W.nsIn K cStatics "thirdparty.any") (some none) && (He.eqO (PySem.W.findIn K (.ref (He.ga K "NoWeir")) "__init__") (some (some (.ref (He.ma K (He.ga K "NoWeir") "__init__")))) && decide (PySem.W.typeIn K (.ref (He.ma K (He.ga K "NoWeir") "__init__")) = some (.type "function"))))))))))
def exB (K : Frag) : Bool := He.eqO (PySem.W.findIn K (.ref (He.ga K "NoWeir")) "__getattribute__") (some (some (.builtin "BaseException.__getattribute__"))) && (He.eqO (PySem.W.findIn K (.ref (He.ga K "NoWeir")) "__getattr__") (some none) && (PySem.W.hasDictIn K (He.ga K "NoWeir") &&
  (He.eqO (PySem.W.findIn K (.ref (He.ga K "NoWeir")) "__class__") (some (some (.builtin "object.__class__"))) && (decide (PySem.W.mroIn K (He.ga K "NoWeir") (.type "object") = some true) && (decide (PySem.W.kitOne K (.ref (He.ga K "NoWeir")) (.ref (He.ga K "NoWeir")) = some true) &&
  (decide (PySem.W.kitOne K (.ref (He.ga K "NoWeir")) (.ref (He.ga K "NoRight")) = some false) && decide (PySem.W.kitOne K (.ref (He.ga K "NoWeir")) (.type "ValueError") = some true)))))))
def iniB (K : Frag) : Bool := match K.lookup (He.fAd K ("NoWeir", some "__init__")) with
  | some ⟨_, _, .func fd, _⟩ => (match fd.code, fd.closure with
    | .ref cda, [(x, cc)] => decide (x = "__class__") && (PySem.W.codeIn K (.ref cda) "NoWeir.__init__" && ((match K.lookup cda with
      | some ⟨_, _, .fields vs, _⟩ => (match (vs[2]? : Option Value) with
        | some (.str file _) => (PySem.Challenge.pw_weirkeepers_k00_rivers_made.main.file == file)
        | _ => false)
      | _ => false) && (match K.lookup cc with
      | some ⟨_, _, .cell (some (.ref C)), _⟩ => decide (C = He.ga K "NoWeir")
      | _ => false)))
    | _, _ => false)
  | _ => false
def ex (K : Frag) : Bool := riverB K && (clsB K && (errB K && (exB K && iniB K)))
/-! ### the Hook: the fragment with one more place, and the def that has a cell -/
abbrev FnY : Type := Option (Str × Str × Arguments × FuncBody × Scope × Addr × Value × Value × Option Addr × Addr)
def fnY (K : Frag) : FnY := match K.lookup (He.fAd K ("NoWeir", some "__init__")) with
  | some ⟨_, _, .func fd, _⟩ => some (fd.name, fd.qualname, fd.params, fd.body, fd.scope, fd.globals, fd.defaults, fd.kwdefaults, fd.annotations, fd.builtins)
  | _ => none
def valY : FnY := some ("__init__", "NoWeir.__init__", defArgs sNo, .stmts (defBody sNo), defScope sNo, mainGlobals, .none, .none, none, builtinsNs)
def frY (n : Nat) (g : Addr → Option Obj) : Frag := He.frT g (cStatics :: He.asD g n)
abbrev AlY : Type := He.AlD × Bool × FnY
def obsY (n : Nat) (g : Addr → Option Obj) : AlY := (He.obsD fa fn (frY n g), ex (frY n g) && He.tabsB g tf (frY n g), fnY (frY n g))
abbrev R : PySem.W.OpenRow := PySem.W.OpenLaw.row PySem.Challenge.rw_weirkeepers_k00_rivers_made
structure SaysY (h : Heap) (K : Frag) : Prop where
  d : He.SaysD fa fn K
  more : ex K = true
  y : fnY K = valY
  hd : ∀ p ∈ tf, PySem.W.codeHdIn K (He.cT K p).1 (He.cT K p).2 = true
  out : ∀ p ∈ tf, K.lookup (He.cT K p).2 = none
  empty : ∀ p ∈ tf, h.get? (He.cT K p).2 = some { cls := .none, data := .fields #[] }
theorem saysY_of {n : Nat} {h : Heap} (e : obsY n h.get? = (He.valD fn, true, valY)) : SaysY h (frY n h.get?) := by
  have e1 : He.obsD fa fn (frY n h.get?) = He.valD fn := congrArg (fun z : AlY => z.1) e
  have e2 : (ex (frY n h.get?) && He.tabsB h.get? tf (frY n h.get?)) = true := congrArg (fun z : AlY => z.2.1) e
  have e3 : fnY (frY n h.get?) = valY := congrArg (fun z : AlY => z.2.2) e
  obtain ⟨h1, h2⟩ := He.ba e2
  have key : ∀ p ∈ tf, PySem.W.codeHdIn (frY n h.get?) (He.cT (frY n h.get?) p).1 (He.cT (frY n h.get?) p).2 = true ∧ ∃ o, h.get? (He.cT (frY n h.get?) p).2 = some o ∧ He.emptyTab o = true := fun p hp => by
    obtain ⟨h3, h4⟩ := He.ba (List.all_eq_true.mp h2 p hp)
    refine ⟨h3, ?_⟩
    cases q : h.get? (He.cT (frY n h.get?) p).2 with
    | none =>
      rw [q] at h4
      cases h4
    | some o =>
      rw [q] at h4
      exact ⟨o, rfl, h4⟩
  exact ⟨e1, h1, e3, fun p hp => (key p hp).1, fun p hp => by
    obtain ⟨_, o, q, z⟩ := key p hp
    exact He.frT_none q z, fun p hp => by
    obtain ⟨_, o, q, z⟩ := key p hp
    rw [q, He.emptyTab_eq z]⟩
def hk (n : Nat) : PySem.W.Hook where
  α := AlY
  obs := fun s => obsY n s.heap.get?
  val := fun _ => (He.valD fn, true, valY)
  says := fun _ h => ∃ K : Frag, K.In h ∧ SaysY h K
  of := fun _ _ e => ⟨_, He.frT_in, saysY_of e⟩
  keeps := fun _ _ _ ⟨K, hK, c⟩ k => ⟨K, PySem.W.Frag.In.keeps hK k, ⟨c.d, c.more, c.y, c.hd, c.out, fun p hp => k _ _ (c.empty p hp)⟩⟩
def ob (s : PySem.W.SharedT) : AlY := obsY 6 (HandSHeadRun.getT s)
theorem ob_eq (s : PySem.W.SharedT) : ob s = (hk 6).obs s.abs := by
  have e : HandSHeadRun.getT s = s.abs.heap.get? := funext (HandSHeadRun.getT_eq s)
  unfold ob
  rw [e] <;> rfl
end K0H
end

/-! ## K1P -/
section
set_option Elab.async false
set_option linter.all false
set_option maxRecDepth 100000
set_option maxHeartbeats 0
namespace K0H
open PySem PySem.Spec PyProof.Rows L2 K0
def loose1 : List Str := ["_wall", "__name__", "WeirError", "NotRiver", "NoWeir", "NoRight", "need_weir", "SEA", "MOST_ROWS", "LONGEST_NAME", "is_name", "_is_row", "_need_rows", "_course", "_find_courses", "_directly_above", "_find_upstream", "_order_by_depth", "River"]
def loose2 : List Str := ["_law_bag", "_law_take", "_law_of", "_law_mixed", "_law_names", "_law_river", "_law_course", "_law_refused", "_law_odd", "_law_told_right", "_law_weir_right", "_law_equal_right", "_law_is_whole", "_law_refuses_right"]
def loose : List Str := loose1 ++ loose2
theorem run (w : World) : HandSHeadRun.RunEq R (PySem.W.view R.prog [36]) (hk 6) ob 4000 loose w := by
  intro os
  kernel_rfl
end K0H
end

/-! ## K1Q -/
section
set_option Elab.async false
set_option linter.all false
set_option maxRecDepth 100000
set_option maxHeartbeats 0
namespace K0H
open PySem PySem.Spec PyProof.Rows L2 K0 LamX
open PySem.W (Frag)
abbrev PP : Program := PySem.Challenge.pw_weirkeepers_k00_rivers_made
theorem sup_ok {K : Frag} (y : fnY K = valY) (hi : iniB K = true) : ∃ (fd : FuncData) (oc : Value) (od : Option Addr) (doc pm : Value) (cda : Addr) (ct : Value) (cc : Addr) (osl : Array (Option Value)),
    fd = PySem.W.ksFn "__init__" "NoWeir.__init__" (defArgs sNo) (defBody sNo) (defScope sNo) .none .none doc pm none (.ref cda) ct cc ∧ K.lookup (He.fAd K ("NoWeir", some "__init__")) = some ⟨oc, od, .func fd, osl⟩ ∧ PySem.W.codeIn K (.ref cda) "NoWeir.__init__" = true ∧
    (∃ (ccl : Value) (cdd : Option Addr) (vs : Array Value) (ccs : Array (Option Value)) (file : Str) (tf : Tok), K.lookup cda = some ⟨ccl, cdd, .fields vs, ccs⟩ ∧ vs[2]? = some (.str file tf) ∧ ((PP.main.file : Str) == file) = true) ∧
    ∃ (cl : Value) (cld : Option Addr) (csl : Array (Option Value)), K.lookup cc = some ⟨cl, cld, .cell (some (.ref (He.ga K "NoWeir"))), csl⟩ := by
  unfold fnY at y
  unfold iniB at hi
  split at y
  · rename_i oc od fd osl q
    rw [q] at hi
    obtain ⟨n1, n2, n3, n4, n5, n6, n7, n8, n9, n10, n11, n12, n13, n14, n15⟩ := fd
    have y2 : (some (n1, n2, n3, n4, n5, n6, n8, n9, n12, n15) : FnY) = valY := y
    unfold valY at y2
    simp only [Option.some.injEq, Prod.mk.injEq] at y2
    obtain ⟨h1, h2, h3, h4, h5, h6, h7, h8, h9, h10⟩ := y2
    subst h1 h2 h3 h4 h5 h6 h7 h8 h9 h10
    dsimp only at hi
    split at hi
    · rename_i cda x cc
      obtain ⟨g1, hi⟩ := He.ba hi
      obtain ⟨g2, hi⟩ := He.ba hi
      obtain ⟨g3, g4⟩ := He.ba hi
      have g1 := of_decide_eq_true g1
      subst g1
      refine ⟨_, oc, od, n10, n11, cda, n14, cc, osl, rfl, q, g2, ?_, ?_⟩
      · split at g3
        · rename_i ccl cdd vs ccs qc
          split at g3
          · rename_i file tf qv
            exact ⟨_, _, _, _, file, tf, qc, qv, g3⟩
          · cases g3
        · cases g3
      · split at g4
        · rename_i cl cld C csl qc
          have e := of_decide_eq_true g4
          subst e
          exact ⟨_, _, _, qc⟩
        · cases g4
    · cases hi
  · cases y
theorem cls_ok2 {K : Frag} (h : clsB K = true) : ∃ nm q N bs bm sn sub ab col dd k0 k1 k2 k3 k5, K.lookup (He.ga K "NoWeir") = some (excClassObj nm q (He.ga K "NoWeir") N bs bm true sn sub ab col dd k0 k1 k2 k3 k5 "ValueError.__new__") ∧ PySem.HandSPX.refsVE bm = true := by
  unfold clsB at h
  split at h
  · rename_i t dd cd sl q
    obtain ⟨g0, h⟩ := He.ba h
    have e0 := of_decide_eq_true g0
    clear g0
    split at h
    · rename_i C' bm k0 k1 k2 k3 n k5 e1 e2
      obtain ⟨g1, h⟩ := He.ba h
      obtain ⟨g2, h⟩ := He.ba h
      obtain ⟨g3, h⟩ := He.ba h
      obtain ⟨g4, g5⟩ := He.ba h
      have g1 := of_decide_eq_true g1
      have g2 := of_decide_eq_true g2
      subst g1 g2
      obtain ⟨c1, c2, c3, c4, c5, c6, c7, c8, c9, c10, c11⟩ := cd
      dsimp only at e1 g3 g4
      subst e1
      have g4 : c11 = false := by simpa using g4
      subst g3 g4
      have es : sl = #[k0, k1, k2, k3, some (.builtin "ValueError.__new__"), k5] := by
        apply Array.ext'
        rw [e2]
      subst es
      subst e0
      exact ⟨c1, c5, c4, c2, bm, c7, c8, c9, c10, dd, k0, k1, k2, k3, k5, q, g5⟩
    · cases h
  · cases h
theorem spB_ok {K : Frag} {m : Str} (h : spB K m = true) : PySem.W.findIn K (.ref (He.ga K "River")) m = some (some (.ref (He.ma K (He.ga K "River") m))) ∧ PySem.W.isFn K (.ref (He.ma K (He.ga K "River") m)) = true := by
  obtain ⟨h1, h2⟩ := He.ba h
  exact ⟨He.eqO_ok h1, h2⟩
theorem all_ok {w : World} {K : Frag} {h : Heap} {mg : Str → Option Value} (X : K.In h) (G : h.Ns mainGlobals mg) (c : SaysY h K) :
    ∃ tS tM tL, ∀ base : Heap, TabB base mg (He.cT K ("_law_refuses_right", none)).1 (He.cT K ("_law_refuses_right", none)).2 →
      All PP w K mg base tS tM tL (He.ga K "River") (He.ga K "NoWeir") (He.ga K "WeirError") (He.ga K "NoRight") (He.cT K ("_law_refuses_right", none)).2 := by
  obtain ⟨d0, f0⟩ := c.d.def_ 0 (d := dD "need_weir" sNeed) rfl
  have F0 : FnP K "need_weir" sNeed (He.ga K "need_weir") d0 := f0
  obtain ⟨d1, f1⟩ := c.d.def_ 1 (d := dD "is_name" sIsName) rfl
  have F1 : FnP K "is_name" sIsName (He.ga K "is_name") d1 := f1
  obtain ⟨d2, f2⟩ := c.d.def_ 2 (d := dD "_is_row" sIsRow) rfl
  have F2 : FnP K "_is_row" sIsRow (He.ga K "_is_row") d2 := f2
  obtain ⟨d3, f3⟩ := c.d.def_ 3 (d := dD "_need_rows" sNeedRows) rfl
  have F3 : FnP K "_need_rows" sNeedRows (He.ga K "_need_rows") d3 := f3
  obtain ⟨d4, f4⟩ := c.d.def_ 4 (d := dD "_course" sCourse) rfl
  have F4 : FnP K "_course" sCourse (He.ga K "_course") d4 := f4
  obtain ⟨d5, f5⟩ := c.d.def_ 5 (d := dD "_find_courses" sFind) rfl
  have F5 : FnP K "_find_courses" sFind (He.ga K "_find_courses") d5 := f5
  obtain ⟨d6, f6⟩ := c.d.def_ 6 (d := dD "_directly_above" sAbove) rfl
  have F6 : FnP K "_directly_above" sAbove (He.ga K "_directly_above") d6 := f6
  obtain ⟨d7, f7⟩ := c.d.def_ 7 (d := dD "_find_upstream" sUp) rfl
  have F7 : FnP K "_find_upstream" sUp (He.ga K "_find_upstream") d7 := f7
  obtain ⟨d8, f8⟩ := c.d.def_ 8 (d := dD "_order_by_depth" sOrder) rfl
  have F8 : FnP K "_order_by_depth" sOrder (He.ga K "_order_by_depth") d8 := f8
  obtain ⟨d9, f9⟩ := c.d.def_ 9 (d := dM "__init__" "River.__init__" sInit) rfl
  have F9 : FnM K "__init__" "River.__init__" sInit (He.ma K (He.ga K "River") "__init__") d9 := f9
  obtain ⟨d10, f10⟩ := c.d.def_ 10 (d := dM "__eq__" "River.__eq__" sEq) rfl
  have F10 : FnM K "__eq__" "River.__eq__" sEq (He.ma K (He.ga K "River") "__eq__") d10 := f10
  obtain ⟨d11, f11⟩ := c.d.def_ 11 (d := dM "__len__" "River.__len__" sLen) rfl
  have F11 : FnM K "__len__" "River.__len__" sLen (He.ma K (He.ga K "River") "__len__") d11 := f11
  obtain ⟨d12, f12⟩ := c.d.def_ 12 (d := dM "__iter__" "River.__iter__" sIter) rfl
  have F12 : FnM K "__iter__" "River.__iter__" sIter (He.ma K (He.ga K "River") "__iter__") d12 := f12
  obtain ⟨d13, f13⟩ := c.d.def_ 13 (d := dM "__contains__" "River.__contains__" sContains) rfl
  have F13 : FnM K "__contains__" "River.__contains__" sContains (He.ma K (He.ga K "River") "__contains__") d13 := f13
  obtain ⟨d14, f14⟩ := c.d.def_ 14 (d := dM "rows" "River.rows" sRows) rfl
  have F14 : FnM K "rows" "River.rows" sRows (He.ma K (He.ga K "River") "rows") d14 := f14
  obtain ⟨d15, f15⟩ := c.d.def_ 15 (d := dM "below" "River.below" sBelow) rfl
  have F15 : FnM K "below" "River.below" sBelow (He.ma K (He.ga K "River") "below") d15 := f15
  obtain ⟨d16, f16⟩ := c.d.def_ 16 (d := dM "above" "River.above" sAboveM) rfl
  have F16 : FnM K "above" "River.above" sAboveM (He.ma K (He.ga K "River") "above") d16 := f16
  obtain ⟨d17, f17⟩ := c.d.def_ 17 (d := dM "course" "River.course" sCourseM) rfl
  have F17 : FnM K "course" "River.course" sCourseM (He.ma K (He.ga K "River") "course") d17 := f17
  obtain ⟨d18, f18⟩ := c.d.def_ 18 (d := dM "depth" "River.depth" sDepth) rfl
  have F18 : FnM K "depth" "River.depth" sDepth (He.ma K (He.ga K "River") "depth") d18 := f18
  obtain ⟨d19, f19⟩ := c.d.def_ 19 (d := dM "upstream" "River.upstream" sUpM) rfl
  have F19 : FnM K "upstream" "River.upstream" sUpM (He.ma K (He.ga K "River") "upstream") d19 := f19
  obtain ⟨d20, f20⟩ := c.d.def_ 20 (d := dD "_law_bag" sBag) rfl
  have F20 : FnP K "_law_bag" sBag (He.ga K "_law_bag") d20 := f20
  obtain ⟨d21, f21⟩ := c.d.def_ 21 (d := dD "_law_take" sTake) rfl
  have F21 : FnP K "_law_take" sTake (He.ga K "_law_take") d21 := f21
  obtain ⟨d22, f22⟩ := c.d.def_ 22 (d := dD "_law_of" sOf) rfl
  have F22 : FnP K "_law_of" sOf (He.ga K "_law_of") d22 := f22
  obtain ⟨d23, f23⟩ := c.d.def_ 23 (d := dD "_law_mixed" sMixed) rfl
  have F23 : FnP K "_law_mixed" sMixed (He.ga K "_law_mixed") d23 := f23
  obtain ⟨d24, f24⟩ := c.d.def_ 24 (d := dD "_law_names" sNames) rfl
  have F24 : FnP K "_law_names" sNames (He.ga K "_law_names") d24 := f24
  obtain ⟨d25, f25⟩ := c.d.def_ 25 (d := dD "_law_river" sLRiver) rfl
  have F25 : FnP K "_law_river" sLRiver (He.ga K "_law_river") d25 := f25
  obtain ⟨d26, f26⟩ := c.d.def_ 26 (d := dD "_law_course" sLCourse) rfl
  have F26 : FnP K "_law_course" sLCourse (He.ga K "_law_course") d26 := f26
  obtain ⟨d27, f27⟩ := c.d.def_ 27 (d := dD "_law_refused" sRefused) rfl
  have F27 : FnP K "_law_refused" sRefused (He.ga K "_law_refused") d27 := f27
  obtain ⟨d28, f28⟩ := c.d.def_ 28 (d := dD "_law_odd" sOdd) rfl
  have F28 : FnP K "_law_odd" sOdd (He.ga K "_law_odd") d28 := f28
  obtain ⟨d29, f29⟩ := c.d.def_ 29 (d := dD "_law_told_right" sTold) rfl
  have F29 : FnP K "_law_told_right" sTold (He.ga K "_law_told_right") d29 := f29
  obtain ⟨d30, f30⟩ := c.d.def_ 30 (d := dD "_law_weir_right" sWeir) rfl
  have F30 : FnP K "_law_weir_right" sWeir (He.ga K "_law_weir_right") d30 := f30
  obtain ⟨d31, f31⟩ := c.d.def_ 31 (d := dD "_law_equal_right" sEqual) rfl
  have F31 : FnP K "_law_equal_right" sEqual (He.ga K "_law_equal_right") d31 := f31
  obtain ⟨d32, f32⟩ := c.d.def_ 32 (d := dD "_law_is_whole" sWhole) rfl
  have F32 : FnP K "_law_is_whole" sWhole (He.ga K "_law_is_whole") d32 := f32
  obtain ⟨d33, f33⟩ := c.d.def_ 33 (d := dD "_law_refuses_right" sRefuses) rfl
  have F33 : FnP K "_law_refuses_right" sRefuses (He.ga K "_law_refuses_right") d33 := f33
  obtain ⟨d34, f34⟩ := c.d.def_ 34 (d := dD "law" sLaw) rfl
  have F34 : FnP K "law" sLaw (He.ga K "law") d34 := f34
  obtain ⟨tS, eS⟩ := He.str_ok X G (c.d.fact 47 (f := .str "SEA" "sea") rfl)
  obtain ⟨tM, eM⟩ := He.int_ok X G (c.d.fact 48 (f := .int "MOST_ROWS" 40) rfl)
  obtain ⟨tL, eL⟩ := He.int_ok X G (c.d.fact 49 (f := .int "LONGEST_NAME" 8) rfl)
  obtain ⟨hRi, hx⟩ := He.ba c.more
  obtain ⟨hCl, hx⟩ := He.ba hx
  obtain ⟨hEr, hx⟩ := He.ba hx
  obtain ⟨hEx, hIn⟩ := He.ba hx
  obtain ⟨r1, hRi⟩ := He.ba hRi
  obtain ⟨r2, hRi⟩ := He.ba hRi
  obtain ⟨r3, hRi⟩ := He.ba hRi
  obtain ⟨r4, hRi⟩ := He.ba hRi
  obtain ⟨r5, hRi⟩ := He.ba hRi
  obtain ⟨r6, hRi⟩ := He.ba hRi
  obtain ⟨r7, hRi⟩ := He.ba hRi
  obtain ⟨r8, hRi⟩ := He.ba hRi
  obtain ⟨r9, hRi⟩ := He.ba hRi
  obtain ⟨r10, r11⟩ := He.ba hRi
  obtain ⟨s1, s1'⟩ := spB_ok r8
  obtain ⟨s2, s2'⟩ := spB_ok r9
  obtain ⟨s3, s3'⟩ := spB_ok r10
  obtain ⟨s4, s4'⟩ := spB_ok r11
  obtain ⟨e1, hEr⟩ := He.ba hEr
  obtain ⟨e2, hEr⟩ := He.ba hEr
  obtain ⟨e3, hEr⟩ := He.ba hEr
  obtain ⟨e4, hEr⟩ := He.ba hEr
  obtain ⟨e5, hEr⟩ := He.ba hEr
  obtain ⟨e6, hEr⟩ := He.ba hEr
  obtain ⟨e7, hEr⟩ := He.ba hEr
  obtain ⟨e8, hEr⟩ := He.ba hEr
  obtain ⟨e9, e10⟩ := He.ba hEr
  obtain ⟨x1, hEx⟩ := He.ba hEx
  obtain ⟨x2, hEx⟩ := He.ba hEx
  obtain ⟨x3, hEx⟩ := He.ba hEx
  obtain ⟨x4, hEx⟩ := He.ba hEx
  obtain ⟨x5, hEx⟩ := He.ba hEx
  obtain ⟨x6, hEx⟩ := He.ba hEx
  obtain ⟨x7, x8⟩ := He.ba hEx
  obtain ⟨fdn, oc, od, doc, pm, cda, ct, cc, osl, en, lkn, cdn, fl, cl⟩ := sup_ok c.y hIn
  have hno := He.noat_ok (c.d.fact 53 (f := .noat "NoWeir" "name") rfl)
  have B : Bl mg := ⟨(He.free_ok X G (c.d.fact 28 (f := .free "len") rfl)), (He.free_ok X G (c.d.fact 29 (f := .free "enumerate") rfl)), (He.free_ok X G (c.d.fact 30 (f := .free "int") rfl)), (He.free_ok X G (c.d.fact 31 (f := .free "abs") rfl)), (He.free_ok X G (c.d.fact 32 (f := .free "list") rfl)), (He.free_ok X G (c.d.fact 33 (f := .free "range") rfl)), (He.free_ok X G (c.d.fact 34 (f := .free "dict") rfl)), (He.free_ok X G (c.d.fact 35 (f := .free "tuple") rfl)), (He.free_ok X G (c.d.fact 36 (f := .free "isinstance") rfl)), (He.free_ok X G (c.d.fact 37 (f := .free "str") rfl)), (He.free_ok X G (c.d.fact 38 (f := .free "all") rfl)), (He.free_ok X G (c.d.fact 39 (f := .free "any") rfl)), (He.free_ok X G (c.d.fact 40 (f := .free "bool") rfl)), (He.free_ok X G (c.d.fact 41 (f := .free "sorted") rfl)), (He.free_ok X G (c.d.fact 42 (f := .free "max") rfl)), (He.free_ok X G (c.d.fact 43 (f := .free "min") rfl)), (He.free_ok X G (c.d.fact 44 (f := .free "iter") rfl)), (He.free_ok X G (c.d.fact 45 (f := .free "super") rfl)), (He.free_ok X G (c.d.fact 46 (f := .free "ValueError") rfl))⟩
  have C : Gc mg tS tM tL := ⟨eS, eM, eL⟩
  have T : Rv K mg (He.ga K "River") := ⟨He.cls_ok (c.d.fact 50 (f := .cls "River") rfl), He.noat_ok (c.d.fact 54 (f := .noat "River" "weirs") rfl), He.noat_ok (c.d.fact 55 (f := .noat "River" "_rows") rfl), He.noat_ok (c.d.fact 56 (f := .noat "River" "_below") rfl), He.noat_ok (c.d.fact 57 (f := .noat "River" "_courses") rfl), He.noat_ok (c.d.fact 58 (f := .noat "River" "_above") rfl), He.noat_ok (c.d.fact 59 (f := .noat "River" "_upstream") rfl), He.noat_ok (c.d.fact 60 (f := .noat "River" "_deepest_first") rfl), (He.glo_ok X G (c.d.fact 9 (f := .glo "River") rfl))⟩
  have S : Ms K (He.ga K "River") := ⟨⟨_, _, F14, He.meth_ok (c.d.fact 61 (f := .meth "River" "rows") rfl)⟩, ⟨_, _, F15, He.meth_ok (c.d.fact 62 (f := .meth "River" "below") rfl)⟩, ⟨_, _, F16, He.meth_ok (c.d.fact 63 (f := .meth "River" "above") rfl)⟩, ⟨_, _, F17, He.meth_ok (c.d.fact 64 (f := .meth "River" "course") rfl)⟩, ⟨_, _, F18, He.meth_ok (c.d.fact 65 (f := .meth "River" "depth") rfl)⟩, ⟨_, _, F19, He.meth_ok (c.d.fact 66 (f := .meth "River" "upstream") rfl)⟩⟩
  have M : Sm K (He.ga K "River") := ⟨⟨_, _, F13, s1, s1'⟩, ⟨_, _, F11, s2, s2'⟩, ⟨_, _, F12, s3, s3'⟩⟩
  have I : Ri K (He.ga K "River") := ⟨He.eqO_ok r1, He.eqO_ok r2, of_decide_eq_true r3, of_decide_eq_true r4⟩
  have E : Eqs K mg (He.ga K "River") := ⟨I, of_decide_eq_true r5, r6, ⟨_, _, F10, s4, s4'⟩, He.eqO_ok r7, ⟨_, _, F9, He.mkr_ok (c.d.fact 51 (f := .mkr "River") rfl)⟩⟩
  have O : OexC K (He.ga K "NoWeir") := ⟨cls_ok2 hCl, He.eqO_ok e1, of_decide_eq_true e2, of_decide_eq_true e3, e4⟩
  have SF : SupF PP K mg (He.ga K "NoWeir") "__init__" "NoWeir.__init__" (defArgs sNo) (defBody sNo) (defScope sNo) (He.ma K (He.ga K "NoWeir") "__init__") fdn := ⟨⟨oc, od, doc, pm, cda, ct, cc, osl, en, lkn, cdn, fl, cl⟩, by decide +kernel, O, of_decide_eq_true e5, of_decide_eq_true e6, He.eqO_ok e7, He.eqO_ok e8, B.super⟩
  have N : Nw PP K mg (He.ga K "NoWeir") (He.ma K (He.ga K "NoWeir") "__init__") fdn := ⟨SF, hno, He.eqO_ok e9, of_decide_eq_true e10, (He.glo_ok X G (c.d.fact 10 (f := .glo "NoWeir") rfl))⟩
  have R : Er K mg (He.ga K "NoWeir") (He.ga K "WeirError") (He.ga K "NoRight") := ⟨⟨He.eqO_ok x1, He.eqO_ok x2, of_decide_eq_true e2, x3, He.eqO_ok x4, He.eqO_ok r2, of_decide_eq_true r3, of_decide_eq_true x5⟩, ⟨He.eqO_ok x1, He.eqO_ok x2, of_decide_eq_true e2, x3⟩, hno, (He.glo_ok X G (c.d.fact 11 (f := .glo "WeirError") rfl)), (He.glo_ok X G (c.d.fact 12 (f := .glo "NoRight") rfl)), (He.glo_ok X G (c.d.fact 10 (f := .glo "NoWeir") rfl)), He.exm_ok (c.d.fact 52 (f := .exm "NoWeir" "WeirError" true) rfl), of_decide_eq_true x6, of_decide_eq_true x7, of_decide_eq_true x8⟩
  have Mm : Mf K mg := ⟨⟨_, _, F1, (He.glo_ok X G (c.d.fact 1 (f := .glo "is_name") rfl))⟩, ⟨_, _, F2, (He.glo_ok X G (c.d.fact 2 (f := .glo "_is_row") rfl))⟩, ⟨_, _, F3, (He.glo_ok X G (c.d.fact 3 (f := .glo "_need_rows") rfl))⟩, ⟨_, _, F4, (He.glo_ok X G (c.d.fact 4 (f := .glo "_course") rfl))⟩, ⟨_, _, F5, (He.glo_ok X G (c.d.fact 5 (f := .glo "_find_courses") rfl))⟩, ⟨_, _, F6, (He.glo_ok X G (c.d.fact 6 (f := .glo "_directly_above") rfl))⟩, ⟨_, _, F7, (He.glo_ok X G (c.d.fact 7 (f := .glo "_find_upstream") rfl))⟩, ⟨_, _, F8, (He.glo_ok X G (c.d.fact 8 (f := .glo "_order_by_depth") rfl))⟩⟩
  have hcode : d33.code = .ref (He.cT K ("_law_refuses_right", none)).1 := by
    obtain ⟨oc, od, dV, kV, doc, pm, an, cdv, ct, osl, efd, lk, hcd, _, _⟩ := F33.ex
    obtain ⟨cr, ecr⟩ := He.codeIn_ref hcd
    have e3 : d33.code = .ref cr := by rw [efd]; exact ecr
    have e4 := He.codeOf_eq (p := ("_law_refuses_right", none)) lk e3
    show d33.code = .ref (He.codeOf K ("_law_refuses_right", none))
    rw [e4, e3]
  refine ⟨tS, tM, tL, fun base TB => ⟨B, C, T, S, M, E, ⟨_, _, F0, (He.glo_ok X G (c.d.fact 0 (f := .glo "need_weir") rfl)), ok_need F0 N M T B⟩, R, Mm, ⟨_, _, F20, (He.glo_ok X G (c.d.fact 13 (f := .glo "_law_bag") rfl))⟩, ⟨_, _, F21, (He.glo_ok X G (c.d.fact 14 (f := .glo "_law_take") rfl))⟩, ⟨_, _, F22, (He.glo_ok X G (c.d.fact 15 (f := .glo "_law_of") rfl))⟩, ⟨_, _, F23, (He.glo_ok X G (c.d.fact 16 (f := .glo "_law_mixed") rfl))⟩, ⟨_, _, F24, (He.glo_ok X G (c.d.fact 17 (f := .glo "_law_names") rfl))⟩, ⟨_, _, F25, (He.glo_ok X G (c.d.fact 18 (f := .glo "_law_river") rfl))⟩, ⟨_, _, F26, (He.glo_ok X G (c.d.fact 19 (f := .glo "_law_course") rfl))⟩, ⟨_, _, F27, (He.glo_ok X G (c.d.fact 20 (f := .glo "_law_refused") rfl))⟩, ⟨_, _, F28, (He.glo_ok X G (c.d.fact 21 (f := .glo "_law_odd") rfl))⟩, ⟨_, _, F29, (He.glo_ok X G (c.d.fact 22 (f := .glo "_law_told_right") rfl))⟩, ⟨_, _, F30, (He.glo_ok X G (c.d.fact 23 (f := .glo "_law_weir_right") rfl))⟩, ⟨_, _, F31, (He.glo_ok X G (c.d.fact 24 (f := .glo "_law_equal_right") rfl))⟩, ⟨_, _, F32, (He.glo_ok X G (c.d.fact 25 (f := .glo "_law_is_whole") rfl))⟩, ⟨_, _, _, F33, (He.glo_ok X G (c.d.fact 26 (f := .glo "_law_refuses_right") rfl)), hcode, TB⟩⟩⟩
theorem facts {w : World} {K : Frag} {h : Heap} {mg : Str → Option Value} {f : Addr} (X : K.In h) (G : h.Ns mainGlobals mg) (hfa : mg ("law" : Str) = some (.ref f)) (c : SaysY h K) : LawAtS PySem.Challenge.rw_weirkeepers_k00_rivers_made w K CX0 9 63 "_law_script" mg f h := by
  obtain ⟨tS, tM, tL, hA⟩ := all_ok (w := w) X G c
  obtain ⟨fd, f34⟩ := c.d.def_ 34 (d := dD "law" sLaw) rfl
  have e := hfa.symm.trans (He.glo_ok X G (c.d.fact 27 (f := .glo "law") rfl))
  cases e
  have F : FnP K "law" sLaw (He.ga K "law") fd := f34
  have b := FunD.bindsA (ps := ["_law_script"]) F fun _ _ _ _ _ _ us hl => match us, hl with | [_], _ => rfl
  have hm : (("_law_refuses_right", none) : He.Defn) ∈ tf := List.mem_singleton.mpr rfl
  refine ⟨fd, [He.cT K ("_law_refuses_right", none)], spLaw K [((He.cT K ("_law_refuses_right", none)).2, lamQ)], fun p hp => ?_, fun p hp => ?_, fun p hp => ?_, fun s u => b s [u] rfl, fun H a ns hl _ hT hS => ?_, fun base KX _ TB => ?_⟩
  · rw [List.mem_singleton.mp hp]
    exact c.empty _ hm
  · rw [List.mem_singleton.mp hp]
    exact c.out _ hm
  · rw [List.mem_singleton.mp hp]
    exact PySem.W.codeHd_of_K X (c.hd _ hm)
  · refine ⟨a, ns, rfl, hS, hl, fun z hz => ?_, fun _ => rfl⟩
    rw [List.mem_singleton.mp hz]
    exact TabS.nil (hT _ (List.mem_singleton.mpr rfl))
  · exact ok_law F (hA base (TB _ (List.mem_singleton.mpr rfl)))
end K0H
open PySem PySem.W PySem.Calls PyProof.Rows
theorem PySem.Challenge.cw_weirkeepers_k00_rivers_made_holds : PySem.Challenge.rw_weirkeepers_k00_rivers_made.Holds := by
  w_on; o_law
  refine HandSHeadRun.head_any (r := OpenLaw.row PySem.Challenge.rw_weirkeepers_k00_rivers_made) (q := view (OpenLaw.row PySem.Challenge.rw_weirkeepers_k00_rivers_made).prog [36]) (H := K0H.hk 6) (ob := K0H.ob) (M := 4000) (loose := K0H.loose) (d := HandSHeadRun.topDef (OpenLaw.row PySem.Challenge.rw_weirkeepers_k00_rivers_made).prog 36) (kwd := []) K0H.ob_eq
    (by kernel_rfl) (fun s => by kernel_rfl) K0H.run (by kernel_rfl) (by kernel_rfl) (by kernel_rfl) (by rfl) (by first | assumption | decide +kernel) (by decide +kernel) ⟨rfl, rfl, rfl, rfl, rfl, by decide +kernel⟩ ?hw ?hc
  case hw => w_witness2
  case hc =>
    refine LamX.walk_ofTsE (l := PySem.Challenge.rw_weirkeepers_k00_rivers_made) (n := 63) (k := 9) (x := "_law_script") (CX := fun _ => L2.CX0) rfl (by decide) (by kernel_rfl) ⟨rfl, by decide, by decide⟩ ?F (fun _ _ _ _ _ z => z)
    intro w mg fa h Y G hmg0
    obtain ⟨K, KX, c⟩ := Y
    have hmg : mg ("law" : PySem.Str) = some (.ref fa) := by
      have e : (HandSHeadRun.topDef (OpenLaw.row PySem.Challenge.rw_weirkeepers_k00_rivers_made).prog 36).name = ("law" : PySem.Str) := by kernel_rfl
      rw [← e]
      exact hmg0
    exact ⟨K, KX, K0H.facts KX G hmg c⟩
end
