import PyProof.Rows.All
import Wide.All
import OpenK.AllK
import Wide.FinOn
import KE.KExcSuper
import KE.KExcIs
import KE.RegKSuper
import KE.GoesMore
import HandS.ForMost
import HandS.EndBits
import HandS.Wide
import HandS.Star
import HandS.IsInst
import HandS.Codes
import HandS.More
import HandS.StrMore
import HandS.ClsMeth
import HandS.SlotsOwn
import HandS.Steps
import HandS.Walk
import HandS.FStrTup
import HandS.FStr
import HandS.ExcInit
import HandS.ExcField
import HandS.ExcIs
import HandS.ExcOwn
import HandS.WordsExc
import HandS.DictComp
import HandS.CallLocal
import HandS.Zip
import HandS.Property
import HandS.MethStar
import HandS.ListItems
import HandS.SetKeys
import HandS.TupAny
import HandS.Defaults
import HandS.Style
import KE.KDictPairs
import KE.KItemsList
import PyProof.TupleCall
import HandS.HeadHook3
import HandS.HeadHook2
import HandS.HeadHook1
import HandS.HeadEnd
import HandS.Head2
import HandS.Head1
import HandS.Head0
import KE.KStateDown
import KE.KEqNest
import PySem.Challenge.RW_quietprobes_k16_whole_looks_without_a_tr
set_option Elab.async false
set_option maxRecDepth 100000
set_option maxHeartbeats 4000000
set_option linter.all false
namespace Qp
open PySem L2
def top (i : Nat) : Stmt := PySem.Challenge.pw_quietprobes_k16_whole_looks_without_a_tr.main.body.getD i (.Pass ⟨0, 0, 0, 0⟩)
abbrev sIsInt : Stmt := top 16
abbrev sIsName : Stmt := top 17
abbrev sNames : Stmt := top 18
abbrev sUnlike : Stmt := top 19
abbrev sCls : Stmt := top 22
abbrev sIsDeed : Stmt := top 26
abbrev sIsPart : Stmt := top 27
abbrev sIsLength : Stmt := top 28
abbrev sCheckDeed : Stmt := top 29
abbrev sState : Stmt := top 32
abbrev sDone : Stmt := top 62
abbrev sWorld : Stmt := top 65
abbrev sFields : Stmt := top 66
abbrev sTake : Stmt := top 33
abbrev sSkip : Stmt := top 34
abbrev sDrain : Stmt := top 35
abbrev sFetch : Stmt := top 36
abbrev sBind : Stmt := top 37
abbrev sRoll : Stmt := top 38
abbrev sSeed : Stmt := top 39
abbrev sGet : Stmt := top 40
abbrev sPeek : Stmt := top 41
abbrev sHas : Stmt := top 42
abbrev sPut : Stmt := top 43
abbrev sFill : Stmt := top 44
abbrev sDrop : Stmt := top 45
abbrev sSize : Stmt := top 46
abbrev sKeys : Stmt := top 47
abbrev sLoad : Stmt := top 48
abbrev sWipe : Stmt := top 49
abbrev sChange : Stmt := top 50
abbrev sLook : Stmt := top 51
abbrev sRenew : Stmt := top 52
abbrev sLift : Stmt := top 53
abbrev sRead : Stmt := top 54
abbrev sKeep : Stmt := top 55
abbrev sCopy : Stmt := top 56
abbrev sBound : Stmt := top 57
abbrev sMark : Stmt := top 58
abbrev sValue : Stmt := top 59
abbrev sSpy : Stmt := top 60
abbrev sPool : Stmt := top 69
abbrev sDraw : Stmt := top 70
abbrev sLNames : Stmt := top 71
abbrev sWide : Stmt := top 72
abbrev sTableOf : Stmt := top 73
abbrev sThing : Stmt := top 74
abbrev sThingOf : Stmt := top 75
abbrev sWorldOf : Stmt := top 76
abbrev sWord : Stmt := top 77
abbrev sAnyDeed : Stmt := top 78
abbrev sSame : Stmt := top 68
abbrev sLaw : Stmt := top 81
abbrev sQuiet : Stmt := top 4
abbrev sTrace : Stmt := top 3
abbrev sThOf : Stmt := top 5
abbrev sLooks : Stmt := top 79
abbrev sPair : Stmt := top 80
abbrev me (i : Nat) : Stmt := (C8.clsBody sCls).getD i (.Pass ⟨0, 0, 0, 0⟩)
abbrev st (i : Nat) : Stmt := (C8.clsBody sState).getD i (.Pass ⟨0, 0, 0, 0⟩)
abbrev wo (i : Nat) : Stmt := (C8.clsBody sWorld).getD i (.Pass ⟨0, 0, 0, 0⟩)
/-! ### the pool of drawn numbers -/
/-- all objects but the two of the pool stay -/
def Keeps (p q : Addr) (H H' : Hp) : Prop := ∀ x o, x ≠ p → x ≠ q → H x = some o → H' x = some o
theorem Keeps.refl (p q : Addr) (H : Hp) : Keeps p q H H := fun _ _ _ _ e => e
theorem Keeps.trans {p q : Addr} {H H1 H2 : Hp} (a : Keeps p q H H1) (b : Keeps p q H1 H2) : Keeps p q H H2 := fun x o h1 h2 e => b x o h1 h2 (a x o h1 h2 e)
theorem Keeps.of_same {p q : Addr} {H H1 : Hp} (a : Same H H1) : Keeps p q H H1 := fun x o _ _ e => a x o e
theorem Keeps.upd_p {p q : Addr} {H : Hp} {o : HO} : Keeps p q H (upd H p o) := fun x u h1 _ e => by
  rw [upd_ne h1]; exact e
theorem Keeps.upd_q {p q : Addr} {H : Hp} {o : HO} : Keeps p q H (upd H q o) := fun x u _ h2 e => by
  rw [upd_ne h2]; exact e
theorem Keeps.upd_new {p q a : Addr} {H : Hp} {o : HO} (n : H a = none) : Keeps p q H (upd H a o) := fun x u _ _ e => by
  rw [upd_ne (ne_of_none e n)]; exact e
theorem Keeps.free {p q a : Addr} {H H1 : Hp} (k : Keeps p q H H1) (n : H1 a = none) (hp : a ≠ p) (hq : a ≠ q) : H a = none := by
  cases e : H a with
  | none => rfl
  | some o => rw [k a o hp hq e] at n; cases n
/-- the pool's two lists: how many numbers were drawn is n -/
structure PoolAt (H : Hp) (p q : Addr) (n : Nat) : Prop where
  ne : p ≠ q
  ex : ∃ (cs : List Int) (b c : Int), H p = some (.lst [.ref q, .int b, .int (n : Int), .int c]) ∧ H q = some (.lst (cs.map V.int)) ∧ cs.length ≤ 1000 ∧ 0 ≤ b ∧ 0 ≤ c ∧ c < 2147483629
theorem PoolAt.p_some {H : Hp} {p q : Addr} {n : Nat} (h : PoolAt H p q n) : ∃ o, H p = some o := let ⟨_, _, _, e, _⟩ := h.ex; ⟨_, e⟩
theorem PoolAt.q_some {H : Hp} {p q : Addr} {n : Nat} (h : PoolAt H p q n) : ∃ o, H q = some o := let ⟨_, _, _, _, e, _⟩ := h.ex; ⟨_, e⟩
theorem PoolAt.same {H H' : Hp} {p q : Addr} {n : Nat} (h : PoolAt H p q n) (s : Same H H') : PoolAt H' p q n := by
  obtain ⟨ne, cs, b, c, e1, e2, r⟩ := h
  exact ⟨ne, cs, b, c, s _ _ e1, s _ _ e2, r⟩
theorem PoolAt.new {H : Hp} {p q a : Addr} {n : Nat} {o : HO} (h : PoolAt H p q n) (na : H a = none) : PoolAt (upd H a o) p q n :=
  h.same fun x u e => by rw [upd_ne (ne_of_none e na)]; exact e
section
variable {X : Cx}
theorem get_list : PGet X (rIxL X.K) := by
  intro pins s σ H o i ov iv Q I ro ri h
  obtain ⟨p, xs, k, z, rfl, rfl, hq, he, q⟩ := h
  cases ro
  obtain ⟨t, rfl⟩ := ri
  obtain ⟨its, r, pl, hz⟩ := I.list hq
  obtain ⟨j, h1, h2, h3, h4, h5⟩ := atI_get he
  obtain ⟨w, ew, rw'⟩ := r.get h2
  have hl := r.length
  have hn := line63
  have fin : EP X pins σ Q w s := ⟨z, H, I, rw', q⟩
  by_cases h0 : 0 ≤ k
  · have hj : k.toNat = j := by
      rw [seqIndex_of h0 h5] at h1
      exact Option.some.inj h1
    exact wpAny_getItem_list pl.isList h0 (by omega) (by rw [hj]; simpa using ew) fin
  · have hj : (k + (its.toArray.size : Int)).toNat = j := by
      rw [seqIndex_neg (by omega) h4] at h1
      rw [List.size_toArray, ← hl]
      exact Option.some.inj h1
    exact wpAny_getItem_list_neg pl.isList (by omega) (by rw [List.size_toArray] <;> omega) (by omega) (by rw [hj]; simpa using ew) fin
end
theorem div_many {b m : Int} (h0 : 0 < m) (h1 : m ≤ 10 ^ 40) : CDivW b m := by
  refine wide_div (b := 200) h0 ?_ (by decide) (by decide)
  have h : m.natAbs ≤ 10 ^ 40 := by omega
  exact Nat.lt_of_le_of_lt h (by decide)
def spDraw : Sp := fun vs H Q _ => ∃ (p q : Addr) (n : Nat) (m : Int), vs = [.ref p, .int m] ∧ PoolAt H p q n ∧ n < 1000000 ∧ 0 < m ∧ m ≤ 10 ^ 40 ∧
  ∀ (d : Int) (H' : Hp), 0 ≤ d → d < m → PoolAt H' p q (n + 1) → Keeps p q H H' → Q (.int d) H'
section
variable {P : Program} {w : World} {K : PySem.W.Frag} {mg : Str → Option Value} {base : Heap}
theorem scD : FnScope ["pool", "many", "cell", "code", "digit", "far", "mixed"] ["pool", "many"] (defScope sDraw) := ⟨rfl, rfl, rfl, by decide +kernel, rfl, by decide +kernel, by decide +kernel⟩
theorem ok_draw {f : Addr} {fd : FuncData} {k : Nat} (F : Fun K "_law_draw" "_law_draw" sDraw f fd) (mi : mg "int" = none) : FnOk P w K mg base CX0 (k + 1) f fd ["pool", "many"] spDraw := by
  refine F.ok scD (fun vs H Q E h => ?_) (fun cdv A outer s H vs Q E hr h => ?_)
  · obtain ⟨p, q, n, m, rfl, _⟩ := h
    rfl
  · obtain ⟨p, q, n, m, rfl, ⟨npq, cs, b, c, hp, hq, hcs, hb, hc0, hc1⟩, hn, hm0, hm1, kk⟩ := h
    refine ⟨_,
      pss_cons (ps_augS (pv 0) pe_int get_list pe_int ip_add set_list)
      (C8.pss_cut (ps_if (PW.pt (pw_and (pt_cmpR op_eq (pe_ix ix_list (pv 0) pe_int (fun _ _ => rfl)) pe_int (nomark _)) (pw_and1 (pt_truth (pe_ix ix_list (pv 0) pe_int (fun _ _ => rfl)) (by intro _; rfl)))))
        (pss_cons (ps_set (i := 2) scD.nd rfl (.inl rfl) (pe_callTy call_int1 (by rfl) mi (by decide +kernel) (pa_cons (pe_bm PySem.F.plainAttrs_list PySem.F.slot_list_pop PySem.F.type_list_pop mt_popAt (pe_ix ix_list (pv 0) pe_int (fun _ _ => rfl)) (pa_cons pe_int pa_nil)) pa_nil)))
        (C8.pss_cut (ps_set (i := 3) scD.nd rfl (.inl rfl) (pe_ifExp (pt_cmpR op_ge (pv 2) pe_int (nomark _)) (pe_op op_mul pe_int (pv 2)) (pe_op op_sub (pe_un un_neg pe_int) (pe_op op_mul pe_int (pv 2)))))
        (pss_one (ps_if (pt_cmpR op_ge (pv 3) (pe_op op_pow pe_int pe_int) (nomark _))
          (pss_one (ps_asg (pv 3) (pg_sub (pv 0) pe_int set_list)))
          (pss_one (ps_asg (pe_op op_mod (pe_callTy call_int1 (by rfl) mi (by decide +kernel) (pa_cons (pe_op op_add (pe_op op_add (pe_op op_mul (pe_ix ix_list (pv 0) pe_int (fun _ _ => rfl)) pe_int) (pe_op op_mul (pv 3) pe_int)) pe_int) pa_nil)) pe_int) (pg_sub (pv 0) pe_int set_list)))))))
        pss_nil)
      (pss_cons (ps_if (pt_cmpR op_gt (pe_ix ix_list (pv 0) pe_int (fun _ _ => rfl)) pe_int (nomark _))
        (pss_cons (ps_set (i := 4) scD.nd rfl (.inl rfl) (pe_op op_mod (pe_callTy call_int1 (by rfl) mi (by decide +kernel) (pa_cons (pe_ix ix_list (pv 0) pe_int (fun _ _ => rfl)) pa_nil)) (pv 1)))
        (pss_cons (ps_asg (pe_op op_fdivW (pe_ix ix_list (pv 0) pe_int (fun _ _ => rfl)) (pv 1)) (pg_sub (pv 0) pe_int set_list))
        (pss_one (ps_ret (pv 4)))))
        pss_nil)
      (pss_cons (ps_if (pt_cmpR op_eq (pe_ix ix_list (pv 0) pe_int (fun _ _ => rfl)) pe_int (nomark _)) (pss_one (ps_ret pe_int)) pss_nil)
      (pss_cons (ps_set (i := 5) scD.nd rfl (.inl rfl) (pe_op op_add (pe_op op_mul (pe_ix ix_list (pv 0) pe_int (fun _ _ => rfl)) pe_int) (pe_op op_mul (pe_op op_mul (pe_ix ix_list (pv 0) pe_int (fun _ _ => rfl)) (pe_ix ix_list (pv 0) pe_int (fun _ _ => rfl))) pe_int)))
      (pss_cons (ps_set (i := 6) scD.nd rfl (.inl rfl) (pe_op op_mod (pe_callTy call_int1 (by rfl) mi (by decide +kernel) (pa_cons (pe_op op_add (pe_op op_mul (pe_ix ix_list (pv 0) pe_int (fun _ _ => rfl)) pe_int) (pv 5)) pa_nil)) pe_int))
      (pss_one (ps_ret (pe_op op_mod (pe_op op_mod (pe_callTy call_int1 (by rfl) mi (by decide +kernel) (pa_cons (pe_op op_fdiv (pe_op op_mul (pv 6) pe_int) pe_int) pa_nil)) pe_int) (pv 1))))))))), ?_⟩
    -- pool[2] += 1
    have g : ∀ {H : Hp} {x y z t : V}, H p = some (.lst [x, y, z, t]) → SqL K H p [x, y, z, t] := fun e => SqL.of e
    refine ⟨_, rfl, p, _, 2, _, rfl, rfl, g hp, atI_nat (j := 2) rfl, n, 1, rfl, rfl, p, _, 2, 2, rfl, rfl, hp, rfl, ?_⟩
    have K1 : Keeps p q H (upd H p (.lst [.ref q, .int b, .int ((n : Int) + 1), .int c])) := Keeps.upd_p
    have hp1 : (upd H p (.lst [.ref q, .int b, .int ((n : Int) + 1), .int c])) p = some (.lst [.ref q, .int b, .int ((n : Int) + 1), .int c]) := upd_same
    have hq1 : (upd H p (.lst [.ref q, .int b, .int ((n : Int) + 1), .int c])) q = some (.lst (cs.map V.int)) := by rw [upd_ne npq.symm]; exact hq
    refine ⟨fun σ H1 => ∃ (cs b c : _) (y2 y3 : Option V), σ = [some (.ref p), some (.int m), y2, y3, none, none, none] ∧ Keeps p q H H1 ∧
      H1 p = some (.lst [.ref q, .int b, .int ((n : Int) + 1), .int c]) ∧ H1 q = some (.lst (List.map V.int cs)) ∧ cs.length ≤ 1000 ∧ 0 ≤ b ∧ 0 ≤ c ∧ c < 2147483629, ?_, ?_⟩
    · -- if pool[1] == 0 and pool[0]
      refine ⟨_, rfl, p, _, 1, _, rfl, rfl, g hp1, atI_nat (j := 1) rfl, rfl, _, rfl, ?_⟩
      refine ite2 (fun _ => ?_) (fun _ => ?_)
      · refine ⟨_, rfl, p, _, 0, _, rfl, rfl, g hp1, atI_nat (j := 0) rfl, _, .inl ⟨_, SqL.of hq1, rfl⟩, ?_⟩
        cases cs with
        | nil =>
          refine iteF ?_
          exact ⟨[], b, c, none, none, rfl, K1, hp1, hq1, Nat.zero_le _, hb, hc0, hc1⟩
        | cons z r =>
          refine iteT ?_
          -- cell = int(pool[0].pop(0))
          refine ⟨_, rfl, p, _, 0, _, rfl, rfl, g hp1, atI_nat (j := 0) rfl, .inl ⟨rfl, _, SqL.of hq1⟩, q, _, 0, 0, _, rfl, rfl, hq1, by decide, by decide, seqIndex_of (by decide) (by simp), rfl, ?_⟩
          have hq2 : (upd (upd H p (.lst [.ref q, .int b, .int ((n : Int) + 1), .int c])) q (.lst (r.map V.int))) q = some (.lst (r.map V.int)) := upd_same
          have hp2 : (upd (upd H p (.lst [.ref q, .int b, .int ((n : Int) + 1), .int c])) q (.lst (r.map V.int))) p = some (.lst [.ref q, .int b, .int ((n : Int) + 1), .int c]) := by
            rw [upd_ne npq, hp1]
          have K2 : Keeps p q H (upd (upd H p (.lst [.ref q, .int b, .int ((n : Int) + 1), .int c])) q (.lst (r.map V.int))) := K1.trans .upd_q
          refine .inl ⟨z, rfl, ?_⟩
          have hr1 : r.length ≤ 1000 := Nat.le_of_succ_le hcs
          -- code
          refine ⟨fun σ H1 => ∃ code : Int, σ = [some (.ref p), some (.int m), some (.int z), some (.int code), none, none, none] ∧ 0 ≤ code ∧ H1 = upd (upd H p (.lst [.ref q, .int b, .int ((n : Int) + 1), .int c])) q (.lst (r.map V.int)), ?_, ?_⟩
          · refine ⟨_, rfl, _, _, rfl, rfl, _, rfl, ?_⟩
            refine ite2 (fun hz => ?_) (fun hz => ?_)
            · have hz' : 0 ≤ z := of_decide_eq_true hz
              exact ⟨_, rfl, _, _, rfl, rfl, .inl (by decide), 2 * z, rfl, by omega, rfl⟩
            · have hz' : ¬ 0 ≤ z := fun e => hz (decide_eq_true e)
              exact ⟨_, rfl, _, rfl, _, _, rfl, rfl, .inl (by decide), _, _, rfl, rfl, -1 - 2 * z, rfl, by omega, rfl⟩
          · rintro σ H1 ⟨code, rfl, hcode, rfl⟩
            refine ⟨_, rfl, _, _, rfl, rfl, ⟨by decide, by decide, by decide⟩, _, _, rfl, rfl, _, rfl, ?_⟩
            refine ite2 (fun hz => ?_) (fun hz => ?_)
            · refine ⟨_, rfl, _, rfl, p, _, 1, 1, rfl, rfl, hp2, rfl, ?_⟩
              exact ⟨r, code, c, _, _, rfl, K2.trans .upd_p, upd_same, by rw [upd_ne npq.symm]; exact hq2, hr1, hcode, hc0, hc1⟩
            · have hz' : ¬ ((10 : Int) ^ (18 : Int).toNat ≤ code) := fun e => hz (decide_eq_true e)
              refine ⟨_, rfl, p, _, 3, _, rfl, rfl, g hp2, atI_nat (j := 3) rfl, _, _, rfl, rfl, .inl ⟨by omega, by omega⟩, _, rfl, _, _, rfl, rfl, .inr (by decide), _, _, rfl, rfl, _, _, rfl, rfl, .inl ⟨_, rfl, _, _, rfl, rfl, (by show (0 : Int) < 2147483629; decide), _, rfl, p, _, 3, 3, rfl, rfl, hp2, rfl, ?_⟩⟩
              refine ⟨r, b, _, _, _, rfl, K2.trans .upd_p, upd_same, by rw [upd_ne npq.symm]; exact hq2, hr1, hb, Int.emod_nonneg _ (by decide), Int.emod_lt_of_pos _ (by decide)⟩
      · exact ⟨cs, b, c, none, none, rfl, K1, hp1, hq1, hcs, hb, hc0, hc1⟩
    · rintro σ H1 ⟨cs, b, c, y2, y3, rfl, K1, hp1, hq1, hcs, hb, hc0, hc1⟩
      have en : ((n : Int) + 1) = ((n + 1 : Nat) : Int) := by omega
      rw [en] at hp1
      -- if pool[1] > 0
      refine ⟨_, rfl, p, _, 1, _, rfl, rfl, g hp1, atI_nat (j := 1) rfl, _, _, rfl, rfl, _, rfl, ?_⟩
      refine ite2 (fun h1 => ?_) (fun h1 => ?_)
      · have hdm : (0 : Int) < m := hm0
        refine ⟨_, rfl, p, _, 1, _, rfl, rfl, g hp1, atI_nat (j := 1) rfl, .inl ⟨_, rfl, _, rfl, _, _, rfl, rfl, hm0, ?_⟩⟩
        refine ⟨_, rfl, p, _, 1, _, rfl, rfl, g hp1, atI_nat (j := 1) rfl, _, rfl, _, _, rfl, rfl, div_many hm0 hm1, ?_⟩
        refine ⟨_, rfl, p, _, 1, 1, rfl, rfl, hp1, rfl, ?_⟩
        refine ⟨_, rfl, ?_⟩
        exact kk _ _ (Int.emod_nonneg _ (by omega)) (Int.emod_lt_of_pos _ hm0) ⟨npq, cs, b / m, c, upd_same, by rw [upd_ne npq.symm]; exact hq1, hcs, Int.ediv_nonneg hb (by omega), hc0, hc1⟩ (K1.trans .upd_p)
      · -- if pool[3] == 0
        refine ⟨_, rfl, p, _, 3, _, rfl, rfl, g hp1, atI_nat (j := 3) rfl, rfl, _, rfl, ?_⟩
        refine ite2 (fun h3 => ?_) (fun h3 => ?_)
        · exact kk 0 _ (by decide) hm0 ⟨npq, cs, b, c, hp1, hq1, hcs, hb, hc0, hc1⟩ K1
        · refine ⟨_, rfl, p, _, 2, _, rfl, rfl, g hp1, atI_nat (j := 2) rfl, _, _, rfl, rfl, .inr (by decide), _, rfl, p, _, 2, _, rfl, rfl, g hp1, atI_nat (j := 2) rfl, _, rfl, p, _, 2, _, rfl, rfl, g hp1, atI_nat (j := 2) rfl, _, _, rfl, rfl, .inl ⟨by omega, by omega⟩, _, _, rfl, rfl, .inr (by decide), _, _, rfl, rfl, ?_⟩
          refine ⟨_, rfl, p, _, 3, _, rfl, rfl, g hp1, atI_nat (j := 3) rfl, _, _, rfl, rfl, .inl ⟨by omega, by omega⟩, _, rfl, _, _, rfl, rfl, .inl ⟨_, rfl, _, _, rfl, rfl, (by show (0 : Int) < 2147483647; decide), ?_⟩⟩
          refine ⟨_, rfl, _, _, rfl, rfl, .inr (by decide), _, _, rfl, rfl, ⟨by decide, by decide⟩, .inl ⟨_, rfl, _, _, rfl, rfl, (by show (0 : Int) < 2147483629; decide), _, rfl, _, _, rfl, rfl, hm0, ?_⟩⟩
          exact kk _ _ (Int.emod_nonneg _ (by omega)) (Int.emod_lt_of_pos _ hm0) ⟨npq, cs, b, c, hp1, hq1, hcs, hb, hc0, hc1⟩ K1
end
/-! ### the pool made, a word drawn -/
theorem cut_take (xs : List V) (k : Nat) : cutV xs none (some (k : Int)) = xs.take k := by
  unfold cutV
  rw [HT.sIx_nat, HT.sIx_none]
  show (xs.drop 0).take (min k xs.length - 0) = xs.take k
  rw [List.drop_zero, Nat.sub_zero]
  by_cases h : k ≤ xs.length
  · rw [Nat.min_eq_left h]
  · rw [Nat.min_eq_right (by omega), List.take_of_length_le (Nat.le_refl _), List.take_of_length_le (by omega)]
def spPool (K : PySem.W.Frag) : Sp := fun vs H Q _ => ∃ (a : Addr) (ns : List Int), vs = [.ref a] ∧ SqL K H a (ns.map V.int) ∧ ns.length ≤ 63 ∧ ∀ (p q : Addr) (H' : Hp), H p = none → H q = none → PoolAt H' p q 0 → Same H H' → Q (.ref p) H'
/-- one to eight letters -/
def IsWord (z : Str) : Prop := 1 ≤ z.length ∧ z.length ≤ 8 ∧ ∀ c ∈ z.cps.toList, 97 ≤ c ∧ c ≤ 122
def spWord : Sp := fun vs H Q _ => ∃ (p q : Addr) (n : Nat), vs = [.ref p] ∧ PoolAt H p q n ∧ n < 900000 ∧
  ∀ (z : Str) (n' : Nat) (H' : Hp), IsWord z → n ≤ n' → n' ≤ n + 9 → PoolAt H' p q n' → Keeps p q H H' → Q (.str z) H'
theorem sum_ones : ∀ ys : List Str, (∀ y ∈ ys, y.length = 1) → (ys.map (·.length)).sum = ys.length
  | [], _ => rfl
  | x :: r, h => by
    rw [List.map_cons, List.sum_cons, h x List.mem_cons_self, sum_ones r fun y hy => h y (List.mem_cons_of_mem _ hy), List.length_cons]
    omega
theorem join_letters {sep : Str} (hs : sep.cps.toList = []) : ∀ ys : List Str, (∀ y ∈ ys, ∃ c, y = ⟨#[c]⟩ ∧ 97 ≤ c ∧ c ≤ 122) → (Str.join sep ys).length = ys.length ∧ ∀ c ∈ (Str.join sep ys).cps.toList, 97 ≤ c ∧ c ≤ 122
  | [], _ => ⟨rfl, fun c h => by cases h⟩
  | [x], h => by
    obtain ⟨c, rfl, h1, h2⟩ := h x List.mem_cons_self
    exact ⟨rfl, fun d hd => by
      have e : d = c := List.mem_singleton.mp hd
      rw [e]; exact ⟨h1, h2⟩⟩
  | x :: y :: r, h => by
    obtain ⟨c, rfl, h1, h2⟩ := h x List.mem_cons_self
    obtain ⟨i1, i2⟩ := join_letters hs (y :: r) fun z hz => h z (List.mem_cons_of_mem _ hz)
    have sl : sep.length = 0 := by
      show sep.cps.size = 0
      rw [← Array.length_toList, hs]; rfl
    have e : (Str.join sep ((⟨#[c]⟩ : Str) :: y :: r)) = (⟨#[c]⟩ : Str) ++ sep ++ Str.join sep (y :: r) := rfl
    rw [e]
    refine ⟨?_, fun d hd => ?_⟩
    · rw [strLen_append, strLen_append, i1, sl]
      show 1 + 0 + (y :: r).length = _
      simp only [List.length_cons]; omega
    · rcases PyProof.Rows.mem_cps_append.mp hd with hd | hd
      · rcases PyProof.Rows.mem_cps_append.mp hd with hd | hd
        · have e : d = c := List.mem_singleton.mp hd
          rw [e]; exact ⟨h1, h2⟩
        · rw [hs] at hd; cases hd
      · exact i2 d hd
def abc : Str := "abcdefghijklmnopqrstuvwxyz"
theorem abc_len : abc.length = 26 := by decide +kernel
theorem abc_at (d : Int) (h0 : 0 ≤ d) (h1 : d < 26) : ∃ c, atI abc.cps.toList d = some c ∧ 97 ≤ c ∧ c ≤ 122 := by
  obtain ⟨k, rfl⟩ : ∃ k : Nat, d = (k : Int) := ⟨d.toNat, by omega⟩
  have hk : k < 26 := by omega
  have all : ∀ k : Fin 26, ∃ c, abc.cps.toList[k.val]? = some c ∧ 97 ≤ c ∧ c ≤ 122 := by
    have h : ∀ k : Fin 26, (match abc.cps.toList[k.val]? with | some c => decide (97 ≤ c ∧ c ≤ 122) | none => false) = true := by decide +kernel
    intro k
    have := h k
    cases e : abc.cps.toList[k.val]? with
    | none => rw [e] at this; cases this
    | some c =>
      rw [e] at this
      exact ⟨c, rfl, of_decide_eq_true this⟩
  obtain ⟨c, e, r⟩ := all ⟨k, hk⟩
  exact ⟨c, atI_nat e, r⟩
section
variable {P : Program} {w : World} {K : PySem.W.Frag} {mg : Str → Option Value} {base : Heap}
theorem scP : FnScope ["script"] ["script"] (defScope sPool) := ⟨rfl, rfl, rfl, by decide +kernel, rfl, by decide +kernel, by decide +kernel⟩
theorem ok_pool {f : Addr} {fd : FuncData} {k : Nat} (F : Fun K "_law_pool" "_law_pool" sPool f fd) (ml : mg "list" = none) : FnOk P w K mg base CX0 (k + 1) f fd ["script"] (spPool K) := by
  refine F.ok scP (fun vs H Q E h => ?_) (fun cdv A outer s H vs Q E hr h => ?_)
  · obtain ⟨a, ns, rfl, _⟩ := h
    rfl
  · obtain ⟨a, ns, rfl, hS, hl, kk⟩ := h
    refine ⟨_, pss_one (ps_ret (pe_lst (pa_cons (pe_callTy call_list_of (by rfl) ml (by decide +kernel) (pa_cons (pe_slice sl_list (pv 0) po_none (po_some pe_int)) pa_nil)) (pa_cons pe_int (pa_cons pe_int (pa_cons pe_int pa_nil)))))), ?_⟩
    refine ⟨.ref a, rfl, 63, rfl, a, _, rfl, hS, fun c nc => ?_⟩
    have e : cutV (ns.map V.int) none (some 63) = (ns.take 63).map V.int := by
      rw [List.map_take]; exact cut_take _ 63
    rw [e]
    refine ⟨c, _, rfl, .inl (SqL.of upd_same), fun q nq => ?_⟩
    refine ⟨by show 4 ≤ sizeLine; decide, fun p np => ?_⟩
    have hc : (upd H c (.lst ((ns.take 63).map V.int))) c = some (.lst ((ns.take 63).map V.int)) := upd_same
    have s1 : Same H (upd H c (.lst ((ns.take 63).map V.int))) := fun b o z => by rw [upd_ne (ne_of_none z nc)]; exact z
    have s2 : Same (upd H c (.lst ((ns.take 63).map V.int))) (upd (upd H c (.lst ((ns.take 63).map V.int))) q (.lst ((ns.take 63).map V.int))) := fun b o z => by rw [upd_ne (ne_of_none z nq)]; exact z
    have hq : (upd (upd H c (.lst ((ns.take 63).map V.int))) q (.lst ((ns.take 63).map V.int))) q = some (.lst ((ns.take 63).map V.int)) := upd_same
    have s3 := fun o => (fun b u z => by rw [upd_ne (ne_of_none z np)]; exact z : Same (upd (upd H c (.lst ((ns.take 63).map V.int))) q (.lst ((ns.take 63).map V.int))) (upd _ p o))
    refine kk p q _ ((s1.trans s2).free np) (s1.free nq) ⟨(ne_of_none hq np).symm, ns.take 63, 0, 0, upd_same, s3 _ _ _ hq, by rw [List.length_take]; omega, by decide, by decide, by decide⟩ ((s1.trans s2).trans (s3 _))
end
/-! ### two data are the same -/
/-- no deeper than that -/
def dp : Nat → PyData → Prop
  | 0, _ => False
  | _ + 1, .none => True
  | _ + 1, .bool _ => True
  | _ + 1, .int _ => True
  | _ + 1, .str _ => True
  | m + 1, .list xs => xs.length ≤ 1000000 ∧ ∀ x ∈ xs, dp m x
  | m + 1, .tuple xs => xs.length ≤ 1000000 ∧ ∀ x ∈ xs, dp m x
  | _ + 1, .dict _ => False
theorem dp_mono : ∀ {m n : Nat} {d : PyData}, m ≤ n → dp m d → dp n d
  | 0, _, _, _, h => by simp [dp] at h
  | m + 1, 0, _, h, _ => by omega
  | m + 1, n + 1, d, h, hd => by
    cases d with
    | none => simp [dp]
    | bool b => simp [dp]
    | int i => simp [dp]
    | str s => simp [dp]
    | list xs =>
      simp only [dp] at hd ⊢
      exact ⟨hd.1, fun x hx => dp_mono (Nat.le_of_succ_le_succ h) (hd.2 x hx)⟩
    | tuple xs =>
      simp only [dp] at hd ⊢
      exact ⟨hd.1, fun x hx => dp_mono (Nat.le_of_succ_le_succ h) (hd.2 x hx)⟩
    | dict xs => simp [dp] at hd
def tyName : PyData → String
  | .none => "NoneType"
  | .bool _ => "bool"
  | .int _ => "int"
  | .str _ => "str"
  | .list _ => "list"
  | .tuple _ => "tuple"
  | .dict _ => "dict"
theorem ty_of {K : PySem.W.Frag} {H : Hp} {v : V} {d : PyData} (h : Dp K H v d) : TyX K H v (.type (tyName d)) := by
  cases h with
  | non => exact .base .non
  | bl b => exact .base (.bl b)
  | int i => exact .base (.int i)
  | str x => exact .base (.str x)
  | lst hs _ =>
    rcases hs with (h | ⟨o, h⟩) | ⟨o, its, n, hk, hc, _⟩
    · exact .base (.lst h)
    · exact .base (.frz h)
    · exact .kList hk hc
  | tup hs _ =>
    rcases hs with (h | ⟨o, h⟩) | ⟨o, its, n, hk, hc, _⟩
    · exact .base (.tup h)
    · exact .fTuple h
    · exact .kTuple hk hc
theorem isi {K : PySem.W.Frag} {H : Hp} {v : V} {d : PyData} {T : String} {b : Bool} {Q : VK} (h : Dp K H v d) (e : kitB (tyName d) T = some b) (q : Q (.bl b) H) : rIsi K [v, .ty T] H Q :=
  ⟨v, .ty T, _, _, b, rfl, ClsV.ty T, ty_of h, kit_ty e, q⟩
theorem dpAll_len {K : PySem.W.Frag} {H : Hp} : ∀ {vs : List V} {ds : List PyData}, DpAll K H vs ds → vs.length = ds.length
  | _, _, .nil => rfl
  | _, _, .cons _ t => by rw [List.length_cons, List.length_cons, dpAll_len t]
theorem dpAll_get {K : PySem.W.Frag} {H : Hp} : ∀ {vs : List V} {ds : List PyData} {i : Nat} {d : PyData}, DpAll K H vs ds → ds[i]? = some d → ∃ v, vs[i]? = some v ∧ Dp K H v d
  | _, _, _, _, .nil, e => by simp at e
  | _, _, 0, _, .cons h _, e => by
    have e' := Option.some.inj e
    subst e'
    exact ⟨_, rfl, h⟩
  | _, _, i + 1, _, .cons _ t, e => dpAll_get (i := i) t e
def spSame (K : PySem.W.Frag) (m : Nat) : Sp := fun vs H Q _ => ∃ (v u : V) (d : PyData), vs = [v, u] ∧ Dp K H v d ∧ Dp K H u d ∧ dp m d ∧ Q (.bl true) H
/-- what the names of classes and of len, range stand for -/
structure Bts (mg : Str → Option Value) : Prop where
  isinstance : mg "isinstance" = none
  bool : mg "bool" = none
  str : mg "str" = none
  int : mg "int" = none
  list : mg "list" = none
  tuple : mg "tuple" = none
  len : mg "len" = none
  range : mg "range" = none
section
variable {P : Program} {w : World} {K : PySem.W.Frag} {mg : Str → Option Value} {base : Heap}
theorem fn_never {f : Addr} {fd : FuncData} {ps : List Str} : FnOk P w K mg base CX0 0 f fd ps (fun _ _ _ _ => False) :=
  ⟨fun _ _ _ _ h => h.elim, fun _ _ _ _ _ _ _ _ _ _ _ _ _ h => h.elim⟩
theorem scS : FnScope ["actual", "due", "k"] ["actual", "due"] (defScope sSame) := ⟨rfl, rfl, rfl, by decide +kernel, rfl, by decide +kernel, by decide +kernel⟩
theorem ok_same {f : Addr} {fd : FuncData} (F : Fun K "_law_same" "_law_same" sSame f fd) (B : Bts mg) (mS : mg "_law_same" = some (.ref f)) (bS : Binds K fd ["actual", "due"] []) : ∀ m : Nat, FnOk P w K mg base CX0 m f fd ["actual", "due"] (spSame K m)
  | 0 => fn_never.imp fun vs H Q E h => by
    obtain ⟨v, u, d, _, _, _, h, _⟩ := h
    simp [dp] at h
  | m + 1 => by
    have IH := ok_same F B mS bS m
    refine F.ok scS (fun vs H Q E h => ?_) (fun cdv A outer s H vs Q E hr h => ?_)
    · obtain ⟨v, u, d, rfl, _⟩ := h
      rfl
    · obtain ⟨v, u, d, rfl, hv, hu, hd, kk⟩ := h
      refine ⟨_,
        pss_cons (ps_if (pt_cmpR op_isN (pv 1) pe_non (nomark _)) (pss_one (ps_ret (pe_cmp (pc_isN (pv 0)) rfl))) pss_nil)
        (pss_cons (ps_if (PW.pt (pw_or (pt_val (pe_callB call_isi (by rfl) B.isinstance (by decide +kernel) (pa_cons (pv 1) (pa_cons (pe_bltn (v := .ty "bool") (by rfl) B.bool (by decide +kernel) rfl) pa_nil))))
              (pw_or1 (pt_val (pe_callB call_isi (by rfl) B.isinstance (by decide +kernel) (pa_cons (pv 1) (pa_cons (pe_bltn (v := .ty "str") (by rfl) B.str (by decide +kernel) rfl) pa_nil)))))))
            (pss_cons (ps_if (PW.pt (pw_or
                (pt_cmpR op_ne (pe_callB call_isi (by rfl) B.isinstance (by decide +kernel) (pa_cons (pv 0) (pa_cons (pe_bltn (v := .ty "bool") (by rfl) B.bool (by decide +kernel) rfl) pa_nil)))
                  (pe_callB call_isi (by rfl) B.isinstance (by decide +kernel) (pa_cons (pv 1) (pa_cons (pe_bltn (v := .ty "bool") (by rfl) B.bool (by decide +kernel) rfl) pa_nil))) (nomark _))
                (pw_or1 (pt_cmpR op_ne (pe_callB call_isi (by rfl) B.isinstance (by decide +kernel) (pa_cons (pv 0) (pa_cons (pe_bltn (v := .ty "str") (by rfl) B.str (by decide +kernel) rfl) pa_nil)))
                  (pe_callB call_isi (by rfl) B.isinstance (by decide +kernel) (pa_cons (pv 1) (pa_cons (pe_bltn (v := .ty "str") (by rfl) B.str (by decide +kernel) rfl) pa_nil))) (nomark _)))))
                (pss_one (ps_ret pe_bl)) pss_nil)
              (pss_one (ps_ret (pe_cmpR op_eq (pv 0) (pv 1) (nomark _)))))
            pss_nil)
        (pss_cons (ps_if (pt_val (pe_callB call_isi (by rfl) B.isinstance (by decide +kernel) (pa_cons (pv 1) (pa_cons (pe_bltn (v := .ty "int") (by rfl) B.int (by decide +kernel) rfl) pa_nil))))
            (pss_one (ps_ret (pe_and (pe_callB call_isi (by rfl) B.isinstance (by decide +kernel) (pa_cons (pv 0) (pa_cons (pe_bltn (v := .ty "int") (by rfl) B.int (by decide +kernel) rfl) pa_nil)))
              (pe_and (pe_not (pe_callB call_isi (by rfl) B.isinstance (by decide +kernel) (pa_cons (pv 0) (pa_cons (pe_bltn (v := .ty "bool") (by rfl) B.bool (by decide +kernel) rfl) pa_nil))))
                (pe_one (pe_cmpR op_eq (pv 0) (pv 1) (nomark _)))))))
            pss_nil)
        (pss_cons (ps_if (PW.pt (pw_and (pt_val (pe_callB call_isi (by rfl) B.isinstance (by decide +kernel) (pa_cons (pv 1) (pa_cons (pe_bltn (v := .ty "list") (by rfl) B.list (by decide +kernel) rfl) pa_nil))))
              (pw_and1 (pt_not (pt_val (pe_callB call_isi (by rfl) B.isinstance (by decide +kernel) (pa_cons (pv 0) (pa_cons (pe_bltn (v := .ty "list") (by rfl) B.list (by decide +kernel) rfl) pa_nil))))))))
            (pss_one (ps_ret pe_bl)) pss_nil)
        (pss_cons (ps_if (PW.pt (pw_and (pt_val (pe_callB call_isi (by rfl) B.isinstance (by decide +kernel) (pa_cons (pv 1) (pa_cons (pe_bltn (v := .ty "tuple") (by rfl) B.tuple (by decide +kernel) rfl) pa_nil))))
              (pw_and1 (pt_not (pt_val (pe_callB call_isi (by rfl) B.isinstance (by decide +kernel) (pa_cons (pv 0) (pa_cons (pe_bltn (v := .ty "tuple") (by rfl) B.tuple (by decide +kernel) rfl) pa_nil))))))))
            (pss_one (ps_ret pe_bl)) pss_nil)
        (pss_cons (ps_if (pt_cmpR op_ne (pe_callB call_len_seq (by rfl) B.len PySem.boot_len (pa_cons (pv 0) pa_nil)) (pe_callB call_len_seq (by rfl) B.len PySem.boot_len (pa_cons (pv 1) pa_nil)) (nomark _)) (pss_one (ps_ret pe_bl)) pss_nil)
        (pss_cons (ps_for PassesOwn.never rfl (pi_range1 rfl B.range (pa_cons (pe_callB call_len_seq (by rfl) B.len PySem.boot_len (pa_cons (pv 1) pa_nil)) pa_nil)) (pg_name (i := 2) scS.nd rfl (.inl rfl))
            (pss_one (ps_if (pt_not (pt_val (pe_call IH hr (by rfl) mS F.kp bS .nil pass0 (pa_cons (pe_ix ix_seq (pv 0) (pv 2) (fun _ _ => rfl)) (pa_cons (pe_ix ix_seq (pv 1) (pv 2) (fun _ _ => rfl)) pa_nil))))) (pss_one (ps_ret pe_bl)) pss_nil)))
        (pss_one (ps_ret pe_bl)))))))), ?_⟩
      cases d with
      | none =>
        cases hu; cases hv
        exact ⟨_, rfl, rfl, _, rfl, iteT ⟨_, rfl, kk⟩⟩
      | bool b =>
        cases hu; cases hv
        refine ⟨_, rfl, rfl, _, rfl, iteF ?_⟩
        refine ⟨_, rfl, _, _, _, _, true, rfl, .ty _, TyX.base (TyOf.bl b), kit_ty (by decide +kernel), _, rfl, iteT (iteT ?_)⟩
        refine ⟨_, rfl, _, _, _, _, true, rfl, .ty _, TyX.base (TyOf.bl b), kit_ty (by decide +kernel), _, rfl, _, _, _, _, true, rfl, .ty _, TyX.base (TyOf.bl b), kit_ty (by decide +kernel), rfl, _, rfl, ?_⟩
        refine iteF ⟨_, rfl, _, _, _, _, false, rfl, .ty _, TyX.base (TyOf.bl b), kit_ty (by decide +kernel), _, rfl, _, _, _, _, false, rfl, .ty _, TyX.base (TyOf.bl b), kit_ty (by decide +kernel), rfl, _, rfl, ?_⟩
        refine iteF ⟨_, rfl, _, rfl, rfl, ?_⟩
        rw [decide_eq_true rfl]
        exact kk
      | str x =>
        cases hu; cases hv
        refine ⟨_, rfl, rfl, _, rfl, iteF ?_⟩
        refine ⟨_, rfl, _, _, _, _, false, rfl, .ty _, TyX.base (TyOf.str x), kit_ty (by decide +kernel), _, rfl, iteF ?_⟩
        refine ⟨_, rfl, _, _, _, _, true, rfl, .ty _, TyX.base (TyOf.str x), kit_ty (by decide +kernel), _, rfl, iteT ?_⟩
        refine ⟨_, rfl, _, _, _, _, false, rfl, .ty _, TyX.base (TyOf.str x), kit_ty (by decide +kernel), _, rfl, _, _, _, _, false, rfl, .ty _, TyX.base (TyOf.str x), kit_ty (by decide +kernel), rfl, _, rfl, ?_⟩
        refine iteF ⟨_, rfl, _, _, _, _, true, rfl, .ty _, TyX.base (TyOf.str x), kit_ty (by decide +kernel), _, rfl, _, _, _, _, true, rfl, .ty _, TyX.base (TyOf.str x), kit_ty (by decide +kernel), rfl, _, rfl, ?_⟩
        refine iteF ⟨_, rfl, _, rfl, rfl, ?_⟩
        rw [decide_eq_true rfl]
        exact kk
      | int i =>
        cases hu; cases hv
        refine ⟨_, rfl, rfl, _, rfl, iteF ?_⟩
        refine ⟨_, rfl, _, _, _, _, false, rfl, .ty _, TyX.base (TyOf.int i), kit_ty (by decide +kernel), _, rfl, iteF ?_⟩
        refine ⟨_, rfl, _, _, _, _, false, rfl, .ty _, TyX.base (TyOf.int i), kit_ty (by decide +kernel), _, rfl, iteF ?_⟩
        refine ⟨_, rfl, _, _, _, _, true, rfl, .ty _, TyX.base (TyOf.int i), kit_ty (by decide +kernel), _, rfl, iteT ?_⟩
        refine ⟨_, rfl, _, _, _, _, true, rfl, .ty _, TyX.base (TyOf.int i), kit_ty (by decide +kernel), _, rfl, iteT ?_⟩
        refine ⟨_, rfl, _, _, _, _, false, rfl, .ty _, TyX.base (TyOf.int i), kit_ty (by decide +kernel), _, rfl, _, rfl, iteT ?_⟩
        refine ⟨_, rfl, _, rfl, rfl, ?_⟩
        rw [decide_eq_true rfl]
        exact kk
      | list ds =>
        obtain ⟨a2, xs2, rfl, hs2, ha2⟩ : ∃ a xs, u = .ref a ∧ SqL K H a xs ∧ DpAll K H xs ds := by
          cases hu with
          | lst h1 h2 => exact ⟨_, _, rfl, h1, h2⟩
        obtain ⟨a1, xs1, rfl, hs1, ha1⟩ : ∃ a xs, v = .ref a ∧ SqL K H a xs ∧ DpAll K H xs ds := by
          cases hv with
          | lst h1 h2 => exact ⟨_, _, rfl, h1, h2⟩
        have tyU : TyX K H (.ref a2) (.type "list") := ty_of (.lst hs2 ha2)
        have tyV : TyX K H (.ref a1) (.type "list") := ty_of (.lst hs1 ha1)
        have e1 := dpAll_len ha1
        have e2 := dpAll_len ha2
        refine ⟨_, rfl, rfl, _, rfl, iteF ?_⟩
        refine ⟨_, rfl, _, _, _, _, false, rfl, .ty _, tyU, kit_ty (by decide +kernel), _, rfl, iteF ?_⟩
        refine ⟨_, rfl, _, _, _, _, false, rfl, .ty _, tyU, kit_ty (by decide +kernel), _, rfl, iteF ?_⟩
        refine ⟨_, rfl, _, _, _, _, false, rfl, .ty _, tyU, kit_ty (by decide +kernel), _, rfl, iteF ?_⟩
        refine ⟨_, rfl, _, _, _, _, true, rfl, .ty _, tyU, kit_ty (by decide +kernel), _, rfl, iteT ?_⟩
        refine ⟨_, rfl, _, _, _, _, true, rfl, .ty _, tyV, kit_ty (by decide +kernel), _, rfl, iteF ?_⟩
        refine ⟨_, rfl, _, _, _, _, false, rfl, .ty _, tyU, kit_ty (by decide +kernel), _, rfl, iteF (iteF ?_)⟩
        refine ⟨_, rfl, a1, xs1, rfl, .inl hs1, _, rfl, a2, xs2, rfl, .inl hs2, rfl, _, rfl, iteNS (by rw [e1, e2]) ?_⟩
        simp only [dp] at hd
        have hz2 : (xs2.length : Int) < 2 ^ 62 := by have := hd.1; omega
        refine ⟨_, rfl, a2, xs2, rfl, .inl hs2, _, rfl, (by omega), hz2, ?_⟩
        refine for_range (lo := 0) (n := (xs2.length : Int).toNat) (fun i σ H2 => ∃ y, σ = [some (.ref a1), some (.ref a2), y] ∧ H2 = H) ⟨none, rfl, rfl⟩ ?_ ?_
        · rintro i σ H2 hi ⟨y, rfl, rfl⟩
          have hi2 : i < ds.length := by omega
          obtain ⟨x1, g1, d1⟩ := dpAll_get ha1 (List.getElem?_eq_getElem hi2)
          obtain ⟨x2, g2, d2⟩ := dpAll_get ha2 (List.getElem?_eq_getElem hi2)
          have ei : (0 : Int) + (i : Int) = ((i : Nat) : Int) := by omega
          rw [ei]
          refine ⟨_, rfl, _, rfl, .inl ⟨_, _, _, _, rfl, rfl, hs1, atI_nat g1, _, rfl, _, rfl, .inl ⟨_, _, _, _, rfl, rfl, hs2, atI_nat g2, ?_⟩⟩⟩
          refine ⟨x1, x2, _, rfl, d1, d2, hd.2 _ (List.getElem_mem hi2), _, rfl, iteF ?_⟩
          exact ⟨_, rfl, rfl⟩
        · rintro σ H2 ⟨y, rfl, rfl⟩
          exact kk
      | tuple ds =>
        obtain ⟨a2, xs2, rfl, hs2, ha2⟩ : ∃ a xs, u = .ref a ∧ SqT K H a xs ∧ DpAll K H xs ds := by
          cases hu with
          | tup h1 h2 => exact ⟨_, _, rfl, h1, h2⟩
        obtain ⟨a1, xs1, rfl, hs1, ha1⟩ : ∃ a xs, v = .ref a ∧ SqT K H a xs ∧ DpAll K H xs ds := by
          cases hv with
          | tup h1 h2 => exact ⟨_, _, rfl, h1, h2⟩
        have tyU : TyX K H (.ref a2) (.type "tuple") := ty_of (.tup hs2 ha2)
        have tyV : TyX K H (.ref a1) (.type "tuple") := ty_of (.tup hs1 ha1)
        have e1 := dpAll_len ha1
        have e2 := dpAll_len ha2
        refine ⟨_, rfl, rfl, _, rfl, iteF ?_⟩
        refine ⟨_, rfl, _, _, _, _, false, rfl, .ty _, tyU, kit_ty (by decide +kernel), _, rfl, iteF ?_⟩
        refine ⟨_, rfl, _, _, _, _, false, rfl, .ty _, tyU, kit_ty (by decide +kernel), _, rfl, iteF ?_⟩
        refine ⟨_, rfl, _, _, _, _, false, rfl, .ty _, tyU, kit_ty (by decide +kernel), _, rfl, iteF ?_⟩
        refine ⟨_, rfl, _, _, _, _, false, rfl, .ty _, tyU, kit_ty (by decide +kernel), _, rfl, iteF (iteF ?_)⟩
        refine ⟨_, rfl, _, _, _, _, true, rfl, .ty _, tyU, kit_ty (by decide +kernel), _, rfl, iteT ?_⟩
        refine ⟨_, rfl, _, _, _, _, true, rfl, .ty _, tyV, kit_ty (by decide +kernel), _, rfl, iteF ?_⟩
        refine ⟨_, rfl, a1, xs1, rfl, .inr hs1, _, rfl, a2, xs2, rfl, .inr hs2, rfl, _, rfl, iteNS (by rw [e1, e2]) ?_⟩
        simp only [dp] at hd
        have hz2 : (xs2.length : Int) < 2 ^ 62 := by have := hd.1; omega
        refine ⟨_, rfl, a2, xs2, rfl, .inr hs2, _, rfl, (by omega), hz2, ?_⟩
        refine for_range (lo := 0) (n := (xs2.length : Int).toNat) (fun i σ H2 => ∃ y, σ = [some (.ref a1), some (.ref a2), y] ∧ H2 = H) ⟨none, rfl, rfl⟩ ?_ ?_
        · rintro i σ H2 hi ⟨y, rfl, rfl⟩
          have hi2 : i < ds.length := by omega
          obtain ⟨x1, g1, d1⟩ := dpAll_get ha1 (List.getElem?_eq_getElem hi2)
          obtain ⟨x2, g2, d2⟩ := dpAll_get ha2 (List.getElem?_eq_getElem hi2)
          have ei : (0 : Int) + (i : Int) = ((i : Nat) : Int) := by omega
          rw [ei]
          refine ⟨_, rfl, _, rfl, .inr (.inl ⟨_, _, _, _, rfl, rfl, hs1, atI_nat g1, _, rfl, _, rfl, .inr (.inl ⟨_, _, _, _, rfl, rfl, hs2, atI_nat g2, ?_⟩)⟩)⟩
          refine ⟨x1, x2, _, rfl, d1, d2, hd.2 _ (List.getElem_mem hi2), _, rfl, iteF ?_⟩
          exact ⟨_, rfl, rfl⟩
        · rintro σ H2 ⟨y, rfl, rfl⟩
          exact kk
      | dict ds => simp [dp] at hd
end
/-! ### data in the heap, and displays of data -/
theorem Same.seqT {K : PySem.W.Frag} {H H' : Hp} {a : Addr} {xs : List V} (e : Same H H') (h : SqT K H a xs) : SqT K H' a xs := by
  rcases h with h1 | h3
  · rcases h1 with h1 | h2
    · exact .inl (.inl (e _ _ h1))
    · obtain ⟨o, h2⟩ := h2
      exact .inl (.inr ⟨o, e _ _ h2⟩)
  · exact .inr h3
mutual
theorem dp_same {K : PySem.W.Frag} {H H' : Hp} (s : Same H H') : ∀ (d : PyData) (v : V), Dp K H v d → Dp K H' v d
  | .none, _, h => by cases h; exact .non
  | .bool b, _, h => by cases h; exact .bl b
  | .int i, _, h => by cases h; exact .int i
  | .str x, _, h => by cases h; exact .str x
  | .list ds, _, h => by
    cases h with
    | lst h1 h2 => exact .lst (s.seq h1) (dpAll_same s ds _ h2)
  | .tuple ds, _, h => by
    cases h with
    | tup h1 h2 => exact .tup (Same.seqT s h1) (dpAll_same s ds _ h2)
  | .dict kvs, _, h => by cases h
theorem dpAll_same {K : PySem.W.Frag} {H H' : Hp} (s : Same H H') : ∀ (ds : List PyData) (vs : List V), DpAll K H vs ds → DpAll K H' vs ds
  | [], _, h => by cases h; exact .nil
  | d :: ds, _, h => by
    cases h with
    | cons h1 h2 => exact .cons (dp_same s d _ h1) (dpAll_same s ds _ h2)
end
theorem same_new {H : Hp} {p : Addr} {o : HO} (n : H p = none) : Same H (upd H p o) := fun b x e => by
  rw [upd_ne (ne_of_none e n)]; exact e
/-- the heap without some objects -/
def mask (l : List Addr) (H : Hp) : Hp := fun a => if a ∈ l then none else H a
theorem mask_in {l : List Addr} {H : Hp} {a : Addr} (h : a ∈ l) : mask l H a = none := if_pos h
theorem mask_out {l : List Addr} {H : Hp} {a : Addr} (h : a ∉ l) : mask l H a = H a := if_neg h
theorem mask_sub (l : List Addr) (H : Hp) : Same (mask l H) H := fun a o e => by
  by_cases h : a ∈ l
  · rw [mask_in h] at e; cases e
  · rw [mask_out h] at e; exact e
theorem mask_same {l : List Addr} {H H' : Hp} (s : Same H H') : Same (mask l H) (mask l H') := fun a o e => by
  by_cases h : a ∈ l
  · rw [mask_in h] at e; cases e
  · rw [mask_out h] at e ⊢; exact s a o e
theorem mask_nil (H : Hp) : mask [] H = H := rfl
/-- what stands in H is there -/
abbrev Alive (l : List Addr) (H : Hp) : Prop := ∀ a ∈ l, ∃ o, H a = some o
theorem Alive.same {l : List Addr} {H H' : Hp} (h : Alive l H) (s : Same H H') : Alive l H' := fun a m => let ⟨o, e⟩ := h a m; ⟨o, s a o e⟩
theorem Alive.not {l : List Addr} {H : Hp} {p : Addr} (h : Alive l H) (n : H p = none) : p ∉ l := fun m => by
  obtain ⟨o, e⟩ := h p m
  rw [n] at e; cases e
theorem alive_nil {H : Hp} : Alive [] H := fun _ m => nomatch m
theorem mask_upd {l : List Addr} {H : Hp} {p : Addr} {o : HO} (h : p ∉ l) : mask l (upd H p o) p = some o := by
  rw [mask_out h, upd_same]
theorem Keeps.mask {p q : Addr} {H H' : Hp} (k : Keeps p q H H') : Same (mask [p, q] H) (mask [p, q] H') := fun a o e => by
  by_cases h : a ∈ [p, q]
  · rw [mask_in h] at e; cases e
  · rw [mask_out h] at e ⊢
    refine k a o (fun z => h ?_) (fun z => h ?_) e
    · rw [z]; exact List.mem_cons_self
    · rw [z]; exact List.mem_cons_of_mem _ List.mem_cons_self
theorem PoolAt.alive {H : Hp} {p q : Addr} {n : Nat} (h : PoolAt H p q n) : Alive [p, q] H := fun a m => by
  rcases List.mem_cons.mp m with rfl | m
  · exact h.p_some
  · rw [List.mem_singleton.mp m]; exact h.q_some
/-- which data an expression gives; it stays so when objects are added -/
abbrev DS := St → Hp → PyData → Prop
abbrev DSs := St → Hp → List PyData → Prop
def tDat (K : PySem.W.Frag) (D : DS) : TE := fun σ H Q => ∃ (l : List Addr) (d : PyData), Alive l H ∧ D σ (mask l H) d ∧ ∀ v H', Same H H' → Dp K (mask l H') v d → Q v H'
def tDats (K : PySem.W.Frag) (D : DSs) : TA := fun σ H Q => ∃ (l : List Addr) (ds : List PyData), Alive l H ∧ D σ (mask l H) ds ∧ ∀ vs H', Same H H' → DpAll K (mask l H') vs ds → Q vs H'
structure DE (X : Cx) (e : Expr) (D : DS) : Prop where
  pe : PE X e (tDat X.K D)
  mono : ∀ σ H H' d, Same H H' → D σ H d → D σ H' d
structure DA (X : Cx) (es : List Expr) (D : DSs) : Prop where
  pa : PA X es (tDats X.K D)
  mono : ∀ σ H H' ds, Same H H' → D σ H ds → D σ H' ds
def dNil : DSs := fun _ _ ds => ds = []
def dCons (D : DS) (Ds : DSs) : DSs := fun σ H ds => ∃ d r, ds = d :: r ∧ D σ H d ∧ Ds σ H r
def dTup (Ds : DSs) : DS := fun σ H d => ∃ ds, d = .tuple ds ∧ ds.length ≤ 1000 ∧ Ds σ H ds
def dLst (Ds : DSs) : DS := fun σ H d => ∃ ds, d = .list ds ∧ ds.length ≤ 1000 ∧ Ds σ H ds
def dVar (K : PySem.W.Frag) (i : Nat) : DS := fun σ H d => ∃ v, σ[i]? = some (some v) ∧ Dp K H v d
def dIs (d0 : PyData) : DS := fun _ _ d => d = d0
section
variable {X : Cx} {e : Expr} {es : List Expr} {t : TE} {D : DS} {Ds : DSs} {pos : Pos}
theorem de_of (h : PE X e t) (w : ∀ σ H Q, tDat X.K D σ H Q → t σ H Q) (m : ∀ σ H H' d, Same H H' → D σ H d → D σ H' d) : DE X e D :=
  ⟨⟨fun pins s σ H Q I q => h.run pins s σ H Q I (w σ H Q q)⟩, m⟩
theorem de_str {x : Str} {j} : DE X (.Constant (.str x) j pos) (dIs (.str x)) :=
  de_of pe_str (fun _ H _ ⟨_, _, _, e, q⟩ => by cases e; exact q _ H (Same.refl H) (.str x)) fun _ _ _ _ _ h => h
theorem de_int {i : Int} {j} : DE X (.Constant (.int i) j pos) (dIs (.int i)) :=
  de_of pe_int (fun _ H _ ⟨_, _, _, e, q⟩ => by cases e; exact q _ H (Same.refl H) (.int i)) fun _ _ _ _ _ h => h
theorem de_bl {b : Bool} {j} : DE X (.Constant (.bool b) j pos) (dIs (.bool b)) :=
  de_of pe_bl (fun _ H _ ⟨_, _, _, e, q⟩ => by cases e; exact q _ H (Same.refl H) (.bl b)) fun _ _ _ _ _ h => h
theorem de_non {j} : DE X (.Constant .none j pos) (dIs .none) :=
  de_of pe_non (fun _ H _ ⟨_, _, _, e, q⟩ => by cases e; exact q _ H (Same.refl H) .non) fun _ _ _ _ _ h => h
theorem dv (i : Nat) {x : Str} (h : PE X (.Name x pos) (tVar i)) : DE X (.Name x pos) (dVar X.K i) :=
  de_of h (fun _ H _ ⟨_, _, _, ⟨v, e, hd⟩, q⟩ => ⟨v, e, q v H (Same.refl H) hd⟩) fun _ _ _ d s ⟨v, e, hd⟩ => ⟨v, e, dp_same s d v hd⟩
theorem da_nil : DA X [] dNil :=
  ⟨⟨fun pos pins s σ H Q I h => by
    obtain ⟨l, ds, _, e, q⟩ := h
    cases e
    exact pa_nil.run pos pins s σ H Q I (q [] H (Same.refl H) .nil)⟩, fun _ _ _ _ _ h => h⟩
theorem da_cons (h : DE X e D) (r : DA X es Ds) (hs : starEach (e :: es) X.env = (false, eval e X.env) :: starEach es X.env := by rfl) : DA X (e :: es) (dCons D Ds) :=
  ⟨⟨fun pos pins s σ H Q I hq => by
    obtain ⟨l, _, al, ⟨d, ds, rfl, h1, h2⟩, q⟩ := hq
    refine (pa_cons h.pe r.pa hs).run pos pins s σ H Q I ⟨l, d, al, h1, fun v H1 s1 hv => ⟨l, ds, al.same s1, r.mono _ _ _ _ (mask_same s1) h2, fun vs H2 s2 hvs => ?_⟩⟩
    exact q _ H2 (s1.trans s2) (.cons (dp_same (mask_same s2) d v hv) hvs)⟩,
   fun σ H H' ds s ⟨d, r', e, h1, h2⟩ => ⟨d, r', e, h.mono _ _ _ _ s h1, r.mono _ _ _ _ s h2⟩⟩
theorem len1000 {n : Nat} (h : n ≤ 1000) : n ≤ sizeLine := Nat.le_of_lt (small1000 h)
theorem de_tup {k} (h : DA X es Ds) : DE X (.Tuple es k pos) (dTup Ds) :=
  ⟨⟨fun pins s σ H Q I hq => by
    obtain ⟨l, _, al, ⟨ds, rfl, hl, h1⟩, q⟩ := hq
    refine (pe_tup h.pa).run pins s σ H Q I ⟨l, ds, al, h1, fun vs H1 s1 hv => ⟨by rw [dpAll_len hv]; exact len1000 hl, fun p np => ?_⟩⟩
    exact q _ _ (s1.trans (same_new np)) (.tup (SqT.of (mask_upd ((al.same s1).not np))) (dpAll_same (mask_same (same_new np)) _ _ hv))⟩,
   fun σ H H' d s ⟨ds, e, hl, h1⟩ => ⟨ds, e, hl, h.mono _ _ _ _ s h1⟩⟩
theorem de_lst (h : DA X es Ds) : DE X (.List es pos) (dLst Ds) :=
  ⟨⟨fun pins s σ H Q I hq => by
    obtain ⟨l, _, al, ⟨ds, rfl, hl, h1⟩, q⟩ := hq
    refine (pe_lst h.pa).run pins s σ H Q I ⟨l, ds, al, h1, fun vs H1 s1 hv => ⟨by rw [dpAll_len hv]; exact len1000 hl, fun p np => ?_⟩⟩
    exact q _ _ (s1.trans (same_new np)) (.lst (SqL.of (mask_upd ((al.same s1).not np))) (dpAll_same (mask_same (same_new np)) _ _ hv))⟩,
   fun σ H H' d s ⟨ds, e, hl, h1⟩ => ⟨ds, e, hl, h.mono _ _ _ _ s h1⟩⟩
end
theorem mask_new {l : List Addr} {H : Hp} {D : Addr} (n : H D = none) : Same (mask l H) (mask (D :: l) H) := fun a o e => by
  by_cases h : a ∈ D :: l
  · rcases List.mem_cons.mp h with rfl | h
    · have := mask_sub l H _ _ e
      rw [n] at this; cases this
    · rw [mask_in h] at e; cases e
  · rw [mask_out h]
    exact mask_sub l H _ _ e
theorem mask_less {l : List Addr} {H : Hp} {D : Addr} : Same (mask (D :: l) H) (mask l H) := fun a o e => by
  by_cases h : a ∈ D :: l
  · rw [mask_in h] at e; cases e
  · rw [mask_out h] at e
    rw [mask_out fun z => h (List.mem_cons_of_mem _ z)]
    exact e
theorem mask_at {l : List Addr} {H : Hp} {D : Addr} {o : HO} (m : D ∈ l) : Same (mask l H) (mask l (upd H D o)) := fun a u e => by
  by_cases h : a ∈ l
  · rw [mask_in h] at e; cases e
  · rw [mask_out h] at e ⊢
    rw [upd_ne fun z => h (by rw [z]; exact m)]
    exact e
theorem dpAll_app {K : PySem.W.Frag} {H : Hp} : ∀ {vs ws : List V} {ds es : List PyData}, DpAll K H vs ds → DpAll K H ws es → DpAll K H (vs ++ ws) (ds ++ es)
  | _, _, _, _, .nil, h => h
  | _, _, _, _, .cons h t, r => .cons h (dpAll_app t r)
theorem dpAll_drop {K : PySem.W.Frag} {H : Hp} : ∀ (n : Nat) {vs : List V} {ds : List PyData}, DpAll K H vs ds → DpAll K H (vs.drop n) (ds.drop n)
  | 0, _, _, h => h
  | n + 1, _, _, .nil => .nil
  | n + 1, _, _, .cons _ t => dpAll_drop n t
theorem dpAll_take {K : PySem.W.Frag} {H : Hp} : ∀ (n : Nat) {vs : List V} {ds : List PyData}, DpAll K H vs ds → DpAll K H (vs.take n) (ds.take n)
  | 0, _, _, _ => .nil
  | n + 1, _, _, .nil => .nil
  | n + 1, _, _, .cons h t => .cons h (dpAll_take n t)
theorem dpAll_at {K : PySem.W.Frag} {H : Hp} : ∀ {vs : List V} {ds : List PyData} {i : Nat} {v : V}, DpAll K H vs ds → vs[i]? = some v → ∃ d, ds[i]? = some d ∧ Dp K H v d
  | _, _, _, _, .nil, e => by simp at e
  | _, _, 0, _, .cons h _, e => by
    obtain rfl := Option.some.inj e
    exact ⟨_, rfl, h⟩
  | _, _, i + 1, _, .cons _ t, e => dpAll_at (i := i) t e
theorem dp_tup {K : PySem.W.Frag} {H : Hp} {v : V} {ds : List PyData} (h : Dp K H v (.tuple ds)) : ∃ a xs, v = .ref a ∧ SqT K H a xs ∧ DpAll K H xs ds := by
  cases h with
  | tup h1 h2 => exact ⟨_, _, rfl, h1, h2⟩
theorem dp_lst {K : PySem.W.Frag} {H : Hp} {v : V} {ds : List PyData} (h : Dp K H v (.list ds)) : ∃ a xs, v = .ref a ∧ SqL K H a xs ∧ DpAll K H xs ds := by
  cases h with
  | lst h1 h2 => exact ⟨_, _, rfl, h1, h2⟩
theorem dpAll_cons {K : PySem.W.Frag} {H : Hp} {vs : List V} {d : PyData} {ds : List PyData} (h : DpAll K H vs (d :: ds)) : ∃ v r, vs = v :: r ∧ Dp K H v d ∧ DpAll K H r ds := by
  cases h with
  | cons h1 h2 => exact ⟨_, _, rfl, h1, h2⟩
theorem dpAll_nil {K : PySem.W.Frag} {H : Hp} {vs : List V} (h : DpAll K H vs []) : vs = [] := by
  cases h; rfl
theorem dp_str {K : PySem.W.Frag} {H : Hp} {v : V} {x : Str} (h : Dp K H v (.str x)) : v = .str x := by
  cases h; rfl
theorem cut_tail {x : V} {r : List V} : cutV (x :: r) (some 1) none = r := by
  unfold cutV
  rw [show HT.sIx (x :: r).length 0 (some 1) = min 1 (x :: r).length from HT.sIx_nat _ 0 1, HT.sIx_none, List.length_cons, Nat.min_eq_left (by omega)]
  show List.take (r.length + 1 - 1) r = r
  rw [Nat.add_sub_cancel, List.take_length]
theorem cut_drop (xs : List V) (k : Nat) : cutV xs (some (k : Int)) none = xs.drop k := by
  unfold cutV
  rw [HT.sIx_nat, HT.sIx_none]
  by_cases h : k ≤ xs.length
  · rw [Nat.min_eq_left h]
    exact List.take_of_length_le (by rw [List.length_drop]; omega)
  · rw [Nat.min_eq_right (by omega), List.drop_of_length_le (Nat.le_refl _), List.drop_of_length_le (by omega)]; simp
theorem Keeps.maskL {p q : Addr} {l : List Addr} {H H' : Hp} (hp : p ∈ l) (hq : q ∈ l) (k : Keeps p q H H') : Same (Qp.mask l H) (Qp.mask l H') := fun a o e => by
  by_cases h : a ∈ l
  · rw [mask_in h] at e; cases e
  · rw [mask_out h] at e ⊢
    exact k a o (fun z => h (by rw [z]; exact hp)) (fun z => h (by rw [z]; exact hq)) e
theorem Keeps.alive {p q : Addr} {n : Nat} {l : List Addr} {H H' : Hp} (al : Alive l H) (k : Keeps p q H H') (P : PoolAt H' p q n) : Alive l H' := fun a m => by
  obtain ⟨o, e⟩ := al a m
  by_cases h1 : a = p
  · rw [h1]; exact P.p_some
  · by_cases h2 : a = q
    · rw [h2]; exact P.q_some
    · exact ⟨o, k a o h1 h2 e⟩
/-! ### rules over a given written part: within comprehensions -/
section
variable {X : Cx} {K : PySem.W.Frag}
theorem ixK {r : PySem.W.Frag → R2} (h : IxR X (r X.K)) (hK : X.K = K := by rfl) : IxR X (r K) := hK ▸ h
theorem opK {f : Value → Value → Sem Value} {r : PySem.W.Frag → R2} (h : OpR X f (r X.K)) (hK : X.K = K := by rfl) : OpR X f (r K) := hK ▸ h
theorem callK {f : Value} {r : PySem.W.Frag → List V → Hp → VK → Prop} (h : CallR X f (r X.K)) (hK : X.K = K := by rfl) : CallR X f (r K) := hK ▸ h
theorem slK {r : PySem.W.Frag → V → Option Int → Option Int → Hp → VK → Prop} (h : SlR X (r X.K)) (hK : X.K = K := by rfl) : SlR X (r K) := hK ▸ h
theorem peK {e : Expr} {t : PySem.W.Frag → TE} (h : PE X e (t X.K)) (hK : X.K = K := by rfl) : PE X e (t K) := hK ▸ h
theorem ptK {e : Expr} {t : PySem.W.Frag → TT} (h : PT X e (t X.K)) (hK : X.K = K := by rfl) : PT X e (t K) := hK ▸ h
theorem paK {es : List Expr} {t : PySem.W.Frag → TA} (h : PA X es (t X.K)) (hK : X.K = K := by rfl) : PA X es (t K) := hK ▸ h
theorem pe_fldK {e : Expr} {f : Str} {pos : Pos} {ta : TE} (he : PE X e ta) (hb : attributeBase e f X.env (eval e X.env) = eval e X.env) (hK : X.K = K := by rfl) : PE X (.Attribute e f pos) (tFld K ta f) :=
  peK (t := fun K => tFld K ta f) (pe_fld he hb) hK
theorem pt_truthK {a : Expr} {ta : TE} (ha : PE X a ta) (he : ∀ whole, isTrue a X.env whole = (do let v ← whole; standAt a.pos; holding [v] (truthy v))) (hK : X.K = K := by rfl) : PT X a (tTru K ta) :=
  ptK (t := fun K => tTru K ta) (pt_truth ha he) hK
theorem pa_starK {e : Expr} {es : List Expr} {p : Pos} {te : TE} {t : TA} (he : PE X e te) (hr : PA X es t) (hK : X.K = K := by rfl) (hs : starEach (.Starred e p :: es) X.env = (true, eval e X.env) :: starEach es X.env := by rfl) : PA X (.Starred e p :: es) (StX.tStar K te t) :=
  paK (t := fun K => StX.tStar K te t) (StX.pa_star he hr hs) hK
end
def rLenS (K : PySem.W.Frag) : List V → Hp → VK → Prop := fun xs H Q => ∃ p ys, xs = [.ref p] ∧ (SqL K H p ys ∨ SqT K H p ys) ∧ Q (.int ys.length) H
def rLstOf (K : PySem.W.Frag) : List V → Hp → VK → Prop := fun xs H Q => ∃ p ys, xs = [.ref p] ∧ (SqL K H p ys ∨ SqT K H p ys) ∧ ∀ l, H l = none → Q (.ref l) (upd H l (.lst ys))
/-- tuple(x): a list's or a tuple's -/
structure rTupOf (K : PySem.W.Frag) (xs : List V) (H : Hp) (Q : VK) : Prop where
  ex : ∃ p ys, xs = [.ref p] ∧ ((SqL K H p ys ∧ ∀ l, H l = none → Q (.ref l) (upd H l (.tup ys))) ∨ (SqT K H p ys ∧ Q (.ref p) H))
theorem call_tupS {X : Cx} : CallR X (.type "tuple") (rTupOf X.K) := fun pins s σ H xs us Q I r h => call_tuple_of pins s σ H xs us Q I r h.ex
def tJoinK (K : PySem.W.Frag) (to te : TE) : TE := tM1 (fun x xs H Q => ∃ a p, ∃ ys : List Str, x = .str a ∧ xs = [.ref p] ∧ (SqL K H p (ys.map V.str) ∨ SqT K H p (ys.map V.str)) ∧ (ys.map (·.length)).sum + ys.length * a.length ≤ 16777216 ∧ Q (.str (Txt.join a ys)) H) to te
theorem pe_joinK {X : Cx} {K : PySem.W.Frag} {o e : Expr} {to te : TE} {apos pos : Pos} (ho : PE X o to) (he : PE X e te) (hK : X.K = K := by rfl) (hs : starEach [e] X.env = [(false, eval e X.env)] := by rfl) (hbase : attributeBase o "join" X.env (eval o X.env) = eval o X.env := by rfl) (hline : (apos.endLine == pos.line) = true := by rfl) :
    PE X (.Call (.Attribute o "join" apos) [e] [] pos) (tJoinK K to te) := peK (t := fun K => tJoinK K to te) (pe_join ho he hs hbase hline) hK
/-! ### tuples whose objects have no attributes: what dict(t) wants -/
section
open PySem PySem.Spec PyProof.Rows
/-- a table's content: entries, or none -/
def isTab : PyData → Bool
  | .tuple [] => true
  | .tuple (.tuple _ :: _) => true
  | _ => false
def PlainT (K : PySem.W.Frag) (H : Hp) (a : Addr) : Prop := (∃ o u, H a = some (.frz o u) ∧ o.cls = .type "tuple" ∧ o.dict = none) ∨ (∃ o, K.lookup a = some o ∧ o.cls = .type "tuple" ∧ o.dict = none)
theorem PlainT.same {K : PySem.W.Frag} {H H' : Hp} {a : Addr} (s : Same H H') (h : PlainT K H a) : PlainT K H' a := by
  rcases h with ⟨o, u, e, r⟩ | h
  · exact .inl ⟨o, u, s _ _ e, r⟩
  · exact .inr h
structure Dq (K : PySem.W.Frag) (M : Hp) (v : V) (d : PyData) : Prop where
  dp : Dp K M v d
  tab : isTab d = true → ∃ a, v = .ref a ∧ PlainT K M a
theorem dq_same {K : PySem.W.Frag} {H H' : Hp} (s : Same H H') {v : V} {d : PyData} (h : Dq K H v d) : Dq K H' v d := ⟨dp_same s _ _ h.dp, fun e => let ⟨a, e1, e2⟩ := h.tab e; ⟨a, e1, e2.same s⟩⟩
theorem dq_of {K : PySem.W.Frag} {M : Hp} {v : V} {d : PyData} (h : Dp K M v d) (e : isTab d = false) : Dq K M v d := ⟨h, fun q => by rw [e] at q; cases q⟩
variable {X : Cx}
theorem PlainT.seq {pins : List (Addr × Obj)} {σ : L2.St} {H : Hp} {s : Shared} {a : Addr} {xs : List V} (I : Inv X pins σ H s) (p : PlainT X.K H a) (h : SqT X.K H a xs) : ∃ its : List Value, Vals xs its ∧ PlainSeq "tuple" s.heap a its.toArray ∧ xs.length ≤ sizeLine := by
  obtain ⟨its, r, ⟨o, ho, hc, n, hd⟩, z⟩ := I.tuple h
  refine ⟨its, r, ?_, z⟩
  rcases p with ⟨o2, u, e, e1, e2⟩ | ⟨o2, e, e1, e2⟩
  · have := (I.hok a _ e).1
    rw [ho] at this
    cases this
    exact ⟨o, n, ho, hc, e2, hd⟩
  · have := I.kIn a o2 e
    rw [ho] at this
    cases this
    exact ⟨o, n, ho, hc, e2, hd⟩
theorem pairs_ofT {pins : List (Addr × Obj)} {σ : L2.St} {H : Hp} {s : Shared} (I : Inv X pins σ H s) : ∀ {ps : List Addr} {kvs : List (Key × V)}, Paired (fun p kv => SqT X.K H p [kV kv.1, kv.2]) ps kvs →
    ∃ (prs : List (Key × Value)) (pvs : List (Value × Value)), KV kvs prs ∧ prs.length = ps.length ∧ pvs.length = ps.length ∧ ∀ (j : Nat) (k v : Value), pvs[j]? = some (k, v) → ∃ (b : Addr) (key : Key), ps[j]? = some b ∧ prs[j]? = some (key, v) ∧ IsTup s.heap b #[k, v] ∧ keyIs key k = true
  | _, _, .nil => ⟨[], [], .nil, rfl, rfl, fun j k v e => by simp at e⟩
  | _, _, .cons (a := p) (b := kv) h t => by
    obtain ⟨prs, pvs, r, hl, hl2, hp⟩ := pairs_ofT I t
    obtain ⟨its, rv, ht, _⟩ := I.tuple h
    obtain ⟨u, y, ei, ru, ry⟩ := vals2 rv
    subst ei
    refine ⟨(kv.1, y) :: prs, (u, y) :: pvs, .cons ⟨rfl, ry⟩ r, by rw [List.length_cons, List.length_cons, hl], by rw [List.length_cons, List.length_cons, hl2], fun j k v e => ?_⟩
    cases j with
    | zero =>
      have e' : (u, y) = (k, v) := Option.some.inj e
      cases e'
      exact ⟨p, kv.1, rfl, rfl, ht, kV_is (P := X.prog) (w := X.w) ru⟩
    | succ j =>
      obtain ⟨b, key, e1, e2, e3, e4⟩ := hp j k v (by simpa using e)
      exact ⟨b, key, by simpa using e1, by simpa using e2, e3, e4⟩
structure rDictT (K : PySem.W.Frag) (xs : List V) (H : Hp) (Q : VK) : Prop where
  ex : ∃ (a : Addr) (ps : List Addr) (kvs : List (Key × V)), xs = [.ref a] ∧ SqT K H a (ps.map V.ref) ∧ PlainT K H a ∧ Paired (fun p kv => SqT K H p [kV kv.1, kv.2]) ps kvs ∧ ∀ p, H p = none → Q (.ref p) (upd H p (.dK (mergeK [] kvs)))
/-- dict(t) of a tuple of pairs -/
theorem call_dictT (hcalm : X.calm = true) : CallR X (.type "dict") (rDictT X.K) := by
  intro pins s σ H xs us Q I r qq
  obtain ⟨a, ps, kvs, ex, hq, hpl, hp, q⟩ := qq.ex
  subst ex
  obtain ⟨u, eu, rx⟩ := vals1 r
  subst eu
  cases rx
  obtain ⟨its, rv, pl, hz⟩ := hpl.seq I hq
  have ei := refs_at rv
  subst ei
  rw [List.length_map] at hz
  obtain ⟨prs, pvs, rel, hl, hl2, hpr⟩ := pairs_ofT I hp
  have hPI : PairItems s.heap (ps.map Value.ref).toArray (fun j => ps.getD j 0) pvs := by
    refine ⟨by simp [hl2], fun j k v e => ?_⟩
    obtain ⟨b, key, e1, e2, e3, e4⟩ := hpr j k v e
    have eb : ps.getD j 0 = b := by rw [List.getD_eq_getElem?_getD, e1]; rfl
    show (ps.map Value.ref).toArray[j]? = some (.ref (ps.getD j 0)) ∧ PairAt s.heap (ps.getD j 0) k v
    rw [eb]
    refine ⟨by simp [e1], .inl ?_⟩
    exact e3
  refine PySem.call_dict_pairs (knd := mixKind X.prog X.w) (kvs := prs) (PairArg.tuple (prog := X.prog) (w := X.w) a (ps.map Value.ref).toArray (fun j => ps.getD j 0) pvs) (I.ok.hd hcalm) ⟨pl, hPI⟩ ⟨by rw [hl, hl2], fun i k v e => ?_⟩ (by rw [hl2]; exact hz) fun h' tk hd' k => ?_
  · obtain ⟨b, key, e1, e2, e3, e4⟩ := hpr i k v e
    exact ⟨key, e2, e4⟩
  · have hm : (s.heap.objs.size == sysModules) = false := beq_eq_false_iff_ne.mpr (Nat.ne_of_gt I.big)
    have hlen : (mergeK [] kvs).length ≤ sizeLine := by
      refine Nat.le_trans (length_mergeK kvs []) ?_
      rw [List.length_nil, Nat.zero_add, rel.length, hl]
      exact hz
    exact ⟨.ref s.heap.objs.size, upd H s.heap.objs.size (.dK (mergeK [] kvs)), I.laid (t' := tk) (fun b o e => k b o (by simp) e) (Nat.le_refl _) (show ObjOk X.prog X.w _ _ _ (.dK (mergeK [] kvs)) from ⟨hlen, hm, merged [] prs, KV.merge rel .nil, hd'⟩), rfl, q _ (I.hok.fresh (Nat.le_refl _))⟩
/-- (), told by its object -/
theorem pe_tup0Q {x1} {pos : Pos} : PE X (.Tuple [] x1 pos) (fun _ H Q => ∀ p, H p = none → Q (.ref p) (upd H p (.frz { cls := .type "tuple", data := .seq #[] } (.tup [])))) := by
  refine ⟨fun pins s σ H Q I hq => ?_⟩
  refine wpAny_Tuple_spliced (thn ((pa_nil (X := X)).run pos pins s σ H (fun xs H1 => xs = [] ∧ H1 = H) I ⟨rfl, rfl⟩) fun us s1 ⟨xs, H1, I1, r, z, q⟩ => ⟨by rw [← r.length, z]; exact Nat.zero_le _, ?_⟩)
  subst z q
  cases r
  have hf : H1 s1.heap.objs.size = none := I1.hok.fresh (Nat.le_refl _)
  refine ⟨.ref s1.heap.objs.size, upd H1 s1.heap.objs.size (.frz { cls := .type "tuple", data := .seq #[] } (.tup [])), I1.laid (t' := s1.toks) (fun b u e => Heap.get?_push_of_some _ e) (Nat.le_refl _) ?_, rfl, hq _ hf⟩
  exact ⟨Heap.get?_push_size _ rfl, Nat.zero_le _, [], .nil, ⟨_, Heap.get?_push_size _ rfl, rfl, _, rfl⟩⟩
def tupO (as : List Addr) : Obj := { cls := .type "tuple", data := .seq (as.map Value.ref).toArray }
def rTupQ (K : PySem.W.Frag) : List V → Hp → VK → Prop := fun xs H Q => ∃ (p : Addr) (as : List Addr), xs = [.ref p] ∧ SqL K H p (as.map V.ref) ∧ ∀ l, H l = none → Q (.ref l) (upd H l (.frz (tupO as) (.tup (as.map V.ref))))
/-- tuple(l) of a list of objects, told by its object -/
theorem call_tupQ : CallR X (.type "tuple") (rTupQ X.K) := by
  intro pins s σ H xs us Q I r h
  obtain ⟨p, as, rfl, hq, q⟩ := h
  obtain ⟨u, rfl, rx⟩ := vals1 r
  cases rx
  obtain ⟨its, r', pl, hz⟩ := I.list hq
  have ei := refs_at r'
  subst ei
  have hlen := r'.length
  refine call_tuple_list pl.isList (fun h' kp => ?_) (by simp only [List.size_toArray] <;> omega)
  have I1 : Inv X pins σ H { s with heap := h' } := I.kept (t' := s.toks) kp
  have I2 : Inv X pins σ (upd H h'.objs.size (.frz (tupO as) (.tup (as.map V.ref)))) { s with heap := h'.push { cls := .type "tuple", data := .seq (as.map Value.ref).toArray } } :=
    I1.laid (t' := s.toks) (fun b o e => Heap.get?_push_of_some _ e) (Nat.le_refl _) (show ObjOk X.prog X.w _ _ _ (.frz (tupO as) (.tup (as.map V.ref))) from ⟨Heap.get?_push_size _ rfl, hz, as.map Value.ref, r', IsTup.new _ _⟩)
  exact ⟨.ref h'.objs.size, _, I2, rfl, q _ (I1.hok.fresh (Nat.le_refl _))⟩
end
/-! ### tuple(d.items()) -/
section
open PySem PySem.Spec PyProof.Rows LiI L2
variable {X : Cx} {e : Expr} {te : TE} {p apos cpos pos : Pos}
structure rItemsT (K : PySem.W.Frag) (x : V) (H : Hp) (Q : VK) : Prop where
  ex : ∃ (d : Addr) (kvs : List (Key × V)), x = .ref d ∧ H d = some (.dK kvs) ∧
  ∀ (H' : Hp) (p : Addr) (ts : List Addr), (∀ b o, H b = some o → H' b = some o) → H p = none → (∀ t ∈ ts, H t = none) → p ∉ ts → H' p = some (.frz (tupO ts) (.tup (ts.map V.ref))) → Paired (fun (t : Addr) (q : Key × V) => H' t = some (.tup [kV q.1, q.2])) ts kvs → Q (.ref p) H'
def tTupItems (K : PySem.W.Frag) (te : TE) : TE := fun σ H Q => te σ H fun x H1 => rItemsT K x H1 Q
theorem titems_laid {pins : List (Addr × Obj)} {σ : L2.St} {H : Hp} {s : Shared} {h1 : Heap} {tk : Nat} {kvs : List (Key × V)} {vs : List (Key × Value)} {as : List Addr} (I : Inv X pins σ H s) (hz : kvs.length ≤ sizeLine) (kv : KV kvs vs)
    (hk1 : ∀ b o, s.heap.get? b = some o → h1.get? b = some o) (hsz : s.heap.objs.size ≤ h1.objs.size) (hl : as.length = vs.length) (hG : PySem.W.KdxG (mixKind X.prog X.w) vs s.heap.objs.size h1 as) :
    ∃ H' : Hp, (∀ b o, H b = some o → H' b = some o) ∧ H h1.objs.size = none ∧ (∀ t ∈ as, H t = none) ∧ h1.objs.size ∉ as ∧ H' h1.objs.size = some (.frz (tupO as) (.tup (as.map V.ref))) ∧ Paired (fun (t : Addr) (q : Key × V) => H' t = some (.tup [kV q.1, q.2])) as kvs ∧ Inv X pins σ H' { s with heap := h1.push (tupO as), toks := tk } := by
  have lk : kvs.length = vs.length := Paired.length kv
  have hk : ∀ b o, h1.get? b = some o → (h1.push (tupO as)).get? b = some o := fun b o e => Heap.get?_push_of_some _ e
  have hks : ∀ b o, s.heap.get? b = some o → (h1.push (tupO as)).get? b = some o := fun b o e => hk _ _ (hk1 _ _ e)
  have hS : (h1.push (tupO as)).get? h1.objs.size = some (tupO as) := Heap.get?_push_size _ rfl
  have hSn : h1.objs.size ∉ as := fun z => Nat.lt_irrefl _ (hG.there z)
  have nd : as.Nodup := List.Pairwise.imp (fun {a b} (h : a < b) => Nat.ne_of_lt h) hG.rise
  have new : ∀ t ∈ as, H t = none := fun t ht => I.hok.fresh (Nat.le_of_lt (hG.above t ht))
  have newS : H h1.objs.size = none := I.hok.fresh hsz
  have atP := putT_at as kvs (upd H h1.objs.size (.frz (tupO as) (.tup (as.map V.ref)))) (by omega) nd
  have off : ∀ b, b ∉ as → b ≠ h1.objs.size → putT (upd H h1.objs.size (.frz (tupO as) (.tup (as.map V.ref)))) as kvs b = H b := fun b h1 h2 => by rw [putT_off as kvs _ h1, upd_ne h2]
  have low : ∀ b o, s.heap.get? b = some o → b ∉ as ∧ b ≠ h1.objs.size := fun b o e => ⟨fun z => absurd (Heap.lt_size e) (Nat.not_lt.mpr (Nat.le_of_lt (hG.above b z))), Nat.ne_of_lt (Nat.lt_of_lt_of_le (Heap.lt_size e) hsz)⟩
  have kp : ∀ b u, H b = some u → (putT (upd H h1.objs.size (.frz (tupO as) (.tup (as.map V.ref)))) as kvs) b = some u := fun b u e => by
    rw [off b (fun z => by rw [new b z] at e; cases e) (fun z => by rw [z, newS] at e; cases e)]
    exact e
  have eS : putT (upd H h1.objs.size (.frz (tupO as) (.tup (as.map V.ref)))) as kvs h1.objs.size = some (.frz (tupO as) (.tup (as.map V.ref))) := by rw [putT_off as kvs _ hSn, upd_same]
  refine ⟨putT (upd H h1.objs.size (.frz (tupO as) (.tup (as.map V.ref)))) as kvs, kp, newS, new, hSn, eS, atP, ?_⟩
  refine I.call' (ch := []) rfl ⟨fun b o q _ _ _ => hks b o q, fun b o q _ _ _ => ⟨o.slots, hks b o q⟩, fun b o q n _ => ?_, fun b o q _ => ⟨o, hks b o q⟩, fun b xs q => kp b _ q, fun b o u q => kp b _ q, fun b ps q => ⟨#[], by rw [kp b _ q]; simp⟩⟩ (fun b u q => ?_) I.bare fun b z => by simp at z
  · obtain ⟨z1, z2⟩ := low b o q
    rw [off b z1 z2]
    exact n
  · by_cases hb : b ∈ as
    · obtain ⟨j, pk, e1, e2, e3⟩ := paired_ix atP hb
      rw [e3] at q
      cases q
      obtain ⟨key, k, x, f1, f2, f3⟩ := hG.pairs j b e1
      obtain ⟨qv, g1, g2, g3⟩ := LiI.paired_get kv e2
      rw [f1] at g1
      cases g1
      have rk : RelV (kV pk.1) key := by
        rw [g2]
        exact relV_key (show keyIs k key = true from f2)
      exact ⟨by show 2 ≤ sizeLine; decide, [key, x], .cons rk (.cons g3 .nil), ⟨_, hk _ _ f3, rfl, _, rfl⟩⟩
    · by_cases hb2 : b = h1.objs.size
      · rw [hb2] at q ⊢
        rw [eS] at q
        cases q
        exact ⟨hS, by rw [List.length_map]; omega, as.map Value.ref, vals_refs as, ⟨_, hS, rfl, _, rfl⟩⟩
      · rw [off b hb hb2] at q
        exact (I.hok b u q).stay (fun d v _ y => hks d v y) (fun d y => kp d _ y) fun d xs y => kp d _ y
section
variable {prog : Program} {w : World} {A : Around} {E : Value → Shared → Prop} {s : Shared} {K : Type} [DecidableEq K] {knd : KeyKind prog w K} {r d : Addr} {kvs : List (K × Value)} {ep : Nat}
open PySem.W
theorem code_tuple_new_items {Q₁ : Value → Shared → Prop} (hh : A.handled = none) (hv : s.heap.IsItemsView r d) (hm : s.heap.DictAt knd d kvs ep) (hn : kvs.length ≤ sizeLine) (hr : s.heap.objs.size ≤ r + 1)
    (h : ∀ (h' : Heap) (tk : Nat) (as : List Addr), (∀ b o, s.heap.get? b = some o → h'.get? b = some o) → as.length = kvs.length → KdxG knd kvs s.heap.objs.size h' as → s.heap.objs.size ≤ h'.objs.size →
      Q₁ (.ref h'.objs.size) { s with heap := h'.push (tupO as), toks := tk }) :
    codeAny (model prog w) A (.call (.builtin "tuple.__new__") ⟨[.type "tuple", .ref r], []⟩) (wants Q₁ E) s := by
  refine codeAny_of_tree ?_
  show wpAny _ A.in1 (do checkBuiltinCall "tuple.__new__" ⟨[.type "tuple", .ref r], []⟩; again (.builtin "tuple.__new__" ⟨[.type "tuple", .ref r], []⟩)) _ _ s
  refine wpAny_bind (wpAny_of_eq (PySem.F.newCall_tuple_1 _) (wpAny_pure ⟨plainId_quiet PySem.F.plain_tuple_new _, codeAny_builtin PySem.F.entry_tuple_new ?_⟩))
  rw [Around.under_plainId PySem.F.plain_tuple_new _]
  have hTI : s.TypeIs (.ref r) "dict_items" := hv.typeIs
  have hh1 : A.in1.handled = none := hh
  have hsub := sub_tuple_self
  have hinit := init_tuple_lookup
  have hmh := madeHere_tuple
  wp_walk using wpAny_typeOf hTI, kdx_collect (A := A.in1) hh1 hv hm hn
  intro h' tk as hk hl hG
  show wpAny _ _ (Builtin.Tuple.tupleExact (as.map Value.ref).toArray >>= fun v => ret v) _ _ _
  unfold Builtin.Tuple.tupleExact
  refine wpAny_bind (wpAny_newObj_type ?_ (by show (as.map Value.ref).toArray.size ≤ sizeLine; rw [List.size_toArray, List.length_map, hl]; exact hn))
  refine wpAny_pure ?_
  refine h h' tk as hk hl hG ?_
  obtain ⟨o, ho, _⟩ := id hv
  have hlt : r < h'.objs.size := Heap.lt_size (hk _ _ ho)
  exact Nat.le_trans hr hlt
theorem call_tuple_items {Q : Value → Shared → Prop} (hh : A.handled = none) (hv : s.heap.IsItemsView r d) (hm : s.heap.DictAt knd d kvs ep) (hn : kvs.length ≤ sizeLine) (hr : s.heap.objs.size ≤ r + 1)
    (hQ : ∀ (h' : Heap) (tk : Nat) (as : List Addr), (∀ b o, s.heap.get? b = some o → h'.get? b = some o) → as.length = kvs.length → KdxG knd kvs s.heap.objs.size h' as → s.heap.objs.size ≤ h'.objs.size →
      Q (.ref h'.objs.size) { s with heap := h'.push (tupO as), toks := tk }) :
    wpAny (model prog w) A (call (.type "tuple") [.ref r]) Q E s := by
  refine callType_codes (Q₁ := fun obj s₁ => s₁.TypeIs obj "tuple" ∧ Q obj s₁) PySem.F.called_tuple (PySem.F.typeCall_tuple_1 _) PySem.F.entry_object_init
    (code_tuple_new_items (A := A.in1) hh hv hm hn hr fun h' tk as hk hl hG hs => ⟨⟨_, Heap.get?_push_size _ rfl, rfl⟩, hQ h' tk as hk hl hG hs⟩) fun obj s₁ h₁ => ?_
  exact ⟨h₁.1, PySem.F.args_object_init_2 obj _, object_init_meets PySem.F.called_tuple.init.lookup PySem.F.called_tuple.made (by decide) prog w A.in1 _ s₁ ⟨h₁.1, rfl, h₁.2⟩⟩
end
/-- tuple(e.items()) -/
theorem pe_tupItems (hc : X.calm = true) (he : PE X e te) (hg : Gl X "tuple") (hm : X.mg "tuple" = none) (hv : bootBuiltins "tuple" = some (.type "tuple")) (hbase : attributeBase e "items" X.env (eval e X.env) = eval e X.env := by rfl) (hline : (apos.endLine == cpos.line) = true := by rfl)
    (hs : starEach [.Call (.Attribute e "items" apos) [] [] cpos] X.env = (false, eval (.Call (.Attribute e "items" apos) [] [] cpos) X.env) :: starEach [] X.env := by rfl) :
    PE X (.Call (.Name "tuple" p) [.Call (.Attribute e "items" apos) [] [] cpos] [] pos) (tTupItems X.K te) := by
  refine ⟨fun pins s σ H Q I hq => ?_⟩
  refine wpAny_Call_Name_kw (ld_blt I hg hm hv ?_)
  refine PyProof.Rows.callWith_type1 ?_ hs rfl
  rw [hs]
  show wpAny _ _ (spliced ((false, eval (.Call (.Attribute e "items" apos) [] [] cpos) X.env) :: backTo pos (starEach [] X.env))) _ _ s
  refine Calls.spliced_cons ?_
  refine wpAny_Call_method (T := "dict") (id := "dict.items") hbase rfl hline PySem.F.plainAttrs_dict PySem.F.slot_dict_items PySem.F.type_dict_items (thn (he.run pins s σ H _ I hq) fun u s1 ⟨x, H1, I1, rx, ⟨d, kvs, ex, hd, q⟩⟩ => ?_)
  subst ex
  obtain rfl : u = Value.ref d := rx
  obtain ⟨hz, hs0, vs, kv, hdo⟩ := I1.hok d _ hd
  obtain ⟨ep, hat⟩ := hdo.dictAt
  have lk : kvs.length = vs.length := Paired.length kv
  have I2 : Inv X pins σ H1 { s1 with heap := s1.heap.push { cls := .type "dict_items", data := .fields #[.ref d] } } := I1.kept (t' := s1.toks) fun b ob q => Heap.get?_push_of_some _ q
  refine ⟨hdo.typeIs, hdo.mapOf.noDict, ?_⟩
  show wpAny _ _ (callWith cpos (.builtin "dict.items") [.ref d] [] []) _ X.xe s1
  refine method_meetsIn PySem.F.slot_dict_items PySem.F.entry_dict_items rfl (PySem.evalArgs_none ⟨rfl, hdo.typeIs, PySem.F.args_dict_items_1 _, _, meets_dict_items (mixKind X.prog X.w) d hs0, ⟨vs, hdo⟩, ?_⟩)
  refine Calls.spliced_nil ?_
  refine call_tuple_items (knd := mixKind X.prog X.w) (kvs := vs) (ep := ep) (I1.ok.hd hc) ⟨_, Heap.get?_push_size _ rfl, rfl, rfl⟩ (hat.push _) (by omega) (by show (s1.heap.push _).objs.size ≤ _; rw [Heap.size_push]; exact Nat.le_refl _) fun h' tk as hk hl hG hsz => ?_
  obtain ⟨H', k1, k2, k3, k4, k5, k6, J⟩ := titems_laid (tk := tk) I2 hz kv hk hsz hl hG
  exact ⟨.ref _, H', J, rfl, q H' _ as k1 k2 k3 k4 k5 k6⟩
end
/-! ### a local def called with a star; own [ ], in of instances -/
section
variable {X : Cx} {CX : CXT} {k i : Nat} {C f : Addr} {sp : Sp} {E : XK} {x : Str} {a b e : Expr} {es : List Expr} {p pos : Pos} {t : TA} {ta tb : TE}
/-- x(e, *y), x a local that holds the def at f -/
def tCallLS (X : Cx) (CX : CXT) (k i : Nat) (t : TA) (E : XK) : TE := fun σ H Q => ∃ f sp, σ[i]? = some (some (.ref f)) ∧ FnR X.prog X.w X.K X.mg X.base CX k f sp ∧ PySem.W.keepIn X.K (.ref f) = true ∧ t σ H fun vs H1 => sp vs H1 Q E
theorem pe_callLS (hr : Room k X.A) (hN : X.N[i]? = some x) (hv : Vis X.env.scope x) (hx : Passes CX X E) (ha : PA X (e :: es) t)
    (hdb : (x == ("__debug__" : Str)) = false := by decide) (hcd : (x == ("__classdict__" : Str)) = false := by decide)
    (he : starEach (e :: es) X.env = (false, eval e X.env) :: starEach es X.env := by rfl) (hst : (backTo pos (starEach es X.env)).any (·.1) = true := by rfl) : PE X (.Call (.Name x p) (e :: es) [] pos) (tCallLS X CX k i t E) := by
  refine ⟨fun pins s σ H Q I h => ?_⟩
  obtain ⟨f, sp, hs, F, hk, ht⟩ := h
  refine wpAny_Call_Name_kw (thn ((pe_var (pos := p) hN hv hdb hcd).run pins s σ H (fun v H1 => v = .ref f ∧ H1 = H) I ⟨.ref f, hs, rfl, rfl⟩) fun u s1 ⟨v, H1, I1, r1, q1⟩ => ?_)
  obtain ⟨rfl, rfl⟩ := q1
  cases r1
  refine PySem.W.callWith_S2 (h₀ := X.base) I.ok.mod.kin hk (thn (ha.run pos pins s1 σ _ _ I1 ht) fun us s2 ⟨vs, H2, I2, r, q⟩ => ⟨I2.kIn, ?_⟩) he hst
  exact wpAny_call (run_fnR F hr hx I2 r q)
/-- o[i] by the own __getitem__ -/
def rItemOwn (C : Addr) (sp : Sp) (E : XK) : R2 := fun x y H Q => ∃ a dx fs, x = .ref a ∧ H a = some (.ins C dx fs) ∧ sp [.ref a, y] H Q E
theorem pe_itemOwn (hs : PySem.W.findIn X.K (.ref C) "__getitem__" = some (some (.ref f))) (hfi : PySem.W.fnIn X.K f = true) (hf : PySem.W.isFn X.K (.ref f) = true) (F : FnR X.prog X.w X.K X.mg X.base CX k f sp) (hr : Room (k + 1) X.A) (hx : Passes CX X E)
    (ha : PE X a ta) (hb : PE X b tb) (hsl : ∀ (x : Addr) (i : Value), subscripted b true (.ref x) i = runValue (.builtin "lifetime.subscript" ⟨[.ref x, i], []⟩) := by intros; with_unfolding_all rfl) : PE X (.Subscript a b pos) (tOp (rItemOwn C sp E) ta tb) := by
  refine ⟨fun pins s σ H Q I h => ?_⟩
  refine PyProof.Rows.Subscript_ (binT ha hb I h fun v u s2 x y H2 I2 rx ry q => ?_)
  obtain ⟨a', dx, fs, rfl, ea, q⟩ := q
  cases (show v = Value.ref a' from rx)
  obtain ⟨mA, O, _⟩ := ins_get I2.hok ea
  obtain ⟨od, J, _⟩ := O.look
  obtain ⟨m, hF⟩ := I2.fr
  have hr2 : Room k X.A.in1 := hr.in1
  refine PySem.W.sub_K hF I2.ok.mod.kin J hs hfi hf ?_ (hsl _ _)
  refine wpAny_call (codeAny_mono (SlX.run_at (us := [.ref a', u]) (ws := [.ref a', y]) F hr2 I2.env0.in1 hx I2 (.cons rfl (.cons ry .nil)) q) fun r s' z => ?_)
  exact z
/-- x in o by the own __contains__, which gives True or False -/
def rInOwn (C : Addr) (sp : Sp) (E : XK) : R2 := fun x y H Q => ∃ a dx fs, y = .ref a ∧ H a = some (.ins C dx fs) ∧ sp [.ref a, x] H (fun z H' => ∃ c, z = .bl c ∧ Q (.bl c) H') E
def rNotInOwn (C : Addr) (sp : Sp) (E : XK) : R2 := fun x y H Q => ∃ a dx fs, y = .ref a ∧ H a = some (.ins C dx fs) ∧ sp [.ref a, x] H (fun z H' => ∃ c, z = .bl c ∧ Q (.bl (!c)) H') E
theorem op_inOwn (hs : PySem.W.findIn X.K (.ref C) "__contains__" = some (some (.ref f))) (hf : PySem.W.isFn X.K (.ref f) = true) (F : FnR X.prog X.w X.K X.mg X.base CX k f sp) (hr : Room k X.A) (hx : Passes CX X E) : OpR X (compareOp .In) (rInOwn C sp E) := by
  intro pins s σ H x y v u Q I rx ry h
  obtain ⟨a, dx, fs, rfl, ha, q⟩ := h
  cases (show u = Value.ref a from ry)
  obtain ⟨mA, O, _⟩ := ins_get I.hok ha
  obtain ⟨od, J, _⟩ := O.look
  obtain ⟨m, hF⟩ := I.fr
  refine PySem.W.in_K hF I.ok.mod.kin J hs hf ?_
  refine wpAny_mono (wpAny_call (run_fnR (us := [.ref a, v]) (vs := [.ref a, x]) F hr hx I (.cons rfl (.cons rx .nil)) q)) (fun w s' z => ?_) fun _ _ x => x
  obtain ⟨z', H', I', rz, c, rfl, qz⟩ := z
  cases (show w = Value.bool c from rz)
  exact PySem.wpAny_truthy_bool ⟨.bl c, H', I', rfl, qz⟩
theorem op_notInOwn (hs : PySem.W.findIn X.K (.ref C) "__contains__" = some (some (.ref f))) (hf : PySem.W.isFn X.K (.ref f) = true) (F : FnR X.prog X.w X.K X.mg X.base CX k f sp) (hr : Room k X.A) (hx : Passes CX X E) : OpR X (compareOp .NotIn) (rNotInOwn C sp E) := by
  intro pins s σ H x y v u Q I rx ry h
  obtain ⟨a, dx, fs, rfl, ha, q⟩ := h
  cases (show u = Value.ref a from ry)
  obtain ⟨mA, O, _⟩ := ins_get I.hok ha
  obtain ⟨od, J, _⟩ := O.look
  obtain ⟨m, hF⟩ := I.fr
  refine PySem.W.notIn_K hF I.ok.mod.kin J hs hf ?_
  refine wpAny_mono (wpAny_call (run_fnR (us := [.ref a, v]) (vs := [.ref a, x]) F hr hx I (.cons rfl (.cons rx .nil)) q)) (fun w s' z => ?_) fun _ _ x => x
  obtain ⟨z', H', I', rz, c, rfl, qz⟩ := z
  cases (show w = Value.bool c from rz)
  exact PySem.wpAny_truthy_bool ⟨.bl (!c), H', I', rfl, qz⟩
end
/-! ### what may change; dicts by names -/
/-- all objects but those of l stay -/
def Chg (l : List Addr) (H H' : Hp) : Prop := ∀ x o, x ∉ l → H x = some o → H' x = some o
theorem Chg.refl (l : List Addr) (H : Hp) : Chg l H H := fun _ _ _ e => e
theorem Chg.trans {l : List Addr} {H H1 H2 : Hp} (a : Chg l H H1) (b : Chg l H1 H2) : Chg l H H2 := fun x o n e => b x o n (a x o n e)
theorem Chg.of_same {l : List Addr} {H H1 : Hp} (a : Same H H1) : Chg l H H1 := fun x o _ e => a x o e
theorem Chg.more {l l' : List Addr} {H H1 : Hp} (a : Chg l H H1) (h : ∀ x, x ∈ l → x ∈ l') : Chg l' H H1 := fun x o n e => a x o (fun m => n (h x m)) e
theorem Chg.upd {l : List Addr} {H : Hp} {a : Addr} {o : HO} (m : a ∈ l) : Chg l H (upd H a o) := fun x u n e => by
  rw [upd_ne fun z => n (by rw [z]; exact m)]; exact e
theorem Chg.new {l : List Addr} {H : Hp} {a : Addr} {o : HO} (n : H a = none) : Chg l H (L2.upd H a o) := .of_same (same_new n)
theorem Chg.mask {l : List Addr} {H H' : Hp} (k : Chg l H H') : Same (mask l H) (mask l H') := fun a o e => by
  by_cases h : a ∈ l
  · rw [mask_in h] at e; cases e
  · rw [mask_out h] at e ⊢
    exact k a o h e
theorem Chg.of_mask {l : List Addr} {H H' : Hp} (s : Same (Qp.mask l H) (Qp.mask l H')) : Chg l H H' := fun a o n e => by
  have := s a o (by rw [mask_out n]; exact e)
  rw [mask_out n] at this
  exact this
theorem Keeps.chg {p q : Addr} {H H' : Hp} (k : Keeps p q H H') : Chg [p, q] H H' := fun x o n e => k x o (fun z => n (by rw [z]; exact List.mem_cons_self)) (fun z => n (by rw [z]; exact List.mem_cons_of_mem _ List.mem_cons_self)) e
theorem Keeps.chgL {p q : Addr} {l : List Addr} {H H' : Hp} (hp : p ∈ l) (hq : q ∈ l) (k : Keeps p q H H') : Chg l H H' := k.chg.more fun x m => by
  rcases List.mem_cons.mp m with rfl | m
  · exact hp
  · rw [List.mem_singleton.mp m]; exact hq
/-- what was free and stays so -/
theorem Chg.free {l : List Addr} {H H1 : Hp} {a : Addr} (k : Chg l H H1) (n : H1 a = none) (h : a ∉ l) : H a = none := by
  cases e : H a with
  | none => rfl
  | some o => rw [k a o h e] at n; cases n
/-- entries by names -/
def kvs {α : Type} (l : List (Str × α)) : List (Key × α) := l.map fun p => (Sum.inr p.1, p.2)
def look {α : Type} (l : List (Str × α)) (n : Str) : Option α := (l.find? fun p => decide (p.1 = n)).map (·.2)
def put {α : Type} (l : List (Str × α)) (n : Str) (v : α) : List (Str × α) := if (l.any fun p => decide (p.1 = n)) = true then l.map (fun p => if p.1 = n then (p.1, v) else p) else l ++ [(n, v)]
theorem look_nil {α : Type} {n : Str} : look ([] : List (Str × α)) n = none := rfl
theorem look_pos {α : Type} {p : Str × α} {r : List (Str × α)} {n : Str} (e : p.1 = n) : look (p :: r) n = some p.2 := by simp [look, List.find?_cons, e]
theorem look_neg {α : Type} {p : Str × α} {r : List (Str × α)} {n : Str} (e : ¬ p.1 = n) : look (p :: r) n = look r n := by simp [look, List.find?_cons, e]
theorem valV_kvs (n : Str) : ∀ l : List (Str × V), valV (kvs l) (Sum.inr n) = look l n
  | [] => rfl
  | p :: r => by
    have e : kvs (p :: r) = (Sum.inr p.1, p.2) :: kvs r := rfl
    rw [e]
    by_cases h : p.1 = n
    · rw [look_pos h, valV_pos (by rw [h])]
    · rw [look_neg h, valV_neg (fun z => h (Sum.inr.inj z)), valV_kvs n r]
theorem kvs_any (n : Str) : ∀ l : List (Str × V), ((kvs l).any fun kv => decide (kv.1 = Sum.inr n)) = l.any fun p => decide (p.1 = n)
  | [] => rfl
  | p :: r => by
    have e : kvs (p :: r) = (Sum.inr p.1, p.2) :: kvs r := rfl
    rw [e, List.any_cons, List.any_cons, kvs_any n r]
    congr 1
    by_cases h : p.1 = n
    · rw [decide_eq_true h, decide_eq_true (by rw [h])]
    · rw [decide_eq_false h, decide_eq_false fun z => h (Sum.inr.inj z)]
theorem putK_kvs (l : List (Str × V)) (n : Str) (v : V) : putK (kvs l) (Sum.inr n) v = kvs (put l n v) := by
  unfold putK put
  rw [kvs_any]
  split
  · unfold kvs
    rw [List.map_map, List.map_map]
    refine List.map_congr_left fun p _ => ?_
    show (if (Sum.inr p.1 : Key) = Sum.inr n then _ else _) = _
    by_cases h : p.1 = n
    · simp [h]
    · have h2 : ¬ ((Sum.inr p.1 : Key) = Sum.inr n) := fun z => h (Sum.inr.inj z)
      simp [h, h2]
  · unfold kvs
    rw [List.map_append]
    rfl
theorem kvs_len {α : Type} (l : List (Str × α)) : (kvs l).length = l.length := by unfold kvs; rw [List.length_map]
/-- what the entries hold -/
inductive CsR (K : PySem.W.Frag) (M : Hp) : List (Str × V) → List (Str × PyData) → Prop where
  | nil : CsR K M [] []
  | cons {n : Str} {v : V} {d : PyData} {l : List (Str × V)} {cs : List (Str × PyData)} (h : Dq K M v d) (t : CsR K M l cs) : CsR K M ((n, v) :: l) ((n, d) :: cs)
section
variable {K : PySem.W.Frag} {M : Hp}
theorem CsR.same {M' : Hp} (s : Same M M') : ∀ {l : List (Str × V)} {cs : List (Str × PyData)}, CsR K M l cs → CsR K M' l cs
  | _, _, .nil => .nil
  | _, _, .cons h t => .cons (dq_same s h) (t.same s)
theorem CsR.len : ∀ {l : List (Str × V)} {cs : List (Str × PyData)}, CsR K M l cs → l.length = cs.length
  | _, _, .nil => rfl
  | _, _, .cons _ t => by rw [List.length_cons, List.length_cons, t.len]
theorem CsR.at {n : Str} {d : PyData} : ∀ {l : List (Str × V)} {cs : List (Str × PyData)}, CsR K M l cs → look cs n = some d → ∃ v, look l n = some v ∧ Dq K M v d
  | _, _, .nil, e => by cases e
  | _, _, .cons (n := m) (v := v) (d := d') h t, e => by
    by_cases q : m = n
    · rw [look_pos (p := (m, d')) q] at e
      obtain rfl := Option.some.inj e
      exact ⟨v, look_pos (p := (m, v)) q, h⟩
    · rw [look_neg (p := (m, d')) q] at e
      obtain ⟨v', e', h'⟩ := t.at e
      exact ⟨v', by rw [look_neg (p := (m, v)) q]; exact e', h'⟩
theorem CsR.none {n : Str} : ∀ {l : List (Str × V)} {cs : List (Str × PyData)}, CsR K M l cs → look cs n = none → look l n = none
  | _, _, .nil, _ => rfl
  | _, _, .cons (n := m) (v := v) (d := d') h t, e => by
    by_cases q : m = n
    · rw [look_pos (p := (m, d')) q] at e
      cases e
    · rw [look_neg (p := (m, d')) q] at e
      rw [look_neg (p := (m, v)) q]
      exact t.none e
theorem CsR.any {n : Str} : ∀ {l : List (Str × V)} {cs : List (Str × PyData)}, CsR K M l cs → (l.any fun p => decide (p.1 = n)) = cs.any fun p => decide (p.1 = n)
  | _, _, .nil => rfl
  | _, _, .cons h t => by rw [List.any_cons, List.any_cons, t.any]
theorem CsR.map {n : Str} {v : V} {d : PyData} (hd : Dq K M v d) : ∀ {l : List (Str × V)} {cs : List (Str × PyData)}, CsR K M l cs → CsR K M (l.map fun p => if p.1 = n then (p.1, v) else p) (cs.map fun p => if p.1 = n then (p.1, d) else p)
  | _, _, .nil => .nil
  | _, _, .cons (n := m) (v := v') (d := d') h t => by
    rw [List.map_cons, List.map_cons]
    by_cases q : m = n
    · rw [if_pos (show (m, v').1 = n from q), if_pos (show (m, d').1 = n from q)]
      exact .cons hd (t.map hd)
    · rw [if_neg (show ¬ (m, v').1 = n from q), if_neg (show ¬ (m, d').1 = n from q)]
      exact .cons h (t.map hd)
theorem CsR.app : ∀ {l l' : List (Str × V)} {cs cs' : List (Str × PyData)}, CsR K M l cs → CsR K M l' cs' → CsR K M (l ++ l') (cs ++ cs')
  | _, _, _, _, .nil, h => h
  | _, _, _, _, .cons h t, r => .cons h (t.app r)
theorem CsR.put {n : Str} {v : V} {d : PyData} {l : List (Str × V)} {cs : List (Str × PyData)} (h : CsR K M l cs) (hd : Dq K M v d) : CsR K M (put l n v) (put cs n d) := by
  unfold Qp.put
  rw [h.any]
  split
  · exact h.map hd
  · exact h.app (.cons hd .nil)
end
theorem look_put {α : Type} (n m : Str) (v : α) : ∀ l : List (Str × α), look (put l n v) m = if m = n then some v else look l m := by
  have h1 : ∀ l : List (Str × α), (l.any fun p => decide (p.1 = n)) = true → look (l.map fun p => if p.1 = n then (p.1, v) else p) m = if m = n then some v else look l m := by
    intro l
    induction l with
    | nil => intro h; cases h
    | cons p r ih =>
      intro h
      rw [List.map_cons]
      by_cases q : p.1 = n
      · rw [if_pos q]
        by_cases e : p.1 = m
        · rw [look_pos (p := (p.1, v)) e, if_pos (e.symm.trans q)]
        · rw [look_neg (p := (p.1, v)) e, look_neg e]
          have hm : ¬ m = n := fun z => e (q.trans z.symm)
          rw [if_neg hm]
          by_cases a : (r.any fun p => decide (p.1 = n)) = true
          · rw [ih a, if_neg hm]
          · have : r.map (fun p => if p.1 = n then (p.1, v) else p) = r := by
              rw [Bool.not_eq_true, List.any_eq_false] at a
              conv => rhs; rw [← List.map_id r]
              refine List.map_congr_left fun x hx => ?_
              have := a x hx
              rw [if_neg (by simpa using this)]
              rfl
            rw [this]
      · rw [if_neg q]
        have a : (r.any fun p => decide (p.1 = n)) = true := by
          rw [List.any_cons, decide_eq_false q, Bool.false_or] at h
          exact h
        by_cases e : p.1 = m
        · rw [look_pos e, look_pos e, if_neg fun z => q (e.trans z)]
        · rw [look_neg e, look_neg e, ih a]
  intro l
  unfold put
  split
  · rename_i a; exact h1 l a
  · rename_i a
    rw [Bool.not_eq_true, List.any_eq_false] at a
    have h2 : ∀ l : List (Str × α), (∀ x ∈ l, ¬ x.1 = n) → look (l ++ [(n, v)]) m = if m = n then some v else look l m := by
      intro l
      induction l with
      | nil =>
        intro _
        by_cases e : m = n
        · rw [if_pos e]; exact look_pos (p := (n, v)) e.symm
        · rw [if_neg e]; exact look_neg (p := (n, v)) fun z => e z.symm
      | cons p r ih =>
        intro h
        rw [List.cons_append]
        by_cases e : p.1 = m
        · rw [look_pos e, look_pos e, if_neg fun z => h p List.mem_cons_self (e.trans z)]
        · rw [look_neg e, look_neg e, ih fun x hx => h x (List.mem_cons_of_mem _ hx)]
    exact h2 l fun x hx => by simpa using a x hx
theorem put_len {α : Type} {l : List (Str × α)} {n : Str} {v w : α} (h : look l n = some w) : (put l n v).length = l.length := by
  unfold put
  have a : (l.any fun p => decide (p.1 = n)) = true := by
    rw [List.any_eq_true]
    unfold look at h
    obtain ⟨p, hp, _⟩ := Option.map_eq_some_iff.mp h
    exact ⟨p, List.mem_of_find?_eq_some hp, by have := List.find?_some hp; simpa using this⟩
  rw [if_pos a, List.length_map]
/-- names in their order -/
def names {α : Type} (l : List (Str × α)) : List Str := l.map (·.1)
theorem put_names {α : Type} {l : List (Str × α)} {n : Str} {v w : α} (h : look l n = some w) : names (put l n v) = names l := by
  unfold put names
  have a : (l.any fun p => decide (p.1 = n)) = true := by
    rw [List.any_eq_true]
    unfold look at h
    obtain ⟨p, hp, _⟩ := Option.map_eq_some_iff.mp h
    exact ⟨p, List.mem_of_find?_eq_some hp, by have := List.find?_some hp; simpa using this⟩
  rw [if_pos a, List.map_map]
  refine List.map_congr_left fun p _ => ?_
  show (if p.1 = n then (p.1, v) else p).1 = p.1
  split <;> rfl
theorem look_mem {α : Type} {l : List (Str × α)} {n : Str} {v : α} (h : look l n = some v) : (n, v) ∈ l := by
  unfold look at h
  obtain ⟨p, hp, e⟩ := Option.map_eq_some_iff.mp h
  have h1 := List.mem_of_find?_eq_some hp
  have h2 : p.1 = n := by have := List.find?_some hp; simpa using this
  obtain ⟨a, b⟩ := p
  cases h2
  cases e
  exact h1
theorem look_some {α : Type} {n : Str} : ∀ {l : List (Str × α)}, n ∈ names l → ∃ v, look l n = some v
  | [], h => by cases h
  | p :: r, h => by
    by_cases e : p.1 = n
    · exact ⟨p.2, look_pos e⟩
    · rw [look_neg e]
      exact look_some (l := r) (by
        rcases List.mem_cons.mp h with q | q
        · exact absurd q.symm e
        · exact q)
theorem look_of_none {α : Type} {n : Str} : ∀ {l : List (Str × α)}, n ∉ names l → look l n = none
  | [], _ => rfl
  | p :: r, h => by
    rw [look_neg fun e => h (by rw [← e]; exact List.mem_cons_self)]
    exact look_of_none (l := r) fun m => h (List.mem_cons_of_mem _ m)
/-! ### for i, x in enumerate(t), t a tuple -/
theorem meets_enum_tup (l : Addr) (items : Array Value) :
    Meets (Builtin.«enumerate.__new__» ⟨[.type "enumerate", .ref l], []⟩) (fun _ R s => s.heap.IsTuple l items ∧
      R (.ok (.ret (.ref (s.heap.push { cls := .type "tuple_iterator", data := .fields #[.ref l, .int 0 0] }).objs.size)))
        { s with heap := (s.heap.push { cls := .type "tuple_iterator", data := .fields #[.ref l, .int 0 0] }).push { cls := .type "enumerate", data := .fields #[.none, .bool false, .ref s.heap.objs.size, rawInt 0, .none, .none] } }) :=
  .of_wp fun prog w A R s h => by
    obtain ⟨hp, g, d, tk, os⟩ := s; obtain ⟨hl, h⟩ := h
    have hsub := sub_enumerate
    wp_walk
    refine wpAny_stack_any fun st => wpAny_pure ?_
    split
    · rename_i c _ _ _ _ _
      cases (c == Value.type "enumerate")
      · wp_walk using wpAny_pyIter_tuple hl
        exact ⟨_, rfl, h⟩
      · wp_walk using wpAny_pyIter_tuple hl
        exact ⟨_, rfl, h⟩
    · wp_walk using wpAny_pyIter_tuple hl
      exact ⟨_, rfl, h⟩
theorem call_enum_tup {prog : Program} {w : World} {A : Around} {E : Value → Shared → Prop} {s : Shared} {l : Addr} {items : Array Value} {Q : Value → Shared → Prop} (hL : s.heap.IsTuple l items)
    (h : ∀ h', IsEnum h' (s.heap.objs.size + 1) s.heap.objs.size 0 .none → h'.IsTupleIter s.heap.objs.size l 0 → h'.objs.size = s.heap.objs.size + 2 →
      (∀ b o, s.heap.get? b = some o → h'.get? b = some o) → Q (.ref (s.heap.objs.size + 1)) { s with heap := h' }) :
    wpAny (model prog w) A (call (.type "enumerate") [.ref l]) Q E s := by
  refine callType_new F.called_enumerate (by decide) (F.typeCall_enumerate_1 _) (F.newCall_enumerate_1 _) (fun obj => F.args_object_init_2 obj _) F.entry_enumerate_new
    (meets_enum_tup l items) ⟨hL, ?_⟩
  have hz : (s.heap.push { cls := .type "tuple_iterator", data := .fields #[.ref l, .int 0 0] }).objs.size = s.heap.objs.size + 1 := Heap.size_push ..
  show _ ∧ _
  rw [hz]
  have he : IsEnum ((s.heap.push { cls := .type "tuple_iterator", data := .fields #[.ref l, .int 0 0] }).push
      { cls := .type "enumerate", data := .fields #[.none, .bool false, .ref s.heap.objs.size, rawInt 0, .none, .none] }) (s.heap.objs.size + 1) s.heap.objs.size 0 .none := by
    have := Heap.get?_push_size (s.heap.push { cls := .type "tuple_iterator", data := .fields #[.ref l, .int 0 0] })
      (o := { cls := .type "enumerate", data := .fields #[.none, .bool false, .ref s.heap.objs.size, rawInt 0, .none, .none] }) rfl
    rw [hz] at this; exact this
  refine ⟨⟨_, he, rfl⟩, h _ he ⟨_, Heap.get?_push_of_some _ (Heap.get?_push_size _ rfl), rfl, rfl⟩ (by rw [Heap.size_push, hz]) fun b o x => Heap.get?_push_of_some _ (Heap.get?_push_of_some _ x)⟩
theorem enum_endT {prog : Program} {w : World} {A : Around} {E : Value → Shared → Prop} {s : Shared} {e it l : Addr} {i : Nat} {items : Array Value} {old : Value} {Q : Option Value → Shared → Prop} (hh : A.in1.handled = none)
    (he : IsEnum s.heap e it i old) (hit : s.heap.IsTupleIter it l i) (hl : s.heap.IsTuple l items) (hx : items[i]? = none) (hQ : ∀ h', Heap.ExtBut it s.heap h' → Q none { s with heap := h' }) : wpAny (model prog w) A (pyNext (.ref e)) Q E s := by
  have hT : s.TypeIs (.ref e) "enumerate" := ⟨_, he, rfl⟩
  unfold pyNext
  refine wpAny_bind (wpAny_attempt (wpAny_callSpecial?_slot (name := Str.ofString "__next__") hT F.slot_enumerate_next
    (wpAny_call_entry F.slot_enumerate_next hT F.entry_enumerate_next ?_ (F.args_enumerate_next_1 _))))
  show wpAny _ _ (field (.ref e) 2 >>= _) _ _ _
  refine wpAny_bind (wpAny_field he rfl (x := .ref it) rfl ?_)
  refine wpAny_bind (wpAny_nextOf_tuple_end hh hit hl hx fun h' x he' hx' => ?_)
  obtain ⟨o, ho, hc⟩ := hx'
  refine wpAny_bind (wpAny_isInstance (T := "StopIteration") (b := true) ⟨o, ho, hc⟩ isSubtype_stop ?_)
  exact wpAny_pure (hQ _ he')
/-- the tuple at a, each item in a new pair -/
def IteT (K : PySem.W.Frag) (a : Addr) : It :=
  ⟨fun i H => ∃ (xs : List V) (x : V), SqT K H a xs ∧ xs[i]? = some x, fun i H v H' => ∃ T x, v = .ref T ∧ H T = none ∧ H' = upd H T (.tup [.int (i : Nat), x]) ∧ ∀ xs, SqT K H a xs → xs[i]? = some x, fun i H => ∃ xs : List V, SqT K H a xs ∧ xs.length ≤ i⟩
theorem turn_enumT {P : Program} {w : World} {K : PySem.W.Frag} {elts : List Expr} {kk : Nat} {tpos : Pos} (a e it : Addr) (hai : a ≠ it) (hae : e ≠ a) :
    Turn P w K (.Tuple elts kk tpos) (IteT K a) [e, it] e (fun i h => (∃ old, IsEnum h e it ((i : Nat) : Int) old) ∧ h.IsTupleIter it a i ∧ e ≠ it) where
  mem := by simp
  obj := fun i h st b hb => by
    obtain ⟨⟨old, he⟩, ⟨o, ho, hc, hd⟩, _⟩ := st
    have e' : b = e ∨ b = it := by simpa using hb
    rcases e' with z | z
    · rw [z]; exact ⟨_, he, fun v q => nomatch q⟩
    · rw [z]; exact ⟨o, ho, fun v q => by rw [hd] at q; cases q⟩
  keep := fun i h h' st k => let ⟨⟨old, he⟩, hi, hne⟩ := st; ⟨⟨old, k e (by simp) _ he⟩, hi.at fun o q => k it (by simp) o q, hne⟩
  item := by
    intro X hP hw hK hc i pins s σ H E I hf st hg
    subst hP hw hK
    obtain ⟨⟨old, he⟩, hit, hne⟩ := st
    obtain ⟨xs, x, hq, hx⟩ := hg
    obtain ⟨its, rv, p, hz⟩ := I.tuple hq
    obtain ⟨u, hu, ru⟩ := rv.get hx
    have hel : e < s.heap.objs.size := Heap.lt_size he
    have hil : it < s.heap.objs.size := by obtain ⟨_, q, _⟩ := hit; exact Heap.lt_size q
    have hh : X.A.in1.handled = none := I.ok.hd hc
    have hsz : i < its.toArray.size := by
      have := (List.getElem?_eq_some_iff.mp hu).1
      simpa using this
    refine wpAny_pyNext_enum_itemD (Draws.tuple (prog := X.prog) (w := X.w) (A := X.A.in1) hh it a hai its.toArray) he ⟨hit, p⟩ hsz hne (by simp [hne, hae]) fun y h' tk hy ho hst' hT hsz' hk => ?_
    have ey : y = u := by
      have h1 : its[i]? = some y := by simpa using hy
      rw [hu] at h1
      exact (Option.some.inj h1).symm
    subst ey
    refine ⟨_, rfl, wpAny_letOwnedTupleGo_enum (s := { s with heap := h', toks := tk + 1 }) ho fun h'' he' sb => ?_⟩
    have hT2 : h''.get? s.heap.objs.size = some { cls := .type "tuple", data := .seq #[.int i tk, y] } := (sb.2 _ (Nat.ne_of_gt hel)).trans hT
    have new : ObjOk X.prog X.w (upd H s.heap.objs.size (.tup [.int (i : Nat), x])) h'' s.heap.objs.size (.tup [.int (i : Nat), x]) :=
      ⟨by show 2 ≤ sizeLine; decide, [.int i tk, y], .cons ⟨_, rfl⟩ (.cons ru .nil), ⟨_, hT2, rfl, _, rfl⟩⟩
    have I1 : Inv X pins σ (upd H s.heap.objs.size (.tup [.int (i : Nat), x])) { s with heap := h'', toks := tk + 1 } :=
      I.turnedNew (ch := [e, it]) (fun b ob hb q => (sb.2 b (fun z => hb (by simp [z]))).trans (hk b ob (fun z => hb (by simp [z])) (fun z => hb (by simp [z])) q)) hf (Nat.le_refl _) new
    refine ⟨.ref s.heap.objs.size, _, I1, rfl, ⟨_, x, rfl, I.hok.fresh (Nat.le_refl _), rfl, fun ys hy' => by rw [I.tuple_inj hy' hq]; exact hx⟩, ⟨⟨y, ?_⟩, hst'.1.at fun o q => (sb.2 it (Ne.symm hne)).trans q, hne⟩, fun b hb => ?_⟩
    · have e1 : ((i + 1 : Nat) : Int) = (i : Int) + 1 := by omega
      rw [e1]; exact he'
    · have hb' : b < s.heap.objs.size := by
        have e' : b = e ∨ b = it := by simpa using hb
        rcases e' with z | z
        · rw [z]; exact hel
        · rw [z]; exact hil
      rw [upd_ne (Nat.ne_of_lt hb')]
      exact (hf b hb).1
  done := by
    intro X hP hw hK hc i pins s σ H E I hf st hg
    subst hP hw hK
    obtain ⟨⟨old, he⟩, hit, hne⟩ := st
    obtain ⟨xs, hq, hx⟩ := hg
    obtain ⟨its, rv, p, hz⟩ := I.tuple hq
    obtain ⟨f0, f1, f2, f3, f4, f5⟩ := hf it (by simp)
    have hl := rv.length
    have hh : X.A.in1.handled = none := I.ok.hd hc
    exact enum_endT hh he hit p (by simp; omega) fun h' eb => ⟨rfl, I.turned (t' := s.toks) (fun b o hb q => eb b o hb q) f0 f1 f3 f4 f5⟩
  self := fun A i s Q E st h => let ⟨⟨_, he⟩, _⟩ := st; wpAny_pyIter_enum he h
def iEnumT (K : PySem.W.Frag) (ta : TA) : TI := fun σ H R => ta σ H fun vs H1 => ∃ a xs, vs = [.ref a] ∧ SqT K H1 a xs ∧ R (IteT K a) H1
theorem pi_enumT {X : Cx} {e : Expr} {ta : TA} {p pos tpos : Pos} {elts : List Expr} {kk : Nat} (hg : Gl X "enumerate") (hm : X.mg "enumerate" = none) (ha : PA X [e] ta) (hs : starEach [e] X.env = [(false, eval e X.env)] := by rfl) :
    PI X (.Tuple elts kk tpos) (.Call (.Name "enumerate" p) [e] [] pos) (iEnumT X.K ta) := by
  refine ⟨fun pins s σ H R I h => ?_⟩
  refine PyProof.Rows.Call_ (ld_blt I hg hm PyProof.Rows.Boot.«enumerate» (PyProof.Rows.callWith_type1 (thn (ha.run pos pins s σ H _ I h) fun us s1 ⟨vs, H1, I1, r1, q1⟩ => ?_) hs rfl))
  obtain ⟨a, xs, ex, hq, q⟩ := q1
  subst ex
  cases r1 with
  | cons r rr =>
    cases rr
    cases r
    obtain ⟨its, rv, p', hz⟩ := I1.tuple hq
    have hal : a < s1.heap.objs.size := by obtain ⟨o, g, _⟩ := p'; exact Heap.lt_size g
    refine call_enum_tup p' fun h' he hit hsz hk => wpAny_pyIter_enum he ?_
    have I2 : Inv X pins σ H1 { s1 with heap := h' } := I1.kept (t' := s1.toks) hk
    refine ⟨s1.heap.objs.size + 1, [s1.heap.objs.size + 1, s1.heap.objs.size], _, _, H1, rfl, I2, turn_enumT a (s1.heap.objs.size + 1) s1.heap.objs.size (Nat.ne_of_lt hal) (Nat.ne_of_gt (Nat.lt_succ_of_lt hal)), ⟨⟨.none, he⟩, hit, Nat.succ_ne_self _⟩, fun b hb => ?_, q⟩
    have e' : b = s1.heap.objs.size + 1 ∨ b = s1.heap.objs.size := by simpa using hb
    have hle : s1.heap.objs.size ≤ b := by
      rcases e' with z | z
      · rw [z]; exact Nat.le_add_right _ _
      · rw [z]; exact Nat.le_refl _
    exact I1.fpOk hle (I1.hok.fresh hle)
/-- a loop over it -/
theorem for_enumT {K : PySem.W.Frag} {a : Addr} {xs : List V} {g : TG} {tb : TS} {D : Ends} {σ : L2.St} {H : Hp} (Pv : Nat → L2.St → Hp → Prop) (h0 : Pv 0 σ H) (hl : ∀ i σ H, i ≤ xs.length → Pv i σ H → SqT K H a xs)
    (hs : ∀ i x T σ H, xs[i]? = some x → H T = none → Pv i σ H → g (.ref T) σ (upd H T (.tup [.int (i : Nat), x])) fun σ2 H2 => tb { D with nx := Pv (i + 1), ct := Pv (i + 1), bk := D.nx } σ2 H2) (hd : ∀ σ H, Pv xs.length σ H → D.nx σ H) :
    ∃ W : Nat → Nat → L2.St → Hp → Prop, (∃ m, W 0 m σ H) ∧ ∀ i m σ H, W i m σ H →
      ((IteT K a).stop i H ∧ D.nx σ H) ∨ ((IteT K a).go i H ∧ ∃ N : L2.St → Hp → Prop, (∀ σ' H', N σ' H' → ∃ m', m' < m ∧ W (i + 1) m' σ' H') ∧ ∀ x H', (IteT K a).yld i H x H' → g x σ H' fun σ2 H2 => tb { D with nx := N, ct := N, bk := D.nx } σ2 H2) := by
  refine ⟨fun i m σ H => m = xs.length - i ∧ i ≤ xs.length ∧ Pv i σ H, ⟨xs.length, by simp, Nat.zero_le _, h0⟩, ?_⟩
  rintro i m σ H ⟨rfl, hi, p⟩
  have q := hl i σ H hi p
  by_cases hlt : i < xs.length
  · refine .inr ⟨⟨xs, xs[i], q, by simp [hlt]⟩, Pv (i + 1), fun σ' H' p' => ⟨xs.length - (i + 1), by omega, rfl, hlt, p'⟩, fun v H' y => ?_⟩
    obtain ⟨T, x, rfl, nT, rfl, y⟩ := y
    exact hs i x T σ _ (y xs q) nT p
  · have e : i = xs.length := by omega
    subst e
    exact .inl ⟨⟨xs, q, Nat.le_refl _⟩, hd σ H p⟩
/-! ### names -/
theorem low_ok : ∀ c, 97 ≤ c → c ≤ 122 → Unicode.isAlpha c = true ∧ Unicode.isLower c = true ∧ Unicode.isUpper c = false ∧ Unicode.isTitle c = false := by
  have h : ∀ k : Fin 26, Unicode.isAlpha (97 + k.val) = true ∧ Unicode.isLower (97 + k.val) = true ∧ Unicode.isUpper (97 + k.val) = false ∧ Unicode.isTitle (97 + k.val) = false := by decide +kernel
  intro c h1 h2
  have := h ⟨c - 97, by omega⟩
  rw [show 97 + (c - 97) = c by omega] at this
  exact this
/-- what is_name tells of a text -/
def nmS (z : Str) : Bool := !decide (8 < z.length) && (Txt.isascii z && (Txt.isalpha z && Txt.islower z))
def nmD : PyData → Bool
  | .str z => nmS z
  | _ => false
theorem IsWord.nm {z : Str} (h : IsWord z) : nmS z = true := by
  obtain ⟨h1, h2, h3⟩ := h
  have hm : ∀ c, c ∈ z.cps → 97 ≤ c ∧ c ≤ 122 := fun c hc => h3 c (Array.mem_toList_iff.mpr hc)
  have e1 : (!decide (8 < z.length)) = true := by simp; omega
  have e2 : Txt.isascii z = true := by
    unfold Txt.isascii
    rw [Array.all_eq_true_iff_forall_mem]
    intro c hc
    have := hm c hc
    exact decide_eq_true (by omega)
  have e3 : Txt.isalpha z = true := by
    unfold Txt.isalpha
    rw [Bool.and_eq_true]
    refine ⟨decide_eq_true (by omega), ?_⟩
    rw [Array.all_eq_true_iff_forall_mem]
    intro c hc
    exact (low_ok c (hm c hc).1 (hm c hc).2).1
  have e4 : Txt.islower z = true := by
    unfold Txt.islower
    rw [Bool.and_eq_true]
    have hz : 0 < z.cps.size := h1
    refine ⟨?_, ?_⟩
    · rw [← Array.any_toList, List.any_eq_true]
      exact ⟨z.cps[0], Array.mem_toList_iff.mpr (Array.getElem_mem hz), (low_ok _ (hm _ (Array.getElem_mem hz)).1 (hm _ (Array.getElem_mem hz)).2).2.1⟩
    · rw [Bool.not_eq_true', ← Array.any_toList, List.any_eq_false]
      intro c hc
      have hc := Array.mem_toList_iff.mp hc
      have := low_ok c (hm c hc).1 (hm c hc).2
      rw [this.2.2.1, this.2.2.2]
      simp
  unfold nmS
  rw [e1, e2, e3, e4]
  rfl
def spIsName (K : PySem.W.Frag) : Sp := fun vs H Q _ => ∃ (v : V) (d : PyData), vs = [v] ∧ Dp K H v d ∧ (∀ z, d = .str z → z.length ≤ 1000) ∧ Q (.bl (nmD d)) H
/-- never reached -/
theorem ps_never {X : Cx} {st : Stmt} : PS X st (fun _ _ _ => False) := ⟨fun _ _ _ _ _ _ h => h.elim⟩
section
variable {P : Program} {w : World} {K : PySem.W.Frag} {mg : Str → Option Value} {base : Heap}
theorem scIN : FnScope ["thing"] ["thing"] (defScope sIsName) := ⟨rfl, rfl, rfl, by decide +kernel, rfl, by decide +kernel, by decide +kernel⟩
theorem ok_isname {f : Addr} {fd : FuncData} {k : Nat} {tk : Tok} (F : Fun K "is_name" "is_name" sIsName f fd) (B : Bts mg) (mL : mg "LONGEST_NAME" = some (.int 8 tk)) : FnOk P w K mg base CX0 (k + 1) f fd ["thing"] (spIsName K) := by
  refine F.ok scIN (fun vs H Q E h => ?_) (fun cdv A outer s H vs Q E hr h => ?_)
  · obtain ⟨v, d, rfl, _⟩ := h
    rfl
  · obtain ⟨v, d, rfl, hv, hz, kk⟩ := h
    refine ⟨_, pss_cons (ps_if (PW.pt (pw_or (pt_not (pt_val (pe_callB call_isi (by rfl) B.isinstance (by decide +kernel) (pa_cons (pv 0) (pa_cons (pe_bltn (v := .ty "str") (by rfl) B.str (by decide +kernel) rfl) pa_nil)))))
          (pw_or1 (pt_cmpR op_gt (pe_callB call_len_str (by rfl) B.len PySem.boot_len (pa_cons (pv 0) pa_nil)) (pe_glob (v := .int 8) rfl mL ⟨tk, rfl⟩) (by rfl)))))
        (pss_one (ps_ret pe_bl)) pss_nil)
      (pss_one (ps_ret (pe_and (pe_bm0 PySem.F.plainAttrs_str PySem.F.slot_str_isascii PySem.F.type_str_isascii mt_isascii (pv 0))
        (pe_and (pe_bm0 PySem.F.plainAttrs_str PySem.F.slot_str_isalpha PySem.F.type_str_isalpha mt_isalpha (pv 0))
        (pe_one (pe_bm0 PySem.F.plainAttrs_str PySem.F.slot_str_islower PySem.F.type_str_islower mt_islower (pv 0))))))), ?_⟩
    by_cases hs : ∃ z, d = .str z
    · obtain ⟨z, rfl⟩ := hs
      have hl := hz z rfl
      cases hv
      refine ⟨_, rfl, _, _, _, _, true, rfl, .ty _, TyX.base (TyOf.str z), kit_ty (by decide +kernel), _, rfl, iteF ?_⟩
      refine ⟨_, rfl, z, rfl, len1000 hl, _, _, rfl, rfl, _, rfl, ite2 (fun h => ?_) (fun h => ?_)⟩
      · have h8 : 8 < z.length := by have := of_decide_eq_true h; omega
        have e : nmS z = false := by unfold nmS; rw [decide_eq_true h8]; rfl
        show Q (.bl false) H
        have kk : Q (.bl (nmS z)) H := kk
        rw [e] at kk
        exact kk
      · have h8 : ¬ 8 < z.length := fun q => h (decide_eq_true (by omega))
        have e : nmS z = (Txt.isascii z && (Txt.isalpha z && Txt.islower z)) := by unfold nmS; rw [decide_eq_false h8]; rfl
        have kk : Q (.bl (nmS z)) H := kk
        rw [e] at kk
        refine ⟨_, rfl, rfl, z, rfl, rfl, True.intro, _, rfl, ite2 (fun ha => ?_) (fun ha => ?_)⟩
        · rw [ha, Bool.true_and] at kk
          refine ⟨_, rfl, rfl, z, rfl, rfl, True.intro, _, rfl, ite2 (fun hb => ?_) (fun hb => ?_)⟩
          · rw [hb, Bool.true_and] at kk
            exact ⟨_, rfl, rfl, z, rfl, rfl, True.intro, kk⟩
          · rw [Bool.eq_false_iff.mpr hb, Bool.false_and] at kk
            exact kk
        · rw [Bool.eq_false_iff.mpr ha, Bool.false_and] at kk
          exact kk
    · have e : nmD d = false := by
        cases d with
        | str z => exact absurd ⟨z, rfl⟩ hs
        | _ => rfl
      have kt : kitB (tyName d) "str" = some false := by
        cases d with
        | str z => exact absurd ⟨z, rfl⟩ hs
        | none => exact (by decide +kernel : kitB "NoneType" "str" = some false)
        | bool b => exact (by decide +kernel : kitB "bool" "str" = some false)
        | int i => exact (by decide +kernel : kitB "int" "str" = some false)
        | list l => exact (by decide +kernel : kitB "list" "str" = some false)
        | tuple l => exact (by decide +kernel : kitB "tuple" "str" = some false)
        | dict l => cases hv
      rw [e] at kk
      exact ⟨_, rfl, _, _, _, _, false, rfl, .ty _, ty_of hv, kit_ty kt, _, rfl, iteT (iteT kk)⟩
/-- check_names(t): all are names -/
def spNames0 (K : PySem.W.Frag) : Sp := fun vs H Q _ => ∃ (t : Addr) (xs : List Str), vs = [.ref t] ∧ SqT K H t (xs.map V.str) ∧ (∀ x ∈ xs, IsWord x) ∧ Q .non H
theorem scCN : FnScope ["things", "thing"] ["things"] (defScope sNames) := ⟨rfl, rfl, rfl, by decide +kernel, rfl, by decide +kernel, by decide +kernel⟩
theorem ok_names0 {f fI : Addr} {fd fdI : FuncData} (F : Fun K "check_names" "check_names" sNames f fd) (GI : FnOk P w K mg base CX0 1 fI fdI ["thing"] (spIsName K)) (mI : mg "is_name" = some (.ref fI)) (kI : PySem.W.keepIn K (.ref fI) = true) (bI : Binds K fdI ["thing"] []) :
    FnOk P w K mg base CX0 2 f fd ["things"] (spNames0 K) := by
  refine F.ok scCN (fun vs H Q E h => ?_) (fun cdv A outer s H vs Q E hr h => ?_)
  · obtain ⟨t, xs, rfl, _⟩ := h
    rfl
  · obtain ⟨t, xs, rfl, ht, hw, kk⟩ := h
    refine ⟨_, pss_one (ps_for PassesOwn.never rfl (pi_tup (pv 0)) (pg_name (i := 1) scCN.nd rfl (.inl rfl))
      (pss_one (ps_if (pt_not (pt_val (pe_call GI hr (by rfl) mI kI bI .nil pass0 (pa_cons (pv 1) pa_nil)))) (pss_one ps_never) pss_nil))), ?_⟩
    refine ⟨_, rfl, t, rfl, ⟨_, ht⟩, for_tup (K := K) (a := t) (xs := xs.map V.str) (fun i σ H2 => ∃ y, σ = [some (.ref t), y] ∧ H2 = H) ⟨none, rfl, rfl⟩ (fun i σ H2 _ ⟨_, _, e⟩ => by rw [e]; exact ht) ?_ ?_⟩
    · rintro i x σ H2 hx ⟨y, rfl, rfl⟩
      rw [List.getElem?_map] at hx
      obtain ⟨z, hz, rfl⟩ := Option.map_eq_some_iff.mp hx
      have hwz := hw z (List.mem_of_getElem? hz)
      refine ⟨_, rfl, .str z, .str z, rfl, .str z, fun z' e => ?_, _, rfl, ?_⟩
      · cases e; have := hwz.2.1; omega
      · have e : nmD (.str z) = true := hwz.nm
        rw [e]
        exact iteF ⟨_, rfl, rfl⟩
    · rintro σ H2 ⟨y, rfl, rfl⟩
      exact kk
/-- check_unlike(t): all unlike -/
def spUnlike0 (K : PySem.W.Frag) : Sp := fun vs H Q _ => ∃ (t : Addr) (xs : List Str), vs = [.ref t] ∧ SqT K H t (xs.map V.str) ∧ xs.Nodup ∧ xs.length ≤ 1000 ∧ ∀ H', Same H H' → Q .non H'
theorem scCU : FnScope ["names", "at", "name"] ["names"] (defScope sUnlike) := ⟨rfl, rfl, rfl, by decide +kernel, rfl, by decide +kernel, by decide +kernel⟩
theorem ok_unlike0 {f : Addr} {fd : FuncData} {k : Nat} (F : Fun K "check_unlike" "check_unlike" sUnlike f fd) (me : mg "enumerate" = none) : FnOk P w K mg base CX0 (k + 1) f fd ["names"] (spUnlike0 K) := by
  refine F.ok scCU (fun vs H Q E h => ?_) (fun cdv A outer s H vs Q E hr h => ?_)
  · obtain ⟨t, xs, rfl, _⟩ := h
    rfl
  · obtain ⟨t, xs, rfl, ht, hn, hl, kk⟩ := h
    refine ⟨_, pss_one (ps_for PassesOwn.never rfl (pi_enumT (by rfl) me (pa_cons (pv 0) pa_nil)) (pg_tup rfl (pgs_cons (pg_name (i := 1) scCU.nd rfl (.inl rfl)) (pgs_cons (pg_name (i := 2) scCU.nd rfl (.inl rfl)) pgs_nil)))
      (pss_one (ps_if (pt_cmpR op_in_seq (pv 2) (pe_slice sl_tup (pv 0) po_none (po_some (pv 1))) (by rfl)) (pss_one ps_never) pss_nil))), ?_⟩
    refine ⟨_, rfl, t, _, rfl, ht, for_enumT (K := K) (a := t) (xs := xs.map V.str) (fun i σ H2 => ∃ y z, σ = [some (.ref t), y, z] ∧ Same H H2) ⟨none, none, rfl, Same.refl _⟩ (fun i σ H2 _ ⟨_, _, _, e⟩ => Same.seqT e ht) ?_ ?_⟩
    · rintro i x T σ H2 hx nT ⟨y, z, rfl, s2⟩
      rw [List.getElem?_map] at hx
      obtain ⟨u, hu, rfl⟩ := Option.map_eq_some_iff.mp hx
      have hi : i < xs.length := (List.getElem?_eq_some_iff.mp hu).1
      have s3 := s2.trans (same_new (o := .tup [.int (i : Nat), .str u]) nT)
      have ht3 := Same.seqT s3 ht
      refine ⟨T, [.int (i : Nat), .str u], rfl, SqT.of upd_same, rfl, .int (i : Nat), [.str u], rfl, .str u, [], rfl, rfl, ?_⟩
      refine ⟨_, rfl, _, rfl, _, rfl, i, rfl, t, _, rfl, ht3, ?_, fun p np => ?_⟩
      · rintro ⟨_, h2⟩
        rw [HT.sIx_nat, List.length_map] at h2
        omega
      · rw [cut_take]
        refine ⟨p, _, rfl, .inr (SqT.of upd_same), rfl, ?_, _, rfl, ?_⟩
        · rw [List.all_eq_true]
          intro v hv
          obtain ⟨w', _, rfl⟩ := List.mem_map.mp (List.mem_of_mem_take hv)
          rfl
        · have e : inV (.str u) ((xs.map V.str).take i) = false := by
            unfold inV
            rw [List.any_eq_false]
            intro v hv
            rw [← List.map_take] at hv
            obtain ⟨w', hw', rfl⟩ := List.mem_map.mp hv
            obtain ⟨j, hj⟩ := List.getElem?_of_mem hw'
            intro q
            have q' : w' = u := beq_iff_eq.mp q
            subst q'
            rw [List.getElem?_take] at hj
            split at hj
            · rename_i hji
              obtain ⟨h1, e1⟩ := List.getElem?_eq_some_iff.mp hj
              obtain ⟨h2, e2⟩ := List.getElem?_eq_some_iff.mp hu
              exact (List.pairwise_iff_getElem.mp hn) j i h1 h2 hji (e1.trans e2.symm)
            · cases hj
          rw [e]
          exact iteF ⟨_, _, rfl, s3.trans (same_new np)⟩
    · rintro σ H2 ⟨y, z, rfl, s2⟩
      exact kk H2 s2
end
/-! ### a static method called through its class; own == and str -/
structure SMet (K : PySem.W.Frag) (C : Addr) (m : Str) (p g : Addr) : Prop where
  at_ : PySem.W.findCls K (.ref C) (.type "type") m = some (.get (.builtin "staticmethod.__get__") (.ref p) .none (.ref C))
  rc : ∃ rest, PySem.W.recIn K p "staticmethod" = some (.ref g :: rest)
  kp : PySem.W.keepIn K (.ref g) = true
def tSMeth (C : Addr) (sp : Sp) (E : XK) (ta : TE) (t : TA) : TE := fun σ H Q => ta σ H fun x H1 => x = .ref C ∧ t σ H1 fun vs H2 => sp vs H2 Q E
section
variable {X : Cx} {CX : CXT} {k : Nat} {C p g : Addr} {sp : Sp} {E : XK} {o e : Expr} {es : List Expr} {m : Str} {pos apos : Pos} {ta : TE} {t : TA} {pl : Sem Bool}
theorem pe_smeth (he : PE X o ta) (r : ClX.CRead X.K C (.type "type")) (c : SMet X.K C m p g) (F : FnR X.prog X.w X.K X.mg X.base CX k g sp) (hr : Room k X.A) (hx : Passes CX X E) (ha : PA X (e :: es) t)
    (hst : starEach (e :: es) X.env = (false, eval e X.env) :: starEach es X.env := by rfl) (hpl : (backTo pos (starEach es X.env)).any (·.1) = false := by rfl)
    (ht : eval (.Call (.Attribute o m apos) (e :: es) [] pos) X.env = (do
      let ov ← eval o X.env
      standAt apos.atName
      let (f, first) ← holding [ov] (getMethod ov m pl)
      callWith pos f first (backTo pos (starEach (e :: es) X.env)) (backToKw pos (keywordEach [] X.env))) := by rfl) :
    PE X (.Call (.Attribute o m apos) (e :: es) [] pos) (tSMeth C sp E ta t) := by
  refine ⟨fun pins s σ H Q I h => ?_⟩
  refine PySem.W.methodCall_KW (pl := pl) (thn (he.run pins s σ H _ I h) fun u s1 ⟨x, H1, I1, rx, ex, q⟩ => ?_) ht
  subst ex
  obtain rfl : u = Value.ref C := rx
  obtain ⟨rest, hp⟩ := c.rc
  refine PySem.W.method_cls I1.kIn r.ga (PySem.W.cls_bind I1.kIn r.rd c.at_ (wpAny_call (PySem.W.sm_get I1.kIn hp (PySem.W.handed_on rfl ?_))))
  refine PySem.W.callWith_K (h₀ := X.base) (first := []) I.ok.mod.kin c.kp (thn (ha.run pos pins _ σ H1 _ (I1.tok _) q) fun us s2 ⟨vs, H2, I2, rv, q2⟩ => ⟨I2.kIn, ?_⟩) hst hpl
  exact wpAny_call (run_fnR F hr hx I2 rv q2)
/-- x == y by C's own __eq__, both of the class at C -/
def rEqOwn (C : Addr) (sp : Sp) (E : XK) : R2 := fun x y H Q => ∃ a dx fs b dy gs, x = .ref a ∧ y = .ref b ∧ H a = some (.ins C dx fs) ∧ H b = some (.ins C dy gs) ∧ sp [x, y] H Q E
theorem op_eqOwn (hs : PySem.W.findIn X.K (.ref C) "__eq__" = some (some (.ref g))) (hf : PySem.W.isFn X.K (.ref g) = true) (F : FnR X.prog X.w X.K X.mg X.base CX k g sp) (hr : Room k X.A) (hx : Passes CX X E) : OpR X (compareOp .Eq) (rEqOwn C sp E) := by
  intro pins s σ H x y v u Q I rx ry h
  obtain ⟨a, dx, fs, b, dy, gs, rfl, rfl, ha, hb, q⟩ := h
  cases (show v = Value.ref a from rx)
  cases (show u = Value.ref b from ry)
  obtain ⟨mA, O, _⟩ := ins_get I.hok ha
  obtain ⟨mB, O', _⟩ := ins_get I.hok hb
  obtain ⟨od, J, _⟩ := O.look
  obtain ⟨od', J', _⟩ := O'.look
  obtain ⟨m, hF⟩ := I.fr
  have hn : PySem.W.notFirst X.K C (.ref C) = true := by unfold PySem.W.notFirst; simp
  show wpAny _ _ (richCompare .Eq (.ref a) (.ref b)) _ _ _
  refine PySem.W.cmp_K (op := .Eq) (tb := .ref C) hr.units0 hF I.ok.mod.kin J J'.type hn hs hf ?_
  refine wpAny_mono (wpAny_call (run_fnR (us := [.ref a, .ref b]) (vs := [.ref a, .ref b]) F hr hx I (.cons rfl (.cons rfl .nil)) q)) (fun w s' z => ?_) fun _ _ x => x
  obtain ⟨z', H', I', rz, qz⟩ := z
  exact SlX.cmpback rz ⟨z', H', I', rz, qz⟩
/-- str(x) by C's own __str__ -/
def rStrOwn (C : Addr) (sp : Sp) (E : XK) : List V → Hp → VK → Prop := fun xs H Q => ∃ a dx fs, xs = [.ref a] ∧ H a = some (.ins C dx fs) ∧ sp [.ref a] H (fun z H' => ∃ x, z = .str x ∧ Q z H') E
theorem call_strOwn (hs : PySem.W.findIn X.K (.ref C) "__str__" = some (some (.ref g))) (hf : PySem.W.isFn X.K (.ref g) = true) (F : FnR X.prog X.w X.K X.mg X.base CX k g sp) (hr : Room (k + 2) X.A) (hx : Passes CX X E) : CallR X (.type "str") (rStrOwn C sp E) := by
  intro pins s σ H xs us Q I r h
  obtain ⟨a, dx, fs, rfl, ha, q⟩ := h
  obtain ⟨u, rfl, ru⟩ := r.one
  cases (show u = Value.ref a from ru)
  obtain ⟨mA, O, _⟩ := ins_get I.hok ha
  obtain ⟨od, J, _⟩ := O.look
  have hr2 : Room k X.A.in1.in1 := (show Room (k + 1) X.A.in1 from Room.in1 hr).in1
  refine PySem.W.kso_call hr2.units0 I.kIn J hs hf (wpAny_mono (wpAny_call (SlX.run_at (us := [.ref a]) (ws := [.ref a]) F hr2 I.env0.in1.in1 hx I (.cons rfl .nil) q)) (fun w s' z => ?_) fun _ _ x => x)
  obtain ⟨z', H', I', rz, x, ex, qz⟩ := z
  subst ex
  obtain ⟨t, rfl⟩ := (show ∃ t, w = Value.str x t from rz)
  exact ⟨.str x, H', I', ⟨t, rfl⟩, qz⟩
end
/-! ### things -/
/-- what the written part says of Thing -/
structure ThIn (K : PySem.W.Frag) (mg : Str → Option Value) (C : Addr) : Prop where
  m : mg "Thing" = some (.ref C)
  cls : Cls K C
  nk : NoAttr K C "kind"
  nn : NoAttr K C "name"
  np : NoAttr K C "parts"
  rd : ClX.CRead K C (.type "type")
  ca : PySem.W.findIn K (.ref C) "__class__" = some (some (.builtin "object.__class__"))
  cn : PySem.W.specialIn K (.builtin "object.__class__") "__get__" = some (some (.builtin "getset_descriptor.__get__"))
  ct : PySem.W.takesIn K (.builtin "object.__class__") = some true
  cm : PySem.W.mroIn K C (.type "object") = some true
/-- a thing at a -/
def ThingAt (K : PySem.W.Frag) (H : Hp) (C a : Addr) (kind name : Str) (parts : List Str) : Prop :=
  ∃ dx fs t, H a = some (.ins C dx fs) ∧ fs.lookup ("kind" : Str) = some (.str kind) ∧ fs.lookup ("name" : Str) = some (.str name) ∧ fs.lookup ("parts" : Str) = some (.ref t) ∧ SqT K H t (parts.map V.str)
theorem ThingAt.same {K : PySem.W.Frag} {H H' : Hp} {C a : Addr} {kind name : Str} {parts : List Str} (s : Same H H') (h : ThingAt K H C a kind name parts) : ThingAt K H' C a kind name parts := by
  obtain ⟨dx, fs, t, h1, h2, h3, h4, h5⟩ := h
  exact ⟨dx, fs, t, s _ _ h1, h2, h3, h4, Same.seqT s h5⟩
def spInit (K : PySem.W.Frag) (C : Addr) : Sp := fun vs H Q _ => ∃ (a dx : Addr) (kind name : Str) (t : Addr) (parts : List Str), vs = [.ref a, .str kind, .str name, .ref t] ∧ H a = some (.ins C dx []) ∧ SqT K H t (parts.map V.str) ∧ IsWord name ∧ (∀ x ∈ parts, IsWord x) ∧ parts.length ≤ 900 ∧
  ∀ H', (∀ b o, b ≠ a → H b = some o → H' b = some o) → ThingAt K H' C a kind name parts → Q .non H'
/-- Thing.feed(name) and the like -/
def spMk (K : PySem.W.Frag) (C : Addr) (kind : Str) : Sp := fun vs H Q _ => ∃ (name : Str), vs = [.str name] ∧ IsWord name ∧ ∀ a H', Same H H' → ThingAt K H' C a kind name [] → Q (.ref a) H'
def spFieldM (K : PySem.W.Frag) (C : Addr) : Sp := fun vs H Q _ => ∃ (name over : Str), vs = [.str name, .str over] ∧ IsWord name ∧ IsWord over ∧ ∀ a H', Same H H' → ThingAt K H' C a "field" name [over] → Q (.ref a) H'
def spTableM (K : PySem.W.Frag) (C : Addr) : Sp := fun vs H Q _ => ∃ (name : Str) (keys : List Str), vs = .str name :: keys.map V.str ∧ IsWord name ∧ (∀ x ∈ keys, IsWord x) ∧ keys.Nodup ∧ keys.length ≤ 4 ∧ ∀ a H', Same H H' → ThingAt K H' C a "table" name keys → Q (.ref a) H'
section
variable {P : Program} {w : World} {K : PySem.W.Frag} {mg : Str → Option Value} {base : Heap}
theorem scTI : FnScope ["self", "kind", "name", "parts"] ["self", "kind", "name", "parts"] (defScope (me 1)) := ⟨rfl, rfl, rfl, by decide +kernel, rfl, by decide +kernel, by decide +kernel⟩
theorem fs_look (kind name : Str) (t : Addr) : (putF "parts" (.ref t) (putF "name" (.str name) (putF "kind" (.str kind) []))).lookup ("kind" : Str) = some (.str kind) ∧ (putF "parts" (.ref t) (putF "name" (.str name) (putF "kind" (.str kind) []))).lookup ("name" : Str) = some (.str name) ∧
    (putF "parts" (.ref t) (putF "name" (.str name) (putF "kind" (.str kind) []))).lookup ("parts" : Str) = some (.ref t) := by
  refine ⟨?_, ?_, ?_⟩ <;> simp only [lookup_putF] <;> rfl
theorem ok_init {f fN C : Addr} {fd fdN : FuncData} (T : ThIn K mg C) (F : Fun K "__init__" "Thing.__init__" (me 1) f fd) (GN : FnOk P w K mg base CX0 2 fN fdN ["things"] (spNames0 K)) (mN : mg "check_names" = some (.ref fN)) (kN : PySem.W.keepIn K (.ref fN) = true) (bN : Binds K fdN ["things"] []) :
    FnOk P w K mg base CX0 3 f fd ["self", "kind", "name", "parts"] (spInit K C) := by
  refine F.ok scTI (fun vs H Q E h => ?_) (fun cdv A outer s H vs Q E hr h => ?_)
  · obtain ⟨a, dx, kind, name, t, parts, rfl, _⟩ := h
    rfl
  · obtain ⟨a, dx, kind, name, t, parts, rfl, ha, ht, hn, hp, hl, kk⟩ := h
    refine ⟨_, pss_cons (ps_expr (pe_call GN hr (by rfl) mN kN bN .nil pass0 (pa_cons (pe_tup (pa_cons (pv 2) (StX.pa_star (pv 3) pa_nil))) pa_nil)))
      (pss_cons (ps_fld (pv 0) (pv 1) rfl) (pss_cons (ps_fld (pv 0) (pv 2) rfl) (pss_one (ps_fld (pv 0) (pv 3) rfl)))), ?_⟩
    refine ⟨_, rfl, _, rfl, t, _, rfl, .inl ht, len1000 (by simp only [List.length_cons, List.length_append, List.length_map, List.length_nil]; omega), fun p np => ?_⟩
    have npa : p ≠ a := (ne_of_none ha np).symm
    refine ⟨p, name :: parts, rfl, ?_, fun x hx => ?_, ?_⟩
    · rw [List.map_cons]
      have : (V.str name :: (parts.map V.str ++ [])) = V.str name :: parts.map V.str := by rw [List.append_nil]
      rw [← this]
      exact SqT.of upd_same
    · rcases List.mem_cons.mp hx with rfl | hx
      · exact hn
      · exact hp x hx
    · have ha1 := same_new (o := .tup (V.str name :: (parts.map V.str ++ []))) np _ _ ha
      refine ⟨_, rfl, _, rfl, a, C, dx, _, rfl, ha1, T.cls, T.nk, by decide, ?_⟩
      refine ⟨_, rfl, _, rfl, a, C, dx, _, rfl, upd_same, T.cls, T.nn, by simp [putF], ?_⟩
      refine ⟨_, rfl, _, rfl, a, C, dx, _, rfl, upd_same, T.cls, T.np, ?_, ?_⟩
      · have h2 : ∀ fs : List (Str × V), ∀ f v, (putF f v fs).length ≤ fs.length + 1 := fun fs f v => by
          induction fs with
          | nil => simp [putF]
          | cons p r ih =>
            obtain ⟨g, x⟩ := p
            unfold putF
            split
            · simp
            · simp only [List.length_cons]; omega
        have := h2 (putF "kind" (.str kind) []) "name" (.str name)
        have := h2 [] "kind" (.str kind)
        simp only [List.length_nil] at this
        omega
      · have kp : ∀ b o, b ≠ a → H b = some o → (upd (upd (upd (upd H p (.tup (V.str name :: (parts.map V.str ++ [])))) a (.ins C dx (putF "kind" (.str kind) []))) a (.ins C dx (putF "name" (.str name) (putF "kind" (.str kind) [])))) a (.ins C dx (putF "parts" (.ref t) (putF "name" (.str name) (putF "kind" (.str kind) []))))) b = some o := fun b o nb e => by
          rw [upd_ne nb, upd_ne nb, upd_ne nb]
          exact same_new np _ _ e
        refine kk _ kp ⟨dx, _, t, upd_same, (fs_look kind name t).1, (fs_look kind name t).2.1, (fs_look kind name t).2.2, ?_⟩
        rcases ht with (h1 | ⟨o, h1⟩) | h3
        · refine .inl (.inl (kp _ _ (fun e => ?_) h1))
          rw [e, ha] at h1; cases h1
        · refine .inl (.inr ⟨o, kp _ _ (fun e => ?_) h1⟩)
          rw [e, ha] at h1; cases h1
        · exact .inr h3
/-- Thing(kind, name, parts) -/
theorem make_at {C t0 x dx : Addr} {H1 : Hp} {kind name : Str} {parts : List Str} {R : Hp → Prop} (ht : SqT K H1 t0 (parts.map V.str)) (hn : IsWord name) (hp : ∀ x ∈ parts, IsWord x) (hl : parts.length ≤ 900) (nx : H1 x = none) (ndx : H1 dx = none) (q : ∀ H', Same H1 H' → ThingAt K H' C x kind name parts → R H') :
    spInit K C (.ref x :: ([.str kind, .str name, .ref t0] ++ [])) (upd (upd H1 dx (.own x)) x (.ins C dx [])) (fun v H2 => v = .non ∧ R H2) E0 := by
  have s1 : Same H1 (upd (upd H1 dx (.own x)) x (.ins C dx [])) := fun b o e => by
    rw [upd_ne (ne_of_none e nx), upd_ne (ne_of_none e ndx)]; exact e
  exact ⟨x, dx, kind, name, t0, parts, rfl, upd_same, Same.seqT s1 ht, hn, hp, hl, fun H' kp th => ⟨rfl, q H' (fun b o e => kp b o (ne_of_none e nx) (s1 b o e)) th⟩⟩
theorem ok_mk {i : Nat} {f fI C : Addr} {fd fdI : FuncData} {m qual kind : Str} (T : ThIn K mg C) (M : Mk K C fI) (F : Fun K m qual (me i) f fd) (GI : FnOk P w K mg base CX0 3 fI fdI ["self", "kind", "name", "parts"] (spInit K C)) (bI : Binds K fdI ["self", "kind", "name", "parts"] [])
    (S : FnScope ["name"] ["name"] (defScope (me i))) (hg : ∀ cdv A outer s H E, Gl (cxOf CX0 P w K mg base ["name"] qual (defScope (me i)) f cdv A outer s H E).nox "Thing") (hv : Vis (defScope (me i)) "name")
    {p1 p2 p3 p4 p5 p6 : Pos} {j k : Nat} (hb : defBody (me i) = [.Return (some (.Call (.Name "Thing" p1) [.Constant (.str kind) j p2, .Name "name" p3, .Tuple [] k p4] [] p5)) p6]) : FnOk P w K mg base CX0 5 f fd ["name"] (spMk K C kind) := by
  refine F.ok S (fun vs H Q E h => ?_) (fun cdv A outer s H vs Q E hr h => ?_)
  · obtain ⟨name, rfl, _⟩ := h
    rfl
  · obtain ⟨name, rfl, hn, kk⟩ := h
    rw [hb]
    refine ⟨_, pss_one (ps_ret (pe_make M GI hr (hg _ _ _ _ _ _) T.m bI .nil pass0 (pa_cons pe_str (pa_cons (pe_var (i := 0) rfl hv (by decide) (by decide)) (pa_cons (pe_tup pa_nil) pa_nil))))), ?_⟩
    refine ⟨_, rfl, by show 0 ≤ sizeLine; decide, fun t0 nt => ?_⟩
    intro x dx nx ndx _
    exact make_at (parts := []) (SqT.of upd_same) hn (fun x hx => by cases hx) (by simp) nx ndx fun H' s th => kk x H' ((same_new nt).trans s) th
end
section
variable {P : Program} {w : World} {K : PySem.W.Frag} {mg : Str → Option Value} {base : Heap}
theorem scF2 : FnScope ["name", "over"] ["name", "over"] (defScope (me 6)) := ⟨rfl, rfl, rfl, by decide +kernel, rfl, by decide +kernel, by decide +kernel⟩
theorem ok_field {f fI C : Addr} {fd fdI : FuncData} (T : ThIn K mg C) (M : Mk K C fI) (F : Fun K "field" "Thing.field" (me 6) f fd) (GI : FnOk P w K mg base CX0 3 fI fdI ["self", "kind", "name", "parts"] (spInit K C)) (bI : Binds K fdI ["self", "kind", "name", "parts"] []) : FnOk P w K mg base CX0 5 f fd ["name", "over"] (spFieldM K C) := by
  refine F.ok scF2 (fun vs H Q E h => ?_) (fun cdv A outer s H vs Q E hr h => ?_)
  · obtain ⟨name, over, rfl, _⟩ := h
    rfl
  · obtain ⟨name, over, rfl, hn, ho, kk⟩ := h
    refine ⟨_, pss_one (ps_ret (pe_make M GI hr (by rfl) T.m bI .nil pass0 (pa_cons pe_str (pa_cons (pv 0) (pa_cons (pe_tup (pa_cons (pv 1) pa_nil)) pa_nil))))), ?_⟩
    refine ⟨_, rfl, _, rfl, by show 1 ≤ sizeLine; decide, fun t0 nt => ?_⟩
    intro x dx nx ndx _
    exact make_at (parts := [over]) (SqT.of upd_same) hn (fun x hx => by rw [List.mem_singleton.mp hx]; exact ho) (by simp) nx ndx fun H' s th => kk x H' ((same_new nt).trans s) th
theorem scTb : FnScope ["name", "keys", "made"] ([("name" : Str)] ++ [("keys" : Str)]) (defScope (me 4)) := ⟨rfl, rfl, rfl, by decide +kernel, rfl, by decide +kernel, by decide +kernel⟩
theorem ok_tableM {f fI fU C : Addr} {fd fdI fdU : FuncData} {tk : Tok} (T : ThIn K mg C) (M : Mk K C fI) (F : Fun K "table" "Thing.table" (me 4) f fd) (GI : FnOk P w K mg base CX0 3 fI fdI ["self", "kind", "name", "parts"] (spInit K C)) (bI : Binds K fdI ["self", "kind", "name", "parts"] [])
    (GU : FnOk P w K mg base CX0 2 fU fdU ["names"] (spUnlike0 K)) (mU : mg "check_unlike" = some (.ref fU)) (kU : PySem.W.keepIn K (.ref fU) = true) (bU : Binds K fdU ["names"] []) (mlen : mg "len" = none) (mM : mg "MOST_KEYS" = some (.int 4 tk)) : FnR P w K mg base CX0 5 f (spTableM K C) := by
  obtain ⟨oc, od, kV, doc, pm, an, cdv, ct, osl, rfl, lk, hcd⟩ := F.ex
  have G := StX.fn_star (CX := CX0) (P := P) (w := w) (mg := mg) (base := base) (k := 4) (ps := ["name"]) (pv := "keys") (N := ["name", "keys", "made"])
    (sp := fun vs H Q _ => ∃ (name : Str) (t : Addr) (keys : List Str), vs = [.str name, .ref t] ∧ SqT K H t (keys.map V.str) ∧ IsWord name ∧ (∀ x ∈ keys, IsWord x) ∧ keys.Nodup ∧ keys.length ≤ 4 ∧ ∀ a H', Same H H' → ThingAt K H' C a "table" name keys → Q (.ref a) H')
    lk hcd scTb StX.cxUp_none (StX.bind_star1 (B := fun us => bindArgs (PySem.W.fnOf "table" "Thing.table" (defArgs (me 4)) (defBody (me 4)) (defScope (me 4)) .none kV doc pm an cdv ct) ⟨us, []⟩) (p1 := "name") (pv := "keys") (fun a => rfl) (fun a r rs => rfl)) (fun A outer s H vs Q E hr h => ?_)
  · intro A outer s H us vs Q E hr e0 rv hsp
    obtain ⟨name, keys, rfl, hn, hk, hd, hl, kk⟩ := hsp
    refine G A outer s H us _ Q E hr e0 rv ⟨[.str name], keys.map V.str, rfl, rfl, by rw [List.length_map]; exact len1000 (by omega), fun p np => ⟨name, p, keys, rfl, SqT.of upd_same, hn, hk, hd, hl, fun a H' s th => kk a H' ((same_new np).trans s) th⟩⟩
  · obtain ⟨name, t, keys, rfl, ht, hn, hk, hd, hl, kk⟩ := h
    have hr2 : Room 2 _ := hr.mono (by decide)
    refine ⟨_, PSs.nox (pss_cons (ps_set (i := 2) scTb.nd rfl (.inl rfl) (pe_make M GI hr (by rfl) T.m bI .nil pass0 (pa_cons pe_str (pa_cons (pv 0) (pa_cons (pv 1) pa_nil)))))
      (pss_cons (ps_expr (pe_call GU hr2 (by rfl) mU kU bU .nil pass0 (pa_cons (pv 1) pa_nil)))
      (pss_cons (ps_if (pt_cmpR op_gt (pe_callB call_len_seq (by rfl) mlen PySem.boot_len (pa_cons (pv 1) pa_nil)) (pe_glob (v := .int 4) rfl mM ⟨tk, rfl⟩) (by rfl)) (pss_one ps_never) pss_nil)
      (pss_one (ps_ret (pv 2)))))), ?_⟩
    refine ⟨_, rfl, _, rfl, ?_⟩
    intro a dx nx ndx _
    refine make_at (parts := keys) ht hn hk (by omega) nx ndx fun H' s th => ?_
    refine ⟨_, rfl, t, keys, rfl, Same.seqT s ht, hd, by omega, fun H2 s2 => ?_⟩
    refine ⟨_, rfl, t, _, rfl, .inr (Same.seqT (s.trans s2) ht), _, _, rfl, rfl, _, rfl, ?_⟩
    rw [decide_eq_false (by rw [List.length_map]; omega)]
    exact iteF ⟨_, rfl, kk a H2 (s.trans s2) (th.same s2)⟩
/-! ### == and str of things -/
theorem eqv_strs (xs ys : List Str) : PyData.eqv (.tuple (xs.map .str)) (.tuple (ys.map .str)) = decide (xs = ys) := by
  show PyData.eqvAll (xs.map .str) (ys.map .str) = _
  induction xs generalizing ys with
  | nil => cases ys with
    | nil => simp [PyData.eqvAll]
    | cons y ys => simp [PyData.eqvAll]
  | cons x xs ih => cases ys with
    | nil => simp [PyData.eqvAll]
    | cons y ys =>
      simp only [List.map_cons, PyData.eqvAll, ih, PyData.eqv]
      by_cases h : x = y
      · subst h; simp
      · simp [h]
theorem word_str {x : Str} (h : IsWord x) : PyData.strOk x = true := by
  unfold PyData.strOk
  rw [Array.all_eq_true_iff_forall_mem]
  intro c hc
  have := (h.2.2 c (Array.mem_toList_iff.mpr hc)).2
  exact decide_eq_true (by omega)
theorem strs_dp {K : PySem.W.Frag} {H : Hp} : ∀ xs : List Str, DpAll K H (xs.map V.str) (xs.map PyData.str)
  | [] => .nil
  | _ :: r => .cons (.str _) (strs_dp r)
theorem strs_shaped {xs : List Str} (h : ∀ x ∈ xs, IsWord x) : SeqAt.shaped (.tuple (xs.map .str)) = true := by
  have h1 : PyData.canLayAll0 (xs.map .str) = true := by
    induction xs with
    | nil => rfl
    | cons x r ih =>
      simp only [List.map_cons, PyData.canLayAll0, PyData.canLay0, Bool.and_eq_true]
      exact ⟨word_str (h x List.mem_cons_self), ih fun y hy => h y (List.mem_cons_of_mem _ hy)⟩
  have h2 : PyData.depthAll (xs.map .str) ≤ 1 := by
    induction xs with
    | nil => simp [PyData.depthAll]
    | cons x r ih =>
      simp only [List.map_cons, PyData.depthAll, PyData.depth]
      have := ih (fun y hy => h y (List.mem_cons_of_mem _ hy)) (by
        simp only [List.map_cons, PyData.canLayAll0, Bool.and_eq_true] at h1
        exact h1.2)
      omega
  unfold SeqAt.shaped
  simp only [PyData.canLay0, h1, PyData.depth, Bool.true_and]
  exact decide_eq_true (by omega)
def spEq (K : PySem.W.Frag) (C : Addr) : Sp := fun vs H Q _ => ∃ (a b : Addr) (k n k' n' : Str) (p p' : List Str), vs = [.ref a, .ref b] ∧ ThingAt K H C a k n p ∧ ThingAt K H C b k' n' p' ∧ (∀ x ∈ p, IsWord x) ∧ (∀ x ∈ p', IsWord x) ∧ Q (.bl (decide (k = k' ∧ n = n' ∧ p = p'))) H
theorem scE : FnScope ["self", "other"] ["self", "other"] (defScope (me 9)) := ⟨rfl, rfl, rfl, by decide +kernel, rfl, by decide +kernel, by decide +kernel⟩
theorem ok_eq {f C : Addr} {fd : FuncData} {k : Nat} (T : ThIn K mg C) (F : Fun K "__eq__" "Thing.__eq__" (me 9) f fd) (mi : mg "isinstance" = none) : FnOk P w K mg base CX0 (k + 1) f fd ["self", "other"] (spEq K C) := by
  refine F.ok scE (fun vs H Q E h => ?_) (fun cdv A outer s H vs Q E hr h => ?_)
  · obtain ⟨a, b, k, n, k', n', p, p', rfl, _⟩ := h
    rfl
  · obtain ⟨a, b, k, n, k', n', p, p', rfl, ⟨dx, fs, t, a1, a2, a3, a4, a5⟩, ⟨dy, gs, u, b1, b2, b3, b4, b5⟩, hp, hp', kk⟩ := h
    refine ⟨_, pss_one (ps_ret (pe_and (pe_callB call_isi (by rfl) mi (by decide +kernel) (pa_cons (pv 1) (pa_cons (pe_glob (v := .ref C) rfl T.m rfl) pa_nil)))
      (pe_and (pe_cmpR op_eq (pe_fld (pv 0) rfl) (pe_fld (pv 1) rfl) (by rfl)) (pe_and (pe_cmpR op_eq (pe_fld (pv 0) rfl) (pe_fld (pv 1) rfl) (by rfl))
        (pe_one (pe_cmpR (op_eqD hr.units) (pe_fld (pv 0) rfl) (pe_fld (pv 1) rfl) (by rfl))))))), ?_⟩
    have kc : PySem.W.kitOne K (.ref C) (.ref C) = some true := by unfold PySem.W.kitOne; rw [if_pos (by simp)]
    refine ⟨_, rfl, _, _, _, _, true, rfl, .own C, TyX.base (TyOf.ins b1 T.cls T.ca T.cn T.ct T.cm), kc, _, rfl, iteT ?_⟩
    refine ⟨_, rfl, a, C, dx, fs, _, rfl, a1, T.cls, T.nk, a2, _, rfl, b, C, dy, gs, _, rfl, b1, T.cls, T.nk, b2, rfl, _, rfl, ite2 (fun h => ?_) (fun h => ?_)⟩
    · have e1 : k = k' := V.str.inj (of_decide_eq_true h)
      refine ⟨_, rfl, a, C, dx, fs, _, rfl, a1, T.cls, T.nn, a3, _, rfl, b, C, dy, gs, _, rfl, b1, T.cls, T.nn, b3, rfl, _, rfl, ite2 (fun h2 => ?_) (fun h2 => ?_)⟩
      · have e2 : n = n' := V.str.inj (of_decide_eq_true h2)
        refine ⟨_, rfl, a, C, dx, fs, _, rfl, a1, T.cls, T.np, a4, _, rfl, b, C, dy, gs, _, rfl, b1, T.cls, T.np, b4, ?_⟩
        refine ⟨.tuple (p.map .str), .tuple (p'.map .str), .tup a5 (strs_dp p), .tup b5 (strs_dp p'), strs_shaped hp, strs_shaped hp', ?_⟩
        rw [eqv_strs]
        have : decide (k = k' ∧ n = n' ∧ p = p') = decide (p = p') := by simp [e1, e2]
        rw [this] at kk
        exact kk
      · have : decide (k = k' ∧ n = n' ∧ p = p') = false := decide_eq_false fun e => h2 (decide_eq_true (by rw [e.2.1]))
        rw [this] at kk
        exact kk
    · have : decide (k = k' ∧ n = n' ∧ p = p') = false := decide_eq_false fun e => h (decide_eq_true (by rw [e.1]))
      rw [this] at kk
      exact kk
def spStr (K : PySem.W.Frag) (C : Addr) : Sp := fun vs H Q _ => ∃ (a : Addr) (k n : Str) (p : List Str), vs = [.ref a] ∧ ThingAt K H C a k n p ∧ k.length ≤ 100 ∧ n.length ≤ 100 ∧ (∀ x ∈ p, x.length ≤ 100) ∧ p.length ≤ 100 ∧ ∀ H', Same H H' → Q (.str (Str.join " " (k :: n :: p))) H'
theorem sum_le {B : Nat} : ∀ xs : List Str, (∀ x ∈ xs, x.length ≤ B) → (xs.map (·.length)).sum ≤ B * xs.length
  | [], _ => by simp
  | x :: r, h => by
    have h1 := h x List.mem_cons_self
    have h2 := sum_le r fun y hy => h y (List.mem_cons_of_mem _ hy)
    simp only [List.map_cons, List.sum_cons, List.length_cons, Nat.mul_succ]
    omega
theorem scS2 : FnScope ["self"] ["self"] (defScope (me 10)) := ⟨rfl, rfl, rfl, by decide +kernel, rfl, by decide +kernel, by decide +kernel⟩
theorem ok_str {f C : Addr} {fd : FuncData} {k : Nat} (T : ThIn K mg C) (F : Fun K "__str__" "Thing.__str__" (me 10) f fd) : FnOk P w K mg base CX0 (k + 1) f fd ["self"] (spStr K C) := by
  refine F.ok scS2 (fun vs H Q E h => ?_) (fun cdv A outer s H vs Q E hr h => ?_)
  · obtain ⟨a, k, n, p, rfl, _⟩ := h
    rfl
  · obtain ⟨a, k, n, p, rfl, ⟨dx, fs, t, a1, a2, a3, a4, a5⟩, hk, hn, hp, hl, kk⟩ := h
    refine ⟨_, pss_one (ps_ret (pe_join pe_str (pe_lst (pa_cons (pe_fld (pv 0) rfl) (pa_cons (pe_fld (pv 0) rfl) (StX.pa_star (pe_fld (pv 0) rfl) pa_nil)))))), ?_⟩
    refine ⟨⟨_, rfl⟩, _, rfl, a, C, dx, fs, _, rfl, a1, T.cls, T.nk, a2, _, rfl, a, C, dx, fs, _, rfl, a1, T.cls, T.nn, a3, _, rfl, a, C, dx, fs, _, rfl, a1, T.cls, T.np, a4, t, _, rfl, .inl a5, ?_, fun r nr => ?_⟩
    · simp only [List.length_cons, List.length_append, List.length_map, List.length_nil]
      exact len1000 (by omega)
    · have e : (V.str k :: V.str n :: (p.map V.str ++ [])) = (k :: n :: p).map V.str := by rw [List.append_nil]; rfl
      rw [e]
      refine ⟨_, r, k :: n :: p, rfl, rfl, .inl (SqL.of upd_same), ?_, ?_⟩
      · have := sum_le (B := 100) (k :: n :: p) fun x hx => by
          rcases List.mem_cons.mp hx with rfl | hx
          · exact hk
          · rcases List.mem_cons.mp hx with rfl | hx
            · exact hn
            · exact hp x hx
        simp only [List.length_cons] at this ⊢
        have l1 : (Str.ofString " ").length = 1 := by decide +kernel
        rw [l1]
        have line : (20000 : Nat) ≤ sizeLine := by decide
        omega
      · rw [show Txt.join _ (k :: n :: p) = Str.join _ (k :: n :: p) from StrLaws.glued_eq_join _ _]
        exact kk _ (same_new nr)
end
/-! ### the law's own makers -/
/-- the promises of Thing's methods -/
structure Tdefs (P : Program) (w : World) (K : PySem.W.Frag) (mg : Str → Option Value) (base : Heap) (C : Addr) : Prop where
  one : ∀ m ∈ [("feed" : Str), "dice", "source", "flag", "slot"], ∃ p g, SMet K C m p g ∧ FnR P w K mg base CX0 5 g (spMk K C m)
  field : ∃ p g, SMet K C "field" p g ∧ FnR P w K mg base CX0 5 g (spFieldM K C)
  table : ∃ p g, SMet K C "table" p g ∧ FnR P w K mg base CX0 5 g (spTableM K C)
/-! ### what the top says of Thing -/
def SmAll (K : PySem.W.Frag) (C : Addr) (m qual : Str) (i : Nat) : Prop := ∃ p g fd, SMet K C m p g ∧ Fun K m qual (me i) g fd
theorem sm_in {K : PySem.W.Frag} {C p g : Addr} {m qual : Str} {i : Nat} {rest : List Value} {oc : Value} {od an : Option Addr} {osl : Array (Option Value)} {kV doc pm cdv ct : Value}
    (at_ : PySem.W.findCls K (.ref C) (.type "type") m = some (.get (.builtin "staticmethod.__get__") (.ref p) .none (.ref C))) (rc : PySem.W.recIn K p "staticmethod" = some (.ref g :: rest)) (kp : PySem.W.keepIn K (.ref g) = true)
    (l : K.lookup g = some ⟨oc, od, .func (PySem.W.fnOf m qual (defArgs (me i)) (defBody (me i)) (defScope (me i)) .none kV doc pm an cdv ct), osl⟩) (c : PySem.W.codeIn K cdv qual = true) : SmAll K C m qual i :=
  ⟨p, g, _, ⟨at_, ⟨rest, rc⟩, kp⟩, fun_mk l c kp⟩
def MeAll (K : PySem.W.Frag) (C : Addr) (m qual : Str) (i : Nat) : Prop := ∃ g fd, PySem.W.findIn K (.ref C) m = some (some (.ref g)) ∧ PySem.W.isFn K (.ref g) = true ∧ Fun K m qual (me i) g fd
theorem me_in {K : PySem.W.Frag} {C g : Addr} {m qual : Str} {i : Nat} {oc : Value} {od an : Option Addr} {osl : Array (Option Value)} {kV doc pm cdv ct : Value}
    (at_ : PySem.W.findIn K (.ref C) m = some (some (.ref g))) (fn : PySem.W.isFn K (.ref g) = true) (kp : PySem.W.keepIn K (.ref g) = true)
    (l : K.lookup g = some ⟨oc, od, .func (PySem.W.fnOf m qual (defArgs (me i)) (defBody (me i)) (defScope (me i)) .none kV doc pm an cdv ct), osl⟩) (c : PySem.W.codeIn K cdv qual = true) : MeAll K C m qual i :=
  ⟨g, _, at_, fn, fun_mk l c kp⟩
theorem mg_int {K : PySem.W.Frag} {h : Heap} {mg : Str → Option Value} {n : Str} {i : Int} {tk : Tok} (X : K.In h) (G : h.Ns mainGlobals mg) (e : PySem.W.nsIn K mainGlobals n = some (some (.int i tk))) : ∃ tk, mg n = some (.int i tk) := ⟨tk, PySem.W.mg_of X G e⟩
structure ThAll (K : PySem.W.Frag) (mg : Str → Option Value) (C : Addr) : Prop where
  T : ThIn K mg C
  mkC : PySem.W.makesIn K C = true
  kpC : PySem.W.keepIn K (.ref C) = true
  ini : MeAll K C "__init__" "Thing.__init__" 1
  feed : SmAll K C "feed" "Thing.feed" 2
  dice : SmAll K C "dice" "Thing.dice" 3
  table : SmAll K C "table" "Thing.table" 4
  source : SmAll K C "source" "Thing.source" 5
  field : SmAll K C "field" "Thing.field" 6
  flag : SmAll K C "flag" "Thing.flag" 7
  slot : SmAll K C "slot" "Thing.slot" 8
  eq : MeAll K C "__eq__" "Thing.__eq__" 9
  str : MeAll K C "__str__" "Thing.__str__" 10
theorem th_in {K : PySem.W.Frag} {h : Heap} {mg : Str → Option Value} {C : Addr} (X : K.In h) (G : h.Ns mainGlobals mg) (a : PySem.W.nsIn K mainGlobals "Thing" = some (some (.ref C)))
    (pg : PySem.W.plainGet K C Str.empty = true) (hd : PySem.W.hasDictIn K C = true) (po : PySem.W.plainOver K C = true) (sa : PySem.W.findIn K (.ref C) "__setattr__" = some (some (.builtin "object.__setattr__")))
    (nk : PySem.W.findIn K (.ref C) "kind" = some none) (nn : PySem.W.findIn K (.ref C) "name" = some none) (np : PySem.W.findIn K (.ref C) "parts" = some none)
    (rd : PySem.W.readsIn K C (.type "type") = true) (ga : PySem.W.specialIn K (.ref C) "__getattribute__" = some (some (.builtin "type.__getattribute__")))
    (ca : PySem.W.findIn K (.ref C) "__class__" = some (some (.builtin "object.__class__"))) (cn : PySem.W.specialIn K (.builtin "object.__class__") "__get__" = some (some (.builtin "getset_descriptor.__get__"))) (ct : PySem.W.takesIn K (.builtin "object.__class__") = some true) (cm : PySem.W.mroIn K C (.type "object") = some true)
    (mk : PySem.W.makesIn K C = true) (kp : PySem.W.keepIn K (.ref C) = true)
    (ini : MeAll K C "__init__" "Thing.__init__" 1) (m1 : SmAll K C "feed" "Thing.feed" 2) (m2 : SmAll K C "dice" "Thing.dice" 3) (m3 : SmAll K C "table" "Thing.table" 4) (m4 : SmAll K C "source" "Thing.source" 5) (m5 : SmAll K C "field" "Thing.field" 6) (m6 : SmAll K C "flag" "Thing.flag" 7) (m7 : SmAll K C "slot" "Thing.slot" 8)
    (eq : MeAll K C "__eq__" "Thing.__eq__" 9) (str : MeAll K C "__str__" "Thing.__str__" 10) : ∃ C, ThAll K mg C :=
  ⟨C, ⟨PySem.W.mg_of X G a, ⟨pg, hd, po, sa⟩, nk, nn, np, ⟨rd, ga⟩, ca, cn, ct, cm⟩, mk, kp, ini, m1, m2, m3, m4, m5, m6, m7, eq, str⟩
section
variable {P : Program} {w : World} {K : PySem.W.Frag} {mg : Str → Option Value} {base : Heap}
theorem scMs (i : Nat) (h : i = 2 ∨ i = 3 ∨ i = 5 ∨ i = 7 ∨ i = 8) : FnScope ["name"] ["name"] (defScope (me i)) := by
  rcases h with rfl | rfl | rfl | rfl | rfl <;> exact ⟨rfl, rfl, rfl, by decide +kernel, rfl, by decide +kernel, by decide +kernel⟩
theorem th_raw {C f : Addr} {fd : FuncData} {m qual kind : Str} {i : Nat} (F : Fun K m qual (me i) f fd) (G : FnOk P w K mg base CX0 5 f fd ["name"] (spMk K C kind)) (hb : ∀ (kV doc pm : Value) (an : Option Addr) (cdv ct : Value) (us : List Value), us.length = 1 → bindArgs (PySem.W.fnOf m qual (defArgs (me i)) (defBody (me i)) (defScope (me i)) .none kV doc pm an cdv ct) ⟨us, []⟩ = pure ([("name" : Str)].zip us)) : FnR P w K mg base CX0 5 f (spMk K C kind) := by
  have := G.raw (F.binds (ps := ["name"]) hb) .nil
  intro A outer s H us vs Q E hr e0 r h
  exact this A outer s H us vs Q E hr e0 r (by show spMk K C kind (vs ++ []) H Q E; rw [List.append_nil]; exact h)
theorem t_defs {C fN fU : Addr} {fdN fdU : FuncData} {tk : Tok} (T : ThAll K mg C) (GN : FnOk P w K mg base CX0 2 fN fdN ["things"] (spNames0 K)) (mN : mg "check_names" = some (.ref fN)) (kN : PySem.W.keepIn K (.ref fN) = true) (bN : Binds K fdN ["things"] [])
    (GU : FnOk P w K mg base CX0 2 fU fdU ["names"] (spUnlike0 K)) (mU : mg "check_unlike" = some (.ref fU)) (kU : PySem.W.keepIn K (.ref fU) = true) (bU : Binds K fdU ["names"] []) (mlen : mg "len" = none) (mM : mg "MOST_KEYS" = some (.int 4 tk)) : Tdefs P w K mg base C := by
  obtain ⟨fI, fdI, aI, nI, FI⟩ := T.ini
  have bI : Binds K fdI ["self", "kind", "name", "parts"] [] := FI.binds (ps := ["self", "kind", "name", "parts"]) fun _ _ _ _ _ _ us hl => match us, hl with | [_, _, _, _], _ => rfl
  have GI := ok_init (base := base) (P := P) (w := w) T.T FI GN mN kN bN
  have M : Mk K C fI := ⟨T.mkC, aI, nI, T.kpC⟩
  refine ⟨fun m hm => ?_, ?_, ?_⟩
  · simp only [List.mem_cons, List.not_mem_nil, or_false] at hm
    rcases hm with rfl | rfl | rfl | rfl | rfl
    · obtain ⟨p, g, fd, s, F⟩ := T.feed
      exact ⟨p, g, s, th_raw F (ok_mk T.T M F GI bI (scMs 2 (by simp)) (fun _ _ _ _ _ _ => rfl) (.inl rfl) rfl) fun _ _ _ _ _ _ us hl => match us, hl with | [_], _ => rfl⟩
    · obtain ⟨p, g, fd, s, F⟩ := T.dice
      exact ⟨p, g, s, th_raw F (ok_mk T.T M F GI bI (scMs 3 (by simp)) (fun _ _ _ _ _ _ => rfl) (.inl rfl) rfl) fun _ _ _ _ _ _ us hl => match us, hl with | [_], _ => rfl⟩
    · obtain ⟨p, g, fd, s, F⟩ := T.source
      exact ⟨p, g, s, th_raw F (ok_mk T.T M F GI bI (scMs 5 (by simp)) (fun _ _ _ _ _ _ => rfl) (.inl rfl) rfl) fun _ _ _ _ _ _ us hl => match us, hl with | [_], _ => rfl⟩
    · obtain ⟨p, g, fd, s, F⟩ := T.flag
      exact ⟨p, g, s, th_raw F (ok_mk T.T M F GI bI (scMs 7 (by simp)) (fun _ _ _ _ _ _ => rfl) (.inl rfl) rfl) fun _ _ _ _ _ _ us hl => match us, hl with | [_], _ => rfl⟩
    · obtain ⟨p, g, fd, s, F⟩ := T.slot
      exact ⟨p, g, s, th_raw F (ok_mk T.T M F GI bI (scMs 8 (by simp)) (fun _ _ _ _ _ _ => rfl) (.inl rfl) rfl) fun _ _ _ _ _ _ us hl => match us, hl with | [_], _ => rfl⟩
  · obtain ⟨p, g, fd, s, F⟩ := T.field
    refine ⟨p, g, s, ?_⟩
    have := (ok_field (P := P) (w := w) (base := base) T.T M F GI bI).raw (F.binds (ps := ["name", "over"]) fun _ _ _ _ _ _ us hl => match us, hl with | [_, _], _ => rfl) .nil
    intro A outer s H us vs Q E hr e0 r h
    exact this A outer s H us vs Q E hr e0 r (by show spFieldM K C (vs ++ []) H Q E; rw [List.append_nil]; exact h)
  · obtain ⟨p, g, fd, s, F⟩ := T.table
    exact ⟨p, g, s, ok_tableM T.T M F GI bI GU mU kU bU mlen mM⟩
theorem fnR0 {f : Addr} {fd : FuncData} {ps : List Str} {k : Nat} {sp : Sp} (F : FnOk P w K mg base CX0 k f fd ps sp) (b : Binds K fd ps []) : FnR P w K mg base CX0 k f sp := by
  have := F.raw b .nil
  intro A outer s H us vs Q E hr e0 r h
  exact this A outer s H us vs Q E hr e0 r (by show sp (vs ++ []) H Q E; rw [List.append_nil]; exact h)
end
/-! ### deeds -/
/-- the dict PARTS, KINDS .. : what the written part holds of the words -/
structure PartsK (K : PySem.W.Frag) (w : World) (dP : Addr) (word : Str) (kinds : List Str) : Prop where
  has : ∃ r, PySem.W.nsIn K dP word = some (some r)
  ex : ∃ tP, KDct K w dP word (.ref tP) ∧ ∀ H, SqT K H tP (kinds.map V.str)
def longest : Int := 10 ^ 30
/-- what may stand where PARTS has this part -/
inductive GoodArg : Str → PyData → Prop where
  | length {n : Int} (h0 : 0 ≤ n) (h1 : n ≤ longest) : GoodArg "length" (.int n)
  | keys {xs : List Str} (h : ∀ x ∈ xs, IsWord x) (hl : xs.length ≤ 1000) : GoodArg "keys" (.tuple (xs.map .str))
  | name {part x : Str} (h1 : part ≠ "length") (h2 : part ≠ "keys") (h : IsWord x) : GoodArg part (.str x)
def isIntD : PyData → Bool
  | .int _ => true
  | _ => false
def spIsInt (K : PySem.W.Frag) : Sp := fun vs H Q _ => ∃ (v : V) (d : PyData), vs = [v] ∧ Dp K H v d ∧ Q (.bl (isIntD d)) H
def spIsLength : Sp := fun vs H Q _ => ∃ n : Int, vs = [.int n] ∧ 0 ≤ n ∧ n ≤ longest ∧ Q (.bl true) H
def spIsPart (K : PySem.W.Frag) : Sp := fun vs H Q _ => ∃ (part : Str) (v : V) (d : PyData), vs = [.str part, v] ∧ Dp K H v d ∧ GoodArg part d ∧ ∀ H', Same H H' → Q (.bl true) H'
/-- is_deed(deed): a deed -/
def spIsDeed (K : PySem.W.Frag) (w : World) (dP : Addr) : Sp := fun vs H Q _ => ∃ (a : Addr) (word : Str) (args : List V) (ds : List PyData) (kinds : List Str), vs = [.ref a] ∧ SqT K H a (.str word :: args) ∧ DpAll K H args ds ∧ PartsK K w dP word kinds ∧ args.length ≤ 100 ∧
  Paired GoodArg kinds ds ∧ ∀ H', Same H H' → Q (.bl true) H'
theorem bools_true : ∀ bs : List Bool, (∀ b ∈ bs, b = true) → bs.all id = true := fun bs h => List.all_eq_true.mpr fun b hb => h b hb
theorem map_true (n : Nat) : (List.replicate n true).all id = true := bools_true _ fun b hb => (List.mem_replicate.mp hb).2
section
variable {P : Program} {w : World} {K : PySem.W.Frag} {mg : Str → Option Value} {base : Heap}
theorem scII : FnScope ["thing"] ["thing"] (defScope sIsInt) := ⟨rfl, rfl, rfl, by decide +kernel, rfl, by decide +kernel, by decide +kernel⟩
theorem ok_isint {f : Addr} {fd : FuncData} {k : Nat} (F : Fun K "is_int" "is_int" sIsInt f fd) (B : Bts mg) : FnOk P w K mg base CX0 (k + 1) f fd ["thing"] (spIsInt K) := by
  refine F.ok scII (fun vs H Q E h => ?_) (fun cdv A outer s H vs Q E hr h => ?_)
  · obtain ⟨v, d, rfl, _⟩ := h
    rfl
  · obtain ⟨v, d, rfl, hv, kk⟩ := h
    refine ⟨_, pss_one (ps_ret (pe_and (pe_callB call_isi (by rfl) B.isinstance (by decide +kernel) (pa_cons (pv 0) (pa_cons (pe_bltn (v := .ty "int") (by rfl) B.int (by decide +kernel) rfl) pa_nil)))
      (pe_one (pe_not (pe_callB call_isi (by rfl) B.isinstance (by decide +kernel) (pa_cons (pv 0) (pa_cons (pe_bltn (v := .ty "bool") (by rfl) B.bool (by decide +kernel) rfl) pa_nil))))))), ?_⟩
    obtain ⟨a, b, h1, h2, h3⟩ : ∃ a b, kitB (tyName d) "int" = some a ∧ (a = true → kitB (tyName d) "bool" = some b) ∧ isIntD d = (a && !b) := by
      cases d with
      | none => exact ⟨false, false, (by decide +kernel : kitB "NoneType" "int" = some false), (fun h => nomatch h), rfl⟩
      | bool b => exact ⟨true, true, (by decide +kernel : kitB "bool" "int" = some true), (fun _ => (by decide +kernel : kitB "bool" "bool" = some true)), rfl⟩
      | int i => exact ⟨true, false, (by decide +kernel : kitB "int" "int" = some true), (fun _ => (by decide +kernel : kitB "int" "bool" = some false)), rfl⟩
      | str z => exact ⟨false, false, (by decide +kernel : kitB "str" "int" = some false), (fun h => nomatch h), rfl⟩
      | list l => exact ⟨false, false, (by decide +kernel : kitB "list" "int" = some false), (fun h => nomatch h), rfl⟩
      | tuple l => exact ⟨false, false, (by decide +kernel : kitB "tuple" "int" = some false), (fun h => nomatch h), rfl⟩
      | dict l => cases hv
    refine ⟨_, rfl, _, _, _, _, a, rfl, .ty _, ty_of hv, kit_ty h1, _, rfl, ?_⟩
    cases a with
    | false =>
      refine iteF ?_
      rw [Bool.false_and] at h3
      show Q (.bl false) H
      rw [← h3]; exact kk
    | true =>
      refine iteT ⟨_, rfl, _, _, _, _, b, rfl, .ty _, ty_of hv, kit_ty (h2 rfl), _, rfl, ?_⟩
      rw [Bool.true_and] at h3
      show Q (.bl (!b)) H
      rw [← h3]; exact kk
theorem scIL : FnScope ["given"] ["given"] (defScope sIsLength) := ⟨rfl, rfl, rfl, by decide +kernel, rfl, by decide +kernel, by decide +kernel⟩
theorem ok_islength {f fI : Addr} {fd fdI : FuncData} {tk : Tok} (F : Fun K "is_length" "is_length" sIsLength f fd) (GI : FnOk P w K mg base CX0 1 fI fdI ["thing"] (spIsInt K)) (mI : mg "is_int" = some (.ref fI)) (kI : PySem.W.keepIn K (.ref fI) = true) (bI : Binds K fdI ["thing"] [])
    (mL : mg "LONGEST_ROW" = some (.int longest tk)) : FnOk P w K mg base CX0 2 f fd ["given"] spIsLength := by
  refine F.ok scIL (fun vs H Q E h => ?_) (fun cdv A outer s H vs Q E hr h => ?_)
  · obtain ⟨n, rfl, _⟩ := h
    rfl
  · obtain ⟨n, rfl, h0, h1, kk⟩ := h
    refine ⟨_, pss_one (ps_ret (pe_and (pe_call GI hr (by rfl) mI kI bI .nil pass0 (pa_cons (pv 0) pa_nil)) (pe_one (pe_chain op_le op_le pe_int (pv 0) (pe_glob (v := .int longest) rfl mL ⟨tk, rfl⟩))))), ?_⟩
    refine ⟨_, rfl, .int n, .int n, rfl, .int n, _, rfl, iteT ?_⟩
    refine ⟨_, rfl, 0, n, rfl, rfl, _, rfl, ?_⟩
    rw [decide_eq_true h0]
    refine iteT ⟨n, longest, rfl, rfl, ?_⟩
    show Q (V.bl (decide (n ≤ longest))) H
    rw [decide_eq_true h1]
    exact kk
theorem scIP : FnScope ["part", "given", "key"] ["part", "given"] (defScope sIsPart) := ⟨rfl, rfl, rfl, by decide +kernel, rfl, by decide +kernel, by decide +kernel⟩
theorem ok_ispart {f fL fN : Addr} {fd fdL fdN : FuncData} (F : Fun K "_is_part" "_is_part" sIsPart f fd) (B : Bts mg) (mA : mg "all" = none) (GL : FnOk P w K mg base CX0 2 fL fdL ["given"] spIsLength) (mL : mg "is_length" = some (.ref fL)) (kL : PySem.W.keepIn K (.ref fL) = true) (bL : Binds K fdL ["given"] [])
    (GN : FnOk P w K mg base CX0 1 fN fdN ["thing"] (spIsName K)) (mN : mg "is_name" = some (.ref fN)) (kN : PySem.W.keepIn K (.ref fN) = true) (bN : Binds K fdN ["thing"] []) : FnOk P w K mg base CX0 3 f fd ["part", "given"] (spIsPart K) := by
  refine F.ok scIP (fun vs H Q E h => ?_) (fun cdv A outer s H vs Q E hr h => ?_)
  · obtain ⟨part, v, d, rfl, _⟩ := h
    rfl
  · obtain ⟨part, v, d, rfl, hv, hg, kk⟩ := h
    have hr1 : Room 1 _ := hr.mono (by decide)
    refine ⟨_, pss_cons (ps_if (pt_cmpR op_eq (pv 0) pe_str (nomark _)) (pss_one (ps_ret (pe_call GL hr (by rfl) mL kL bL .nil pass0 (pa_cons (pv 1) pa_nil)))) pss_nil)
      (pss_cons (ps_if (pt_cmpR op_eq (pv 0) pe_str (nomark _)) (pss_one (ps_ret (pe_and (pe_callB call_isi (by rfl) B.isinstance (by decide +kernel) (pa_cons (pv 1) (pa_cons (pe_bltn (v := .ty "tuple") (by rfl) B.tuple (by decide +kernel) rfl) pa_nil)))
        (pe_one (pe_callB (cr_all rfl) (by rfl) mA (by decide +kernel) (pa_cons (pe_lc (own := [("key", 2)]) (g := gName 2) (tt := tYes) rfl scIP.nd (pi_tup (pv 1)) (blkOk_by (N := ["part", "given", "key"]) (sc := defScope sIsPart) (by decide +kernel))
          (fun _ _ _ _ _ => pg_name (i := 2) scIP.nd rfl (.inl rfl)) (fun _ _ _ _ _ => pts_nil) (fun _ _ _ _ _ => pe_call GN hr1 (by rfl) mN kN bN .nil pass0 (pa_cons (pv 2) pa_nil))) pa_nil)))))) pss_nil)
      (pss_one (ps_ret (pe_call GN hr1 (by rfl) mN kN bN .nil pass0 (pa_cons (pv 1) pa_nil))))), ?_⟩
    cases hg with
    | @length n h0 h1 =>
      cases hv
      refine ⟨_, rfl, rfl, _, rfl, ?_⟩
      refine iteT ⟨_, rfl, n, rfl, h0, h1, kk H (Same.refl H)⟩
    | @keys xs hx hl =>
      obtain ⟨t, ys, rfl, ht, hys⟩ := dp_tup hv
      refine ⟨_, rfl, rfl, _, rfl, iteF ⟨_, rfl, rfl, _, rfl, iteT ?_⟩⟩
      refine ⟨_, rfl, _, _, _, _, true, rfl, .ty _, ty_of hv, kit_ty (by decide +kernel : kitB "tuple" "tuple" = some true), _, rfl, iteT ?_⟩
      refine ⟨_, rfl, t, rfl, ⟨_, ht⟩, fun D nD => ?_⟩
      have ly : ys.length = xs.length := by rw [dpAll_len hys, List.length_map]
      refine lc_tup (K := K) (a := t) (xs := ys) (fun i H2 => ∃ acc : List Bool, H2 D = some (.lst (acc.map V.bl)) ∧ acc.length = i ∧ (∀ b ∈ acc, b = true) ∧ Same H H2)
        ⟨[], upd_same, rfl, fun _ h => (by cases h), same_new nD⟩ (fun i H2 _ ⟨_, _, _, _, s⟩ => Same.seqT s ht) (fun i y H2 hy hI => ?_) (fun H2 hI => ?_)
      · obtain ⟨acc, eD, el, ha, s2⟩ := hI
        obtain ⟨d, ed, hd⟩ := dpAll_at hys hy
        rw [List.getElem?_map] at ed
        obtain ⟨x, ex, rfl⟩ := Option.map_eq_some_iff.mp ed
        have hwx := hx x (List.mem_of_getElem? ex)
        have hi : i < xs.length := (List.getElem?_eq_some_iff.mp ex).1
        cases hd
        refine ⟨rfl, ?_⟩
        refine ⟨_, rfl, .str x, .str x, rfl, .str x, fun z e => by cases e; have := hwx.2.1; omega, ?_⟩
        refine ⟨acc.map V.bl, eD, small1000 (by rw [List.length_map]; omega), acc ++ [nmD (.str x)], by rw [upd_same, List.map_append]; rfl, by rw [List.length_append, el]; rfl, fun b hb => ?_, fun b o e => ?_⟩
        · rcases List.mem_append.mp hb with hb | hb
          · exact ha b hb
          · rw [List.mem_singleton.mp hb]; exact hwx.nm
        · rw [upd_ne (ne_of_none e nD)]; exact s2 b o e
      · obtain ⟨acc, eD, el, ha, s2⟩ := hI
        refine ⟨D, acc, rfl, SqL.of eD, ?_⟩
        rw [bools_true acc ha]
        exact kk H2 s2
    | @name _ x h1 h2 hx =>
      cases hv
      refine ⟨_, rfl, rfl, _, rfl, ?_⟩
      rw [decide_eq_false fun e => h1 (V.str.inj e)]
      refine iteF ⟨_, rfl, rfl, _, rfl, ?_⟩
      rw [decide_eq_false fun e => h2 (V.str.inj e)]
      refine iteF ⟨_, rfl, .str x, .str x, rfl, .str x, fun z e => by cases e; have := hx.2.1; omega, ?_⟩
      have e : nmD (.str x) = true := hx.nm
      rw [e]
      exact kk H (Same.refl H)
end
theorem walk_zipT {K : PySem.W.Frag} {a b : Addr} {xs ys : List V} {n : Nat} (hn : n = min xs.length ys.length) : Walk (RZ.ItzT K a b) n (fun H => SqT K H a xs ∧ SqT K H b ys) (YPair (fun i => xs[i]?) (fun i => ys[i]?)) := by
  subst hn
  refine ⟨fun i _ hi q => ?_, fun _ q => ⟨xs, ys, q.1, q.2, by omega⟩, fun i H v H' _ q y => ?_⟩
  · have h1 : i < xs.length := by omega
    have h2 : i < ys.length := by omega
    exact ⟨xs, ys, xs[i], ys[i], q.1, q.2, by simp [h1], by simp [h2]⟩
  · obtain ⟨T, x, z, h1, h2, h3, h4, h5⟩ := y
    exact ⟨T, x, z, h1, h2, h3, h4 xs q.1, h5 ys q.2⟩
theorem paired_at {α β : Type} {R : α → β → Prop} : ∀ {xs : List α} {ys : List β} {i : Nat} {x : α} {y : β}, Paired R xs ys → xs[i]? = some x → ys[i]? = some y → R x y
  | _, _, _, _, _, .nil, e, _ => by simp at e
  | _, _, 0, _, _, .cons h _, e, e' => by
    obtain rfl := Option.some.inj e
    obtain rfl := Option.some.inj e'
    exact h
  | _, _, i + 1, _, _, .cons _ t, e, e' => paired_at (i := i) t e e'
theorem paired_len {α β : Type} {R : α → β → Prop} : ∀ {xs : List α} {ys : List β}, Paired R xs ys → xs.length = ys.length
  | _, _, .nil => rfl
  | _, _, .cons _ t => by rw [List.length_cons, List.length_cons, paired_len t]
section
variable {P : Program} {w : World} {K : PySem.W.Frag} {mg : Str → Option Value} {base : Heap}
theorem scID : FnScope ["deed", "parts", "part", "given"] ["deed"] (defScope sIsDeed) := ⟨rfl, rfl, rfl, by decide +kernel, rfl, by decide +kernel, by decide +kernel⟩
theorem ok_isdeed {f fP dP : Addr} {fd fdP : FuncData} {es : Array DictEntry} {n : Nat} (F : Fun K "is_deed" "is_deed" sIsDeed f fd) (B : Bts mg) (mA : mg "all" = none) (mZ : mg "zip" = none) (D : KDict K w dP es n) (mP : mg "PARTS" = some (.ref dP)) (GP : FnOk P w K mg base CX0 3 fP fdP ["part", "given"] (spIsPart K)) (mIP : mg "_is_part" = some (.ref fP)) (kP : PySem.W.keepIn K (.ref fP) = true) (bP : Binds K fdP ["part", "given"] []) :
    FnOk P w K mg base CX0 4 f fd ["deed"] (spIsDeed K w dP) := by
  refine F.ok scID (fun vs H Q E h => ?_) (fun cdv A outer s H vs Q E hr h => ?_)
  · obtain ⟨a, word, args, ds, kinds, rfl, _⟩ := h
    rfl
  · obtain ⟨a, word, args, ds, kinds, rfl, ht, hargs, hp, hl, hg, kk⟩ := h
    refine ⟨_, pss_cons (ps_if (PW.pt (pw_or (pt_not (pt_val (pe_callB call_isi (by rfl) B.isinstance (by decide +kernel) (pa_cons (pv 0) (pa_cons (pe_bltn (v := .ty "tuple") (by rfl) B.tuple (by decide +kernel) rfl) pa_nil))))) (pw_or1 (pt_not (pt_truth (pv 0) (by intro _; rfl))))))
        (pss_one (ps_ret pe_bl)) pss_nil)
      (pss_cons (ps_if (PW.pt (pw_or (pt_not (pt_val (pe_callB call_isi (by rfl) B.isinstance (by decide +kernel) (pa_cons (pe_ix ix_tup (pv 0) pe_int (fun _ _ => rfl)) (pa_cons (pe_bltn (v := .ty "str") (by rfl) B.str (by decide +kernel) rfl) pa_nil)))))
          (pw_or1 (pt_cmpR (op_notIn_kd D) (pe_ix ix_tup (pv 0) pe_int (fun _ _ => rfl)) (pe_glob (v := .ref dP) rfl mP rfl) (by rfl)))))
        (pss_one (ps_ret pe_bl)) pss_nil)
      (pss_cons (ps_set (i := 1) scID.nd rfl (.inl rfl) (pe_ix ix_kdict (pe_glob (v := .ref dP) rfl mP rfl) (pe_ix ix_tup (pv 0) pe_int (fun _ _ => rfl)) (fun _ _ => rfl)))
      (pss_cons (ps_if (pt_cmpR op_ne (pe_callB call_len_seq (by rfl) B.len PySem.boot_len (pa_cons (pv 0) pa_nil)) (pe_op op_add (pe_callB call_len_seq (by rfl) B.len PySem.boot_len (pa_cons (pv 1) pa_nil)) pe_int) (nomark _)) (pss_one (ps_ret pe_bl)) pss_nil)
      (pss_one (ps_ret (pe_callB (cr_all rfl) (by rfl) mA (by decide +kernel) (pa_cons (pe_lc (own := [("part", 2), ("given", 3)]) (g := gTup K 2 (gCons (gName 2) (gCons (gName 3) gNil))) (tt := tYes) rfl scID.nd
          (RZ.pi_zipA (by rfl) mZ (pa_cons (pv 1) (pa_cons (pe_slice sl_tup (pv 0) (po_some pe_int) po_none) pa_nil))) (blkOk_by (N := ["deed", "parts", "part", "given"]) (sc := defScope sIsDeed) (by decide +kernel))
          (fun _ _ _ _ _ => pg_tup rfl (pgs_cons (pg_name (i := 2) scID.nd rfl (.inl rfl)) (pgs_cons (pg_name (i := 3) scID.nd rfl (.inl rfl)) pgs_nil))) (fun _ _ _ _ _ => pts_nil)
          (fun _ _ _ _ _ => pe_call GP hr (by rfl) mIP kP bP .nil pass0 (pa_cons (pv 2) (pa_cons (pv 3) pa_nil)))) pa_nil))))))), ?_⟩
    have hv : Dp K H (.ref a) (.tuple (.str word :: ds)) := .tup ht (.cons (.str word) hargs)
    obtain ⟨r, hr0⟩ := hp.has
    obtain ⟨tP, hk, hT⟩ := hp.ex
    have lk : kinds.length = args.length := by rw [paired_len hg, dpAll_len hargs]
    refine ⟨_, rfl, _, _, _, _, true, rfl, .ty _, ty_of hv, kit_ty (by decide +kernel : kitB "tuple" "tuple" = some true), _, rfl, iteF ?_⟩
    refine ⟨_, rfl, true, .inr (.inl ⟨_, ht, rfl⟩), iteF ?_⟩
    have h0 : atI (V.str word :: args) 0 = some (.str word) := atI_nat (j := 0) rfl
    refine ⟨_, rfl, a, _, 0, _, rfl, rfl, ht, h0, _, _, _, _, true, rfl, .ty _, TyX.base (TyOf.str word), kit_ty (by decide +kernel), _, rfl, iteF ?_⟩
    refine ⟨_, rfl, a, _, 0, _, rfl, rfl, ht, h0, word, some r, rfl, rfl, hr0, _, rfl, iteF ?_⟩
    refine ⟨_, rfl, a, _, 0, _, rfl, rfl, ht, h0, dP, word, .ref tP, rfl, rfl, hk, ?_⟩
    refine ⟨_, rfl, a, _, rfl, .inr ht, _, rfl, tP, _, rfl, .inr (hT H), _, _, rfl, rfl, rfl, _, rfl, ?_⟩
    have e1 : ((V.str word :: args).length : Int) = (((kinds.map V.str).length : Nat) : Int) + 1 := by rw [List.length_map, List.length_cons, lk]; omega
    rw [e1]
    refine ite2 (fun hne => by simp at hne) (fun _ => ?_)
    refine ⟨_, rfl, _, rfl, 1, rfl, a, _, rfl, ht, ?_, fun c nc => ?_⟩
    · rintro ⟨h2, _⟩
      rw [show HT.sIx (V.str word :: args).length 0 (some 1) = min 1 (V.str word :: args).length from HT.sIx_nat _ 0 1, List.length_cons] at h2
      omega
    · rw [cut_tail]
      have sc := same_new (o := .tup args) nc
      have hT1 := hT (upd H c (.tup args))
      have hc1 : SqT K (upd H c (.tup args)) c args := SqT.of upd_same
      have ha1 := dpAll_same sc _ _ hargs
      generalize upd H c (.tup args) = H1 at *
      refine ⟨tP, c, _, _, rfl, .inr ⟨hT1, hc1, fun D nD => ?_⟩⟩
      have ly : (kinds.map V.str).length = kinds.length := List.length_map _
      refine lc_it (walk_zipT (n := args.length) (by rw [List.length_map, lk, Nat.min_self])) (fun i H2 => ∃ acc : List Bool, H2 D = some (.lst (acc.map V.bl)) ∧ acc.length = i ∧ (∀ b ∈ acc, b = true) ∧ Same H1 H2)
        ⟨[], upd_same, rfl, fun _ h => (by cases h), same_new nD⟩ (fun i H2 _ ⟨_, _, _, _, s⟩ => ⟨hT H2, Same.seqT s hc1⟩) (fun i x H2 H3 hi hI hy => ?_) (fun H2 hI => ?_)
      · obtain ⟨acc, eD, el, hac, s2⟩ := hI
        obtain ⟨T, x1, x2, rfl, nT, rfl, hx1, hx2⟩ := hy
        replace hx1 : (kinds.map V.str)[i]? = some x1 := hx1
        replace hx2 : args[i]? = some x2 := hx2
        rw [List.getElem?_map] at hx1
        obtain ⟨part, ep, rfl⟩ := Option.map_eq_some_iff.mp hx1
        have s3 := s2.trans (same_new (o := .tup [.str part, x2]) nT)
        obtain ⟨d, ed, hd⟩ := dpAll_at (dpAll_same s3 _ _ ha1) hx2
        have hga := paired_at hg ep ed
        have eT : (upd H2 T (.tup [.str part, x2])) T = some (.tup [.str part, x2]) := upd_same
        have eD3 : (upd H2 T (.tup [.str part, x2])) D = some (.lst (acc.map V.bl)) := same_new nT _ _ eD
        generalize upd H2 T (.tup [.str part, x2]) = H3 at *
        refine ⟨T, _, rfl, SqT.of eT, rfl, .str part, [x2], rfl, x2, [], rfl, rfl, rfl, ?_⟩
        refine ⟨_, rfl, _, rfl, part, x2, d, rfl, hd, hga, fun H4 s4 => ?_⟩
        refine ⟨acc.map V.bl, s4 _ _ eD3, small1000 (by rw [List.length_map]; omega), acc ++ [true], by rw [upd_same, List.map_append]; rfl, by rw [List.length_append, el]; rfl, fun b hb => ?_, fun b o e => ?_⟩
        · rcases List.mem_append.mp hb with hb | hb
          · exact hac b hb
          · exact List.mem_singleton.mp hb
        · rw [upd_ne (ne_of_none e nD)]; exact s4 _ _ (s3 b o e)
      · obtain ⟨acc, eD, el, hac, s2⟩ := hI
        refine ⟨D, acc, rfl, SqL.of eD, ?_⟩
        rw [bools_true acc hac]
        exact kk H2 (sc.trans s2)
end
/-! ### check_deed without a fault -/
def kindsS : List Str := ["feed", "dice", "table", "source", "field", "flag", "slot"]
structure KindsK (K : PySem.W.Frag) (C : Addr) : Prop where
  ex : ∃ kt, ClX.CVal K C (.type "type") "KINDS" (.ref kt) (.ref kt) ∧ ∀ H, SqT K H kt (kindsS.map V.str)
/-- the things by their names: kind and parts -/
abbrev Ths := List (Str × Str × List Str)
inductive ThL (K : PySem.W.Frag) (H : Hp) (C : Addr) : List (Str × V) → Ths → Prop where
  | nil : ThL K H C [] []
  | cons {n kind : Str} {parts : List Str} {a : Addr} {l : List (Str × V)} {th : Ths} (h : ThingAt K H C a kind n parts) (t : ThL K H C l th) : ThL K H C ((n, .ref a) :: l) ((n, kind, parts) :: th)
theorem ThL.same {K : PySem.W.Frag} {H H' : Hp} {C : Addr} (s : Same H H') : ∀ {l : List (Str × V)} {th : Ths}, ThL K H C l th → ThL K H' C l th
  | _, _, .nil => .nil
  | _, _, .cons h t => .cons (h.same s) (t.same s)
theorem ThL.at {K : PySem.W.Frag} {H : Hp} {C : Addr} {n kind : Str} {parts : List Str} : ∀ {l : List (Str × V)} {th : Ths}, ThL K H C l th → look th n = some (kind, parts) → ∃ a, look l n = some (.ref a) ∧ ThingAt K H C a kind n parts
  | _, _, .nil, e => by cases e
  | _, _, .cons (n := m) (kind := k) (parts := p) (a := a) h t, e => by
    by_cases q : m = n
    · rw [look_pos (p := (m, k, p)) q] at e
      cases Option.some.inj e
      subst q
      exact ⟨a, look_pos (p := (m, V.ref a)) rfl, h⟩
    · rw [look_neg (p := (m, k, p)) q] at e
      obtain ⟨b, e', h'⟩ := t.at e
      exact ⟨b, by rw [look_neg (p := (m, V.ref a)) q]; exact e', h'⟩
theorem ThL.len {K : PySem.W.Frag} {H : Hp} {C : Addr} : ∀ {l : List (Str × V)} {th : Ths}, ThL K H C l th → l.length = th.length
  | _, _, .nil => rfl
  | _, _, .cons _ t => by rw [List.length_cons, List.length_cons, t.len]
/-- a part of a deed that check_deed lets pass; x0: the deed's first name -/
inductive CheckArg (th : Ths) (x0 : PyData) : Str → PyData → Prop where
  | key {k x kind : Str} {parts : List Str} (e0 : x0 = .str x) (e : look th x = some (kind, parts)) (h : k ∈ parts) : CheckArg th x0 "key" (.str k)
  | thing {x kind : Str} {parts : List Str} (e : look th x = some (kind, parts)) : CheckArg th x0 "thing" (.str x)
  | kind {x part : Str} {parts : List Str} (m : part ∈ kindsS) (e : look th x = some (part, parts)) : CheckArg th x0 part (.str x)
  | other {part : Str} {d : PyData} (h1 : part ≠ "key") (h2 : part ≠ "thing") (h3 : part ∉ kindsS) : CheckArg th x0 part d
def spCheck (K : PySem.W.Frag) (w : World) (C dP : Addr) : Sp := fun vs H Q _ => ∃ (bn a : Addr) (tl : List (Str × V)) (th : Ths) (word : Str) (args : List V) (ds : List PyData) (kinds : List Str), vs = [.ref bn, .ref a] ∧ H bn = some (.dK (kvs tl)) ∧ ThL K H C tl th ∧
  SqT K H a (.str word :: args) ∧ DpAll K H args ds ∧ PartsK K w dP word kinds ∧ Paired (CheckArg th (ds.headD .none)) kinds ds ∧ ∀ H', Same H H' → Q .non H'
theorem inV_str {x : Str} {xs : List Str} : inV (.str x) (xs.map V.str) = decide (x ∈ xs) := by
  unfold inV
  by_cases h : x ∈ xs
  · rw [decide_eq_true h, List.any_eq_true]
    exact ⟨.str x, List.mem_map.mpr ⟨x, h, rfl⟩, by show (x == x) = true; simp⟩
  · rw [decide_eq_false h, List.any_eq_false]
    intro v hv
    obtain ⟨y, hy, rfl⟩ := List.mem_map.mp hv
    intro q
    have q' : y = x := beq_iff_eq.mp q
    exact h (q' ▸ hy)
theorem flat_strs (xs : List Str) : (xs.map V.str).all flatV = true := by
  rw [List.all_eq_true]
  intro v hv
  obtain ⟨y, _, rfl⟩ := List.mem_map.mp hv
  rfl
section
variable {P : Program} {w : World} {K : PySem.W.Frag} {mg : Str → Option Value} {base : Heap}
theorem scCD : FnScope ["by_name", "deed", "part", "given"] ["by_name", "deed"] (defScope sCheckDeed) := ⟨rfl, rfl, rfl, by decide +kernel, rfl, by decide +kernel, by decide +kernel⟩
theorem ok_check {f C dP : Addr} {fd : FuncData} (F : Fun K "check_deed" "check_deed" sCheckDeed f fd) (mZ : mg "zip" = none) (mP : mg "PARTS" = some (.ref dP)) (T : ThIn K mg C) (G : KindsK K C) :
    FnOk P w K mg base CX0 1 f fd ["by_name", "deed"] (spCheck K w C dP) := by
  refine F.ok scCD (fun vs H Q E h => ?_) (fun cdv A outer s H vs Q E hr h => ?_)
  · obtain ⟨bn, a, tl, th, word, args, ds, kinds, rfl, _⟩ := h
    rfl
  · obtain ⟨bn, a, tl, th, word, args, ds, kinds, rfl, hbn, hth, ht, hargs, hp, hg, kk⟩ := h
    have hu := hu_of hr
    obtain ⟨tP, hk, hT⟩ := hp.ex
    obtain ⟨kt, hcv, hks⟩ := G.ex
    refine ⟨_, pss_one (ps_for PassesOwn.never rfl (RZ.pi_zipA (by rfl) mZ (pa_cons (pe_ix ix_kdict (pe_glob (v := .ref dP) rfl mP rfl) (pe_ix ix_tup (pv 1) pe_int (fun _ _ => rfl)) (fun _ _ => rfl)) (pa_cons (pe_slice sl_tup (pv 1) (po_some pe_int) po_none) pa_nil)))
        (pg_tup rfl (pgs_cons (pg_name (i := 2) scCD.nd rfl (.inl rfl)) (pgs_cons (pg_name (i := 3) scCD.nd rfl (.inl rfl)) pgs_nil)))
      (pss_cons (ps_if (PW.pt (pw_and (pt_cmpR op_eq (pv 2) pe_str (nomark _)) (pw_and1 (pt_cmpR op_notIn_seq (pv 3) (pe_fld (pe_dget hu (pv 0) (pe_ix ix_tup (pv 1) pe_int (fun _ _ => rfl)) (fun _ _ => rfl)) rfl) (by rfl))))) (pss_one ps_never) pss_nil)
      (pss_cons (ps_if (PW.pt (pw_and (pt_cmpR op_eq (pv 2) pe_str (nomark _)) (pw_and1 (pt_cmp (pc_dnotin hu (pv 3) (pv 0)))))) (pss_one ps_never) pss_nil)
      (pss_one (ps_if (PW.pt (pw_and (pt_cmpR op_in_seq (pv 2) (ClX.pe_cval (pe_glob (v := .ref C) rfl T.m rfl) rfl) (by rfl)) (pw_and1 (PW.pt (pw_or (pt_cmp (pc_dnotin hu (pv 3) (pv 0))) (pw_or1 (pt_cmpR op_ne (pe_fld (pe_dget hu (pv 0) (pv 3) (fun _ _ => rfl)) rfl) (pv 2) (nomark _))))))))
        (pss_one ps_never) pss_nil))))), ?_⟩
    have lk : kinds.length = args.length := by rw [paired_len hg, dpAll_len hargs]
    have h0 : atI (V.str word :: args) 0 = some (.str word) := atI_nat (j := 0) rfl
    refine ⟨_, rfl, a, _, 0, _, rfl, rfl, ht, h0, dP, word, .ref tP, rfl, rfl, hk, ?_⟩
    refine ⟨_, rfl, 1, rfl, a, _, rfl, ht, ?_, fun c nc => ?_⟩
    · rintro ⟨h2, _⟩
      rw [show HT.sIx (V.str word :: args).length 0 (some 1) = min 1 (V.str word :: args).length from HT.sIx_nat _ 0 1, List.length_cons] at h2
      omega
    rw [cut_tail]
    have sc := same_new (o := .tup args) nc
    have hc1 : SqT K (upd H c (.tup args)) c args := SqT.of upd_same
    have ha1 := dpAll_same sc _ _ hargs
    have hth1 := hth.same sc
    have hbn1 := sc _ _ hbn
    have ht1 := Same.seqT sc ht
    generalize upd H c (.tup args) = H1 at *
    refine ⟨tP, c, _, _, rfl, .inr ⟨hT H1, hc1, ?_⟩⟩
    refine for_it (walk_zipT (n := args.length) (by rw [List.length_map, lk, Nat.min_self])) (fun i σ H2 => ∃ y2 y3 : Option V, σ = [some (.ref bn), some (.ref a), y2, y3] ∧ Same H1 H2)
      ⟨none, none, rfl, Same.refl _⟩ (fun i σ H2 _ ⟨_, _, _, s⟩ => ⟨hT H2, Same.seqT s hc1⟩) (fun i x σ H2 H3 hi hI hy => ?_) (fun σ H2 hI => ?_)
    · obtain ⟨y2, y3, rfl, s2⟩ := hI
      obtain ⟨T', x1, x2, rfl, nT, rfl, hx1, hx2⟩ := hy
      replace hx1 : (kinds.map V.str)[i]? = some x1 := hx1
      replace hx2 : args[i]? = some x2 := hx2
      rw [List.getElem?_map] at hx1
      obtain ⟨part, ep, rfl⟩ := Option.map_eq_some_iff.mp hx1
      have s3 := s2.trans (same_new (o := .tup [.str part, x2]) nT)
      obtain ⟨d, ed, hd⟩ := dpAll_at (dpAll_same s3 _ _ ha1) hx2
      have hga := paired_at hg ep ed
      have eT : (upd H2 T' (.tup [.str part, x2])) T' = some (.tup [.str part, x2]) := upd_same
      have hth3 := hth1.same s3
      have hbn3 := s3 _ _ hbn1
      have ht3 := Same.seqT s3 ht1
      have hargs3 := dpAll_same s3 _ _ ha1
      generalize upd H2 T' (.tup [.str part, x2]) = H3 at *
      refine ⟨T', _, rfl, SqT.of eT, rfl, .str part, [x2], rfl, x2, [], rfl, rfl, ?_⟩
      have hget : ∀ {x kind : Str} {parts : List Str}, look th x = some (kind, parts) → ∃ b, ThingAt K H3 C b kind x parts ∧ DGet H3 bn (.str x) (some (.ref b)) := fun {x kind parts} e => by
        obtain ⟨b, e1, e2⟩ := hth3.at e
        refine ⟨b, e2, ?_⟩
        have := DGet.k (k := Sum.inr x) hbn3
        rw [valV_kvs, e1] at this
        exact this
      cases hga with
      | @key k x kind parts e0 e hm =>
        obtain ⟨b, ⟨dx, fs, t, b1, b2, b3, b4, b5⟩, g⟩ := hget e
        cases hd
        have hx0 : ∃ r, args = V.str x :: r := by
          cases ds with
          | nil => cases (show PyData.none = PyData.str x from e0)
          | cons d' r' =>
            obtain ⟨v', r, rfl, h', _⟩ := dpAll_cons hargs3
            have e' : d' = PyData.str x := e0
            subst e'
            cases h'
            exact ⟨r, rfl⟩
        obtain ⟨r, rfl⟩ := hx0
        refine ⟨_, rfl, rfl, _, rfl, iteT ?_⟩
        refine ⟨_, rfl, _, rfl, _, rfl, a, _, 1, _, rfl, rfl, ht3, atI_nat (j := 1) rfl, bn, _, rfl, g, b, C, dx, fs, _, rfl, b1, T.cls, T.np, b4, t, _, rfl, .inr b5, rfl, flat_strs parts, _, rfl, ?_⟩
        rw [inV_str, decide_eq_true hm]
        refine iteF ⟨_, rfl, rfl, _, rfl, iteF ?_⟩
        refine ⟨_, rfl, C, _, _, _, rfl, T.rd, hcv, kt, _, rfl, .inr (hks H3), rfl, flat_strs kindsS, _, rfl, ?_⟩
        rw [inV_str, show decide (("key" : Str) ∈ kindsS) = false by decide +kernel]
        exact iteF ⟨_, _, rfl, s3⟩
      | @thing x kind parts e =>
        obtain ⟨b, hb, g⟩ := hget e
        cases hd
        refine ⟨_, rfl, rfl, _, rfl, iteF ⟨_, rfl, rfl, _, rfl, iteT ?_⟩⟩
        refine ⟨_, rfl, _, rfl, bn, _, rfl, g, _, rfl, iteF ?_⟩
        refine ⟨_, rfl, C, _, _, _, rfl, T.rd, hcv, kt, _, rfl, .inr (hks H3), rfl, flat_strs kindsS, _, rfl, ?_⟩
        rw [inV_str, show decide (("thing" : Str) ∈ kindsS) = false by decide +kernel]
        exact iteF ⟨_, _, rfl, s3⟩
      | @kind x part parts m e =>
        obtain ⟨b, ⟨dx, fs, t, b1, b2, b3, b4, b5⟩, g⟩ := hget e
        cases hd
        have n1 : part ≠ "key" := fun q => by rw [q] at m; exact absurd m (by decide +kernel)
        have n2 : part ≠ "thing" := fun q => by rw [q] at m; exact absurd m (by decide +kernel)
        refine ⟨_, rfl, rfl, _, rfl, ?_⟩
        rw [decide_eq_false fun e => n1 (V.str.inj e)]
        refine iteF ⟨_, rfl, rfl, _, rfl, ?_⟩
        rw [decide_eq_false fun e => n2 (V.str.inj e)]
        refine iteF ⟨_, rfl, C, _, _, _, rfl, T.rd, hcv, kt, _, rfl, .inr (hks H3), rfl, flat_strs kindsS, _, rfl, ?_⟩
        rw [inV_str, decide_eq_true m]
        refine iteT ⟨_, rfl, _, rfl, bn, _, rfl, g, _, rfl, iteF ?_⟩
        refine ⟨_, rfl, _, rfl, bn, _, rfl, g, b, C, dx, fs, _, rfl, b1, T.cls, T.nk, b2, _, rfl, rfl, _, rfl, ?_⟩
        rw [decide_eq_true rfl]
        exact iteF ⟨_, _, rfl, s3⟩
      | other h1 h2 h3 =>
        refine ⟨_, rfl, rfl, _, rfl, ?_⟩
        rw [decide_eq_false fun e => h1 (V.str.inj e)]
        refine iteF ⟨_, rfl, rfl, _, rfl, ?_⟩
        rw [decide_eq_false fun e => h2 (V.str.inj e)]
        refine iteF ⟨_, rfl, C, _, _, _, rfl, T.rd, hcv, kt, _, rfl, .inr (hks H3), rfl, flat_strs kindsS, _, rfl, ?_⟩
        rw [inV_str, decide_eq_false h3]
        exact iteF ⟨_, _, rfl, s3⟩
    · obtain ⟨y2, y3, rfl, s2⟩ := hI
      exact kk H2 (sc.trans s2)
end
/-! ### State: made -/
def stF (bn ct : Addr) (f sd sr : Nat) : List (Str × V) := [("by_name", .ref bn), ("contents", .ref ct), ("fetchings", .int (f : Int)), ("seedings", .int (sd : Int)), ("serials", .int (sr : Int))]
theorem stF_made (bn ct : Addr) : putF "serials" (.int 0) (putF "seedings" (.int 0) (putF "fetchings" (.int 0) (putF "contents" (.ref ct) (putF "by_name" (.ref bn) [])))) = stF bn ct 0 0 0 := rfl
theorem stF_fet (bn ct : Addr) (f sd sr g : Nat) : putF "fetchings" (.int (g : Int)) (stF bn ct f sd sr) = stF bn ct g sd sr := rfl
theorem stF_see (bn ct : Addr) (f sd sr g : Nat) : putF "seedings" (.int (g : Int)) (stF bn ct f sd sr) = stF bn ct f g sr := rfl
theorem stF_ser (bn ct : Addr) (f sd sr g : Nat) : putF "serials" (.int (g : Int)) (stF bn ct f sd sr) = stF bn ct f sd g := rfl
theorem stF_bn (bn ct : Addr) (f sd sr : Nat) : (stF bn ct f sd sr).lookup ("by_name" : Str) = some (.ref bn) := rfl
theorem stF_ct (bn ct : Addr) (f sd sr : Nat) : (stF bn ct f sd sr).lookup ("contents" : Str) = some (.ref ct) := rfl
theorem stF_f (bn ct : Addr) (f sd sr : Nat) : (stF bn ct f sd sr).lookup ("fetchings" : Str) = some (.int (f : Int)) := rfl
theorem stF_sd (bn ct : Addr) (f sd sr : Nat) : (stF bn ct f sd sr).lookup ("seedings" : Str) = some (.int (sd : Int)) := rfl
theorem stF_sr (bn ct : Addr) (f sd sr : Nat) : (stF bn ct f sd sr).lookup ("serials" : Str) = some (.int (sr : Int)) := rfl
theorem stF_len (bn ct : Addr) (f sd sr : Nat) : (stF bn ct f sd sr).length < 1000 := by show 5 < 1000; decide
structure StIn (K : PySem.W.Frag) (mg : Str → Option Value) (CS : Addr) : Prop where
  m : mg "State" = some (.ref CS)
  cls : Cls K CS
  nb : NoAttr K CS "by_name"
  nc : NoAttr K CS "contents"
  nf : NoAttr K CS "fetchings"
  ns : NoAttr K CS "seedings"
  nr : NoAttr K CS "serials"
/-- the content of a thing at first -/
def firstD (kind : Str) : PyData :=
  if kind = "feed" then .tuple [.int 0, .int 0, .int 0] else if kind = "dice" then .tuple [.int 0, .int 0] else if kind = "table" then .tuple [] else if kind = "source" then .int 0 else if kind = "flag" then .bool false else .none
def firsts (th : Ths) : List (Str × PyData) := th.map fun t => (t.1, firstD t.2.1)
structure FirstK (K : PySem.W.Frag) (w : World) (dA : Addr) : Prop where
  at_ : ∀ kind ∈ kindsS, ∃ v, KDct K w dA kind v ∧ ∀ H, Dq K H v (firstD kind)
theorem ThL.names {K : PySem.W.Frag} {H : Hp} {C : Addr} : ∀ {l : List (Str × V)} {th : Ths}, ThL K H C l th → Qp.names l = Qp.names th
  | _, _, .nil => rfl
  | _, _, .cons _ t => by
    show _ :: _ = _ :: _
    rw [show List.map _ _ = _ from t.names]
    rfl
theorem ThL.get {K : PySem.W.Frag} {H : Hp} {C : Addr} : ∀ {l : List (Str × V)} {th : Ths} {i : Nat} {v : V}, ThL K H C l th → (l.map (·.2))[i]? = some v → ∃ n kind parts a, v = .ref a ∧ l[i]? = some (n, .ref a) ∧ th[i]? = some (n, kind, parts) ∧ ThingAt K H C a kind n parts
  | _, _, _, _, .nil, e => by simp at e
  | _, _, 0, _, .cons h _, e => by
    obtain rfl := Option.some.inj e
    exact ⟨_, _, _, _, rfl, rfl, rfl, h⟩
  | _, _, i + 1, _, .cons _ t, e => t.get (i := i) e
/-- a new name is put at the end -/
theorem put_new {α : Type} {l : List (Str × α)} {n : Str} {v : α} (h : n ∉ names l) : put l n v = l ++ [(n, v)] := by
  unfold put
  rw [if_neg]
  intro q
  obtain ⟨p, hp, e⟩ := List.any_eq_true.mp q
  exact h (List.mem_map.mpr ⟨p, hp, of_decide_eq_true e⟩)
theorem nodup_take {α : Type} {l : List (Str × α)} {n : Str} {v : α} {i : Nat} (h : (names l).Nodup) (e : l[i]? = some (n, v)) : n ∉ names (l.take i) := by
  intro m
  obtain ⟨p, hp, ep⟩ := List.mem_map.mp m
  obtain ⟨j, hj⟩ := List.getElem?_of_mem hp
  rw [List.getElem?_take] at hj
  split at hj
  · rename_i hji
    obtain ⟨h1, e1⟩ := List.getElem?_eq_some_iff.mp hj
    obtain ⟨h2, e2⟩ := List.getElem?_eq_some_iff.mp e
    have hl : (names l).length = l.length := List.length_map _
    have := (List.pairwise_iff_getElem.mp h) j i (by rw [hl]; exact h1) (by rw [hl]; exact h2) hji
    apply this
    unfold names
    rw [List.getElem_map, List.getElem_map, e1, e2]
    exact ep
  · cases hj
theorem seqT_mask {K : PySem.W.Frag} {H : Hp} {l : List Addr} {a : Addr} {xs : List V} (h : SqT K H a xs) (n : ∀ b ∈ l, ¬ Rd H b (.tup xs)) : SqT K (mask l H) a xs := by
  rcases h with h | h
  · have na : a ∉ l := fun m => n a m h
    refine .inl ?_
    rcases h with h | ⟨o, h⟩
    · exact .inl (by rw [mask_out na]; exact h)
    · exact .inr ⟨o, by rw [mask_out na]; exact h⟩
  · exact .inr h
theorem rd_ins {H : Hp} {s C dx : Addr} {fs : List (Str × V)} {xs : List V} (hs : H s = some (.ins C dx fs)) : ¬ Rd H s (.tup xs) := by
  rintro (h | ⟨o, h⟩) <;> rw [hs] at h <;> cases h
theorem ThingAt.maskS {K : PySem.W.Frag} {H : Hp} {C CS s ds a : Addr} {kind n : Str} {parts : List Str} (hs : H s = some (.ins CS ds [])) (h : ThingAt K H C a kind n parts) : ThingAt K (mask [s] H) C a kind n parts := by
  obtain ⟨dx, fs, t, h1, h2, h3, h4, h5⟩ := h
  have na : a ∉ [s] := fun m => by
    rw [List.mem_singleton.mp m, hs] at h1
    cases h1
    cases h2
  exact ⟨dx, fs, t, by rw [mask_out na]; exact h1, h2, h3, h4, seqT_mask h5 fun b hb => by rw [List.mem_singleton.mp hb]; exact rd_ins hs⟩
theorem ThL.maskS {K : PySem.W.Frag} {H : Hp} {C CS s ds : Addr} (hs : H s = some (.ins CS ds [])) : ∀ {l : List (Str × V)} {th : Ths}, ThL K H C l th → ThL K (mask [s] H) C l th
  | _, _, .nil => .nil
  | _, _, .cons h t => .cons (h.maskS hs) (t.maskS hs)
def spSInit (K : PySem.W.Frag) (C CS : Addr) : Sp := fun vs H Q _ => ∃ (s ds t : Addr) (tl : List (Str × V)) (th : Ths), vs = [.ref s, .ref t] ∧ H s = some (.ins CS ds []) ∧ SqT K H t (tl.map (·.2)) ∧ ThL K H C tl th ∧ (names th).Nodup ∧ th.length ≤ 100 ∧ (∀ t ∈ th, t.2.1 ∈ kindsS) ∧
  ∀ (H' : Hp) (bn ct : Addr) (l : List (Str × V)), (∀ b o, b ≠ s → H b = some o → H' b = some o) → H bn = none → H ct = none → bn ≠ ct → H' s = some (.ins CS ds (stF bn ct 0 0 0)) → H' bn = some (.dK (kvs tl)) → H' ct = some (.dK (kvs l)) → (∀ M, CsR K M l (firsts th)) → Q .non H'
section
variable {P : Program} {w : World} {K : PySem.W.Frag} {mg : Str → Option Value} {base : Heap}
theorem scSI : FnScope ["self", "things", "thing"] ["self", "things"] (defScope (st 0)) := ⟨rfl, rfl, rfl, by decide +kernel, rfl, by decide +kernel, by decide +kernel⟩
theorem ok_sinit {f C CS dA : Addr} {fd : FuncData} {k : Nat} (F : Fun K "__init__" "State.__init__" (st 0) f fd) (T : ThIn K mg C) (S : StIn K mg CS) (mA : mg "AT_FIRST" = some (.ref dA)) (G : FirstK K w dA) : FnOk P w K mg base CX0 (k + 1) f fd ["self", "things"] (spSInit K C CS) := by
  refine F.ok scSI (fun vs H Q E h => ?_) (fun cdv A outer s0 H vs Q E hr h => ?_)
  · obtain ⟨s, ds, t, tl, th, rfl, _⟩ := h
    rfl
  · obtain ⟨s, ds, t, tl, th, rfl, hs, ht, hth, hnd, hl, hk, kk⟩ := h
    refine ⟨_, pss_cons (ps_fld (pv 0) (pe_dc (own := [("thing", 2)]) (g := gName 2) (tt := tYes) (tk := tFld K (tVar 2) "name") (tv := tVar 2) rfl scSI.nd (pi_tup (pv 1)) (blkOk_by (N := ["self", "things", "thing"]) (sc := defScope (st 0)) (by decide +kernel))
          (fun _ _ _ _ _ => pg_name (i := 2) scSI.nd rfl (.inl rfl)) (fun _ _ _ _ _ => pts_nil) (fun _ _ _ _ _ => pe_fld (pv 2) rfl) (fun _ _ _ _ _ => pv 2)) rfl)
      (pss_cons (ps_fld (pv 0) (pe_dc (own := [("thing", 2)]) (g := gName 2) (tt := tYes) (tk := tFld K (tVar 2) "name") (tv := tOp (rIxD K w) (tC (.ref dA)) (tFld K (tVar 2) "kind")) rfl scSI.nd (pi_tup (pv 1)) (blkOk_by (N := ["self", "things", "thing"]) (sc := defScope (st 0)) (by decide +kernel))
          (fun _ _ _ _ _ => pg_name (i := 2) scSI.nd rfl (.inl rfl)) (fun _ _ _ _ _ => pts_nil) (fun _ _ _ _ _ => pe_fld (pv 2) rfl) (fun _ _ _ _ _ => pe_ix ix_kdict (pe_glob (v := .ref dA) (by rfl) mA rfl) (pe_fld (pv 2) rfl) (fun _ _ => rfl))) rfl)
      (pss_cons (ps_fld (pv 0) pe_int rfl) (pss_cons (ps_fld (pv 0) pe_int rfl) (pss_one (ps_fld (pv 0) pe_int rfl))))), ?_⟩
    -- by_name
    have lt : (tl.map (·.2)).length = tl.length := List.length_map _
    have ltl : tl.length = th.length := hth.len
    have htn : (names tl).Nodup := by rw [hth.names]; exact hnd
    refine ⟨_, rfl, t, rfl, ⟨_, ht⟩, fun bn nbn => ?_⟩
    refine dc_tup (K := K) (a := t) (xs := tl.map (·.2)) (fun i H2 => H2 bn = some (.dK (kvs (tl.take i))) ∧ Same H H2) ⟨upd_same, same_new nbn⟩ (fun i H2 _ hI => Same.seqT hI.2 ht) (fun i x H2 hx hI => ?_) (fun H2 hI => ?_)
    · obtain ⟨eD, s2⟩ := hI
      obtain ⟨n, kind, parts, a, rfl, e1, e2, th1⟩ := hth.get hx
      obtain ⟨dx, fs, t1, b1, b2, b3, b4, b5⟩ := th1.same s2
      have hi : i < tl.length := (List.getElem?_eq_some_iff.mp e1).1
      refine ⟨rfl, ?_⟩
      refine ⟨_, rfl, a, C, dx, fs, _, rfl, b1, T.cls, T.nn, b3, _, rfl, _, .inr n, rfl, eD, small1000 (by rw [kvs_len, List.length_take]; omega), ?_, fun b o e => ?_⟩
      · rw [upd_same, putK_kvs, put_new (nodup_take htn e1), List.take_add_one, e1]
        rfl
      · rw [upd_ne (ne_of_none e nbn)]; exact s2 b o e
    obtain ⟨eb, s2⟩ := hI
    rw [lt, List.take_length] at eb
    have hs2 := s2 _ _ hs
    refine ⟨_, rfl, s, CS, ds, [], rfl, hs2, S.cls, S.nb, by decide, ?_⟩
    have nsb : bn ≠ s := (ne_of_none hs nbn).symm
    have eb3 : (upd H2 s (.ins CS ds (putF "by_name" (.ref bn) []))) bn = some (.dK (kvs tl)) := by rw [upd_ne nsb]; exact eb
    have es3 : (upd H2 s (.ins CS ds (putF "by_name" (.ref bn) []))) s = some (.ins CS ds (putF "by_name" (.ref bn) [])) := upd_same
    have c3 : Chg [s] H (upd H2 s (.ins CS ds (putF "by_name" (.ref bn) []))) := (Chg.of_same s2).trans (.upd List.mem_cons_self)
    generalize upd H2 s (.ins CS ds (putF "by_name" (.ref bn) [])) = H3 at *
    have keep : ∀ {b : Addr} {o : HO}, b ≠ s → H b = some o → H3 b = some o := fun {b o} nb e => c3 b o (fun m => nb (List.mem_singleton.mp m)) e
    -- contents
    have htM : SqT K (mask [s] H) t (tl.map (·.2)) := seqT_mask ht fun b hb => by rw [List.mem_singleton.mp hb]; exact rd_ins hs
    have hthM := hth.maskS hs
    have ht3 : SqT K H3 t (tl.map (·.2)) := Same.seqT (c3.mask.trans (mask_sub _ _)) htM
    have hth3 : ThL K H3 C tl th := hthM.same (c3.mask.trans (mask_sub _ _))
    refine ⟨_, rfl, t, rfl, ⟨_, ht3⟩, fun ct nct => ?_⟩
    refine dc_tup (K := K) (a := t) (xs := tl.map (·.2)) (fun i H4 => (∃ l : List (Str × V), H4 ct = some (.dK (kvs l)) ∧ names l = names (th.take i) ∧ ∀ M, CsR K M l (firsts (th.take i))) ∧ Same H3 H4) ⟨⟨[], upd_same, rfl, fun M => .nil⟩, same_new nct⟩ (fun i H4 _ hI => Same.seqT hI.2 ht3) (fun i x H4 hx hI => ?_) (fun H4 hI => ?_)
    · obtain ⟨⟨l, eD, en, hl3⟩, s4⟩ := hI
      obtain ⟨n, kind, parts, a, rfl, e1, e2, th1⟩ := hth3.get hx
      obtain ⟨dx, fs, t1, b1, b2, b3, b4, b5⟩ := th1.same s4
      have hi : i < th.length := (List.getElem?_eq_some_iff.mp e2).1
      obtain ⟨v, hv, hd⟩ := G.at_ kind (hk _ (List.mem_of_getElem? e2))
      have ll : l.length ≤ 100 := by
        have := congrArg List.length en
        simp only [names, List.length_map, List.length_take] at this
        omega
      refine ⟨rfl, ?_⟩
      refine ⟨_, rfl, a, C, dx, fs, _, rfl, b1, T.cls, T.nn, b3, ?_⟩
      refine ⟨_, rfl, a, C, dx, fs, _, rfl, b1, T.cls, T.nk, b2, dA, kind, v, rfl, rfl, hv, ?_⟩
      refine ⟨_, .inr n, rfl, eD, small1000 (by rw [kvs_len]; omega), ⟨l ++ [(n, v)], ?_, ?_, fun M => ?_⟩, fun b o e => ?_⟩
      · rw [upd_same, putK_kvs, put_new (by rw [en]; exact nodup_take hnd e2)]
      · rw [List.take_add_one, e2]
        show List.map _ _ = List.map _ _
        rw [List.map_append, List.map_append, show List.map (fun x => x.1) l = names l from rfl, en]
        rfl
      · rw [List.take_add_one, e2]
        show CsR K M _ (List.map _ _)
        rw [List.map_append]
        exact (hl3 M).app (.cons (hd M) .nil)
      · rw [upd_ne (ne_of_none e nct)]; exact s4 b o e
    obtain ⟨⟨l, ec, en, hl3⟩, s4⟩ := hI
    rw [show (tl.map (·.2)).length = th.length by rw [lt, ltl], List.take_length] at hl3
    have es4 := s4 _ _ es3
    have ncs : ct ≠ s := (ne_of_none es3 nct).symm
    have nbc : bn ≠ ct := ne_of_none eb3 nct
    have nctH : H ct = none := c3.free nct fun m => ncs (List.mem_singleton.mp m)
    refine ⟨_, rfl, s, CS, ds, _, rfl, es4, S.cls, S.nc, by show 1 < 1000; decide, ?_⟩
    refine ⟨_, rfl, s, CS, ds, _, rfl, upd_same, S.cls, S.nf, by show 2 < 1000; decide, ?_⟩
    refine ⟨_, rfl, s, CS, ds, _, rfl, upd_same, S.cls, S.ns, by show 3 < 1000; decide, ?_⟩
    refine ⟨_, rfl, s, CS, ds, _, rfl, upd_same, S.cls, S.nr, by show 4 < 1000; decide, ?_⟩
    refine kk _ bn ct l (fun b o nb e => ?_) nbn nctH nbc ?_ ?_ ?_ hl3
    · rw [upd_ne nb, upd_ne nb, upd_ne nb, upd_ne nb]
      exact s4 _ _ (keep nb e)
    · rw [upd_same, stF_made]
    · rw [upd_ne nsb, upd_ne nsb, upd_ne nsb, upd_ne nsb]
      exact s4 _ _ eb3
    · rw [upd_ne ncs, upd_ne ncs, upd_ne ncs, upd_ne ncs]
      exact ec
end
/-! ### World: made -/
def spUnlikeL : Sp := fun vs H Q _ => ∃ (t : Addr) (xs : List Str), vs = [.ref t] ∧ H t = some (.lst (xs.map V.str)) ∧ xs.Nodup ∧ xs.length ≤ 1000 ∧ ∀ H', Same H H' → Q .non H'
/-- a field stands behind what it is over -/
def FieldsOk (th : Ths) : Prop := ∀ (i : Nat) (n : Str) (parts : List Str), th[i]? = some (n, ("field" : Str), parts) → ∃ over rest, parts = over :: rest ∧ ∃ (j : Nat) (k : Str) (ps : List Str), j < i ∧ th[j]? = some (over, k, ps) ∧ (k = "source" ∨ k = "field")
def spFields (K : PySem.W.Frag) (C : Addr) : Sp := fun vs H Q _ => ∃ (t : Addr) (tl : List (Str × V)) (th : Ths), vs = [.ref t] ∧ SqT K H t (tl.map (·.2)) ∧ ThL K H C tl th ∧ FieldsOk th ∧ th.length ≤ 100 ∧ ∀ H', Same H H' → Q .non H'
theorem not_inV {u : Str} {xs : List Str} {i : Nat} (hn : xs.Nodup) (hu : xs[i]? = some u) : inV (.str u) ((xs.map V.str).take i) = false := by
  rw [← List.map_take, inV_str, decide_eq_false]
  intro hm
  obtain ⟨j, hj⟩ := List.getElem?_of_mem hm
  rw [List.getElem?_take] at hj
  split at hj
  · rename_i hji
    obtain ⟨h1, e1⟩ := List.getElem?_eq_some_iff.mp hj
    obtain ⟨h2, e2⟩ := List.getElem?_eq_some_iff.mp hu
    exact (List.pairwise_iff_getElem.mp hn) j i h1 h2 hji (e1.trans e2.symm)
  · cases hj
section
variable {P : Program} {w : World} {K : PySem.W.Frag} {mg : Str → Option Value} {base : Heap}
theorem ok_unlikeL {f : Addr} {fd : FuncData} {k : Nat} (F : Fun K "check_unlike" "check_unlike" sUnlike f fd) (me : mg "enumerate" = none) : FnOk P w K mg base CX0 (k + 1) f fd ["names"] spUnlikeL := by
  refine F.ok scCU (fun vs H Q E h => ?_) (fun cdv A outer s H vs Q E hr h => ?_)
  · obtain ⟨t, xs, rfl, _⟩ := h
    rfl
  · obtain ⟨t, xs, rfl, ht, hn, hl, kk⟩ := h
    refine ⟨_, pss_one (ps_for PassesOwn.never rfl (pi_enum (by rfl) me (pa_cons (pv 0) pa_nil)) (pg_tup rfl (pgs_cons (pg_name (i := 1) scCU.nd rfl (.inl rfl)) (pgs_cons (pg_name (i := 2) scCU.nd rfl (.inl rfl)) pgs_nil)))
      (pss_one (ps_if (pt_cmpR op_in_seq (pv 2) (pe_slice sl_list (pv 0) po_none (po_some (pv 1))) (by rfl)) (pss_one ps_never) pss_nil))), ?_⟩
    refine ⟨_, rfl, t, _, rfl, SqL.of ht, ?_⟩
    refine for_it (walk_enum (a := t) (xs := xs.map V.str)) (fun i σ H2 => ∃ y z, σ = [some (.ref t), y, z] ∧ Same H H2) ⟨none, none, rfl, Same.refl _⟩ (fun i σ H2 _ ⟨_, _, _, e⟩ => SqL.of (e _ _ ht)) ?_ ?_
    · rintro i x σ H2 H3 hi ⟨y, z, rfl, s2⟩ ⟨T, x1, x2, rfl, nT, rfl, hx1, hx2⟩
      replace hx1 : some (V.int (i : Nat)) = some x1 := hx1
      cases hx1
      replace hx2 : (xs.map V.str)[i]? = some x2 := hx2
      rw [List.getElem?_map] at hx2
      obtain ⟨u, hu, rfl⟩ := Option.map_eq_some_iff.mp hx2
      have s3 := s2.trans (same_new (o := .tup [.int (i : Nat), .str u]) nT)
      refine ⟨T, [.int (i : Nat), .str u], rfl, SqT.of upd_same, rfl, .int (i : Nat), [.str u], rfl, .str u, [], rfl, rfl, ?_⟩
      refine ⟨_, rfl, _, rfl, _, rfl, i, rfl, t, _, rfl, SqL.of (s3 _ _ ht), fun p np => ?_⟩
      rw [cut_take]
      refine ⟨p, _, rfl, .inl (SqL.of upd_same), rfl, ?_, _, rfl, ?_⟩
      · rw [← List.map_take]; exact flat_strs _
      · show (if (inV (.str u) ((xs.map V.str).take i)) = true then _ else _)
        rw [not_inV hn hu]
        exact iteF ⟨_, _, rfl, s3.trans (same_new np)⟩
    · rintro σ H2 ⟨y, z, rfl, s2⟩
      exact kk H2 s2
theorem scCF : FnScope ["things", "at", "thing", "below", "other"] ["things"] (defScope sFields) := ⟨rfl, rfl, rfl, by decide +kernel, rfl, by decide +kernel, by decide +kernel⟩
theorem ok_fields {f C : Addr} {fd : FuncData} {k : Nat} (F : Fun K "_check_fields" "_check_fields" sFields f fd) (me : mg "enumerate" = none) (T : ThIn K mg C) : FnOk P w K mg base CX0 (k + 1) f fd ["things"] (spFields K C) := by
  refine F.ok scCF (fun vs H Q E h => ?_) (fun cdv A outer s H vs Q E hr h => ?_)
  · obtain ⟨t, tl, th, rfl, _⟩ := h
    rfl
  · obtain ⟨t, tl, th, rfl, ht, hth, hf, hl, kk⟩ := h
    refine ⟨_, pss_one (ps_for PassesOwn.never rfl (pi_enumT (by rfl) me (pa_cons (pv 0) pa_nil)) (pg_tup rfl (pgs_cons (pg_name (i := 1) scCF.nd rfl (.inl rfl)) (pgs_cons (pg_name (i := 2) scCF.nd rfl (.inl rfl)) pgs_nil)))
      (pss_cons (ps_setLc (i := 3) (own := [("other", 4)]) (g := gName 4) (te := tFld K (tVar 4) "name") (tt := tTest (tOp (rIn K false) (tFld K (tVar 4) "kind") (tTup (tCons (tC (.str "source")) (tCons (tC (.str "field")) tNil))))) rfl scCF.nd rfl rfl (sw_true rfl rfl rfl (by decide +kernel)) (pi_tup (pe_slice sl_tup (pv 0) po_none (po_some (pv 1)))) (blkOk_by (N := ["things", "at", "thing", "below", "other"]) (sc := defScope sFields) (by decide +kernel))
          (fun _ _ _ _ _ => pg_name (i := 4) scCF.nd rfl (.inl rfl)) (fun _ _ _ _ _ => pts_one (pt_cmpR op_in_seq (pe_fld (pv 4) rfl) (pe_tup (pa_cons pe_str (pa_cons pe_str pa_nil))) (by rfl))) (fun _ _ _ _ _ => pe_fld (pv 4) rfl))
      (pss_one (ps_if (PW.pt (pw_and (pt_cmpR op_eq (pe_fld (pv 2) rfl) pe_str (nomark _)) (pw_and1 (pt_cmpR op_notIn_seq (pe_ix ix_tup (pe_fld (pv 2) rfl) pe_int (fun _ _ => rfl)) (pv 3) (by rfl))))) (pss_one ps_never) pss_nil)))), ?_⟩
    have ltl : tl.length = th.length := hth.len
    refine ⟨_, rfl, t, _, rfl, ht, for_enumT (K := K) (a := t) (xs := tl.map (·.2)) (fun i σ H2 => ∃ y z b, σ = [some (.ref t), y, z, b, none] ∧ Same H H2) ⟨none, none, none, rfl, Same.refl _⟩ (fun i σ H2 _ ⟨_, _, _, _, e⟩ => Same.seqT e ht) ?_ ?_⟩
    · rintro i x T' σ H2 hx nT ⟨y, z, b, rfl, s2⟩
      obtain ⟨n, kind, parts, a, rfl, e1, e2, th1⟩ := hth.get hx
      have hi : i < th.length := (List.getElem?_eq_some_iff.mp e2).1
      have s3 := s2.trans (same_new (o := .tup [.int (i : Nat), .ref a]) nT)
      have ht3 := Same.seqT s3 ht
      have eT : (upd H2 T' (.tup [.int (i : Nat), .ref a])) T' = some (.tup [.int (i : Nat), .ref a]) := upd_same
      have hth3 := hth.same s3
      generalize upd H2 T' (.tup [.int (i : Nat), .ref a]) = H3 at *
      refine ⟨T', _, rfl, SqT.of eT, rfl, .int (i : Nat), [.ref a], rfl, .ref a, [], rfl, rfl, ?_⟩
      refine ⟨_, rfl, _, rfl, i, rfl, t, _, rfl, ht3, ?_, fun c nc => ?_⟩
      · rintro ⟨_, h2⟩
        rw [HT.sIx_nat, List.length_map] at h2
        omega
      rw [cut_take]
      have s4 := s3.trans (same_new (o := .tup ((tl.map (·.2)).take i)) nc)
      have ec : SqT K (upd H3 c (.tup ((tl.map (·.2)).take i))) c ((tl.map (·.2)).take i) := SqT.of upd_same
      have hth4 := hth3.same (same_new (o := .tup ((tl.map (·.2)).take i)) nc)
      generalize upd H3 c (.tup ((tl.map (·.2)).take i)) = H4 at *
      refine ⟨c, rfl, ⟨_, ec⟩, fun D nD => ?_⟩
      refine lc_tup (K := K) (a := c) (xs := (tl.map (·.2)).take i) (fun m H5 => ∃ ys : List Str, H5 D = some (.lst (ys.map V.str)) ∧ ys.length ≤ m ∧ (∀ (j : Nat) (n k : Str) (ps : List Str), j < m → th[j]? = some (n, k, ps) → (k = "source" ∨ k = "field") → n ∈ ys) ∧ Same H4 H5)
        ⟨[], upd_same, Nat.le_refl _, fun j n k ps h => absurd h (by omega), same_new nD⟩ (fun m H5 _ ⟨_, _, _, _, s⟩ => Same.seqT s ec) (fun m x H5 hx5 hI => ?_) (fun H5 hI => ?_)
      · obtain ⟨ys, eD, el, hin, s5⟩ := hI
        rw [List.getElem?_take] at hx5
        split at hx5
        · rename_i hmi
          obtain ⟨n2, k2, p2, a2, rfl, f1, f2, th2⟩ := hth4.get hx5
          obtain ⟨dx, fs, t1, b1, b2, b3, b4, b5⟩ := th2.same s5
          refine ⟨rfl, ?_⟩
          refine ⟨_, rfl, a2, C, dx, fs, _, rfl, b1, T.cls, T.nk, b2, by show 2 ≤ sizeLine; decide, fun p np => ?_⟩
          have s6 := s5.trans (same_new (o := .tup [.str "source", .str "field"]) np)
          have b1' := same_new (o := .tup [.str "source", .str "field"]) np _ _ b1
          have eD' := same_new (o := .tup [.str "source", .str "field"]) np _ _ eD
          refine ⟨p, _, rfl, .inr (SqT.of upd_same), rfl, rfl, _, rfl, ?_⟩
          have ein : inV (.str k2) [V.str "source", V.str "field"] = decide (k2 ∈ [("source" : Str), "field"]) := inV_str (xs := [("source" : Str), "field"])
          show (if inV (.str k2) [V.str "source", V.str "field"] = true then _ else _)
          rw [ein]
          generalize upd H5 p (.tup [.str "source", .str "field"]) = H6 at *
          refine ite2 (fun hk => ?_) (fun hk => ?_)
          · refine ⟨_, rfl, a2, C, dx, fs, _, rfl, b1', T.cls, T.nn, b3, ys.map V.str, eD', small1000 (by rw [List.length_map]; omega), ys ++ [n2], by rw [upd_same, List.map_append]; rfl, by rw [List.length_append]; show ys.length + 1 ≤ m + 1; omega, fun j n k ps hj ej hk2 => ?_, fun b o e => ?_⟩
            · by_cases q : j = m
              · subst q
                rw [f2] at ej
                cases Option.some.inj ej
                exact List.mem_append_right _ List.mem_cons_self
              · exact List.mem_append_left _ (hin j n k ps (by omega) ej hk2)
            · rw [upd_ne (ne_of_none e nD)]; exact s6 b o e
          · refine ⟨ys, eD', by omega, fun j n k ps hj ej hk2 => ?_, s6⟩
            by_cases q : j = m
            · subst q
              rw [f2] at ej
              cases Option.some.inj ej
              exact absurd (decide_eq_true (by rcases hk2 with q | q <;> rw [q] <;> decide +kernel)) hk
            · exact hin j n k ps (by omega) ej hk2
        · cases hx5
      obtain ⟨ys, eD, el, hin, s5⟩ := hI
      rw [List.length_take, Nat.min_eq_left (by rw [List.length_map]; omega)] at hin
      have thi : ThingAt K H5 C a kind n parts := by
        obtain ⟨n', kind', parts', a', q1, q2, q3, q4⟩ := (hth4.same s5).get hx
        rw [e2] at q3
        cases Option.some.inj q3
        cases q1
        exact q4
      obtain ⟨dx, fs, t1, b1, b2, b3, b4, b5⟩ := thi
      refine ⟨_, rfl, a, C, dx, fs, _, rfl, b1, T.cls, T.nk, b2, rfl, _, rfl, ite2 (fun hk => ?_) (fun _ => ?_)⟩
      · have ek : kind = "field" := V.str.inj (of_decide_eq_true hk)
        subst ek
        obtain ⟨over, rest, rfl, j, k, ps, hj, ej, hk2⟩ := hf i n parts e2
        refine ⟨_, rfl, a, C, dx, fs, _, rfl, b1, T.cls, T.np, b4, t1, _, 0, _, rfl, rfl, b5, atI_nat (j := 0) rfl, _, rfl, D, _, rfl, .inl (SqL.of eD), rfl, flat_strs ys, _, rfl, ?_⟩
        show (if (!inV (.str over) (ys.map V.str)) = true then _ else _)
        rw [inV_str, decide_eq_true (hin j over k ps hj ej hk2)]
        exact iteF ⟨_, _, _, rfl, s4.trans s5⟩
      · exact ⟨_, _, _, rfl, s4.trans s5⟩
    · rintro σ H2 ⟨y, z, b, rfl, s2⟩
      exact kk H2 s2
end
def woF (t s : Addr) (log : V) : List (Str × V) := [("things", .ref t), ("_state", .ref s), ("_log", log)]
theorem woF_made (t s : Addr) (log : V) : putF "_log" log (putF "_state" (.ref s) (putF "things" (.ref t) [])) = woF t s log := rfl
theorem woF_t (t s : Addr) (log : V) : (woF t s log).lookup ("things" : Str) = some (.ref t) := rfl
theorem woF_s (t s : Addr) (log : V) : (woF t s log).lookup ("_state" : Str) = some (.ref s) := rfl
theorem woF_l (t s : Addr) (log : V) : (woF t s log).lookup ("_log" : Str) = some log := rfl
structure WoIn (K : PySem.W.Frag) (mg : Str → Option Value) (CW : Addr) : Prop where
  m : mg "World" = some (.ref CW)
  cls : Cls K CW
  nt : NoAttr K CW "things"
  ns : NoAttr K CW "_state"
  nl : NoAttr K CW "_log"
/-- a world by a model -/
structure Ws where
  th : Ths
  cs : List (Str × PyData)
  ft : Nat
  sd : Nat
  sr : Nat
/-- the state at s, the dict of its contents at ct; L: what may change -/
structure StAt (K : PySem.W.Frag) (L : List Addr) (H : Hp) (C CS s ct : Addr) (W : Ws) : Prop where
  sL : s ∈ L
  cL : ct ∈ L
  ex : ∃ (ds bn : Addr) (tl l : List (Str × V)), H s = some (.ins CS ds (stF bn ct W.ft W.sd W.sr)) ∧ mask L H bn = some (.dK (kvs tl)) ∧ ThL K (mask L H) C tl W.th ∧ H ct = some (.dK (kvs l)) ∧ CsR K (mask L H) l W.cs
/-- the world at w, unwatched -/
def WoAt (K : PySem.W.Frag) (L : List Addr) (H : Hp) (CW w s : Addr) (vs : List V) : Prop := ∃ dw t, mask L H w = some (.ins CW dw (woF t s .non)) ∧ SqT K (mask L H) t vs
def spWInit (K : PySem.W.Frag) (C CS CW : Addr) : Sp := fun vs H Q _ => ∃ (w dw : Addr) (L : List Addr) (tl : List (Str × V)) (th : Ths), vs = .ref w :: tl.map (·.2) ∧ H w = some (.ins CW dw []) ∧ w ∉ L ∧ Alive L H ∧ ThL K (mask L H) C tl th ∧ (names th).Nodup ∧ th.length ≤ 8 ∧ (∀ t ∈ th, t.2.1 ∈ kindsS) ∧ FieldsOk th ∧
  ∀ (H' : Hp) (s ct : Addr), (∀ b o, b ≠ w → H b = some o → H' b = some o) → H s = none → H ct = none → WoAt K (s :: ct :: L) H' CW w s (tl.map (·.2)) → StAt K (s :: ct :: L) H' C CS s ct ⟨th, firsts th, 0, 0, 0⟩ → Q .non H'
section
variable {P : Program} {w : World} {K : PySem.W.Frag} {mg : Str → Option Value} {base : Heap}
theorem scWI : FnScope ["self", "things", "thing"] ([("self" : Str)] ++ [("things" : Str)]) (defScope (wo 0)) := ⟨rfl, rfl, rfl, by decide +kernel, rfl, by decide +kernel, by decide +kernel⟩
theorem ok_winit {f fU fF fS C CS CW : Addr} {fd fdU fdF fdS : FuncData} {tk : Tok} (F : Fun K "__init__" "World.__init__" (wo 0) f fd) (T : ThIn K mg C) (S : StIn K mg CS) (W : WoIn K mg CW) (MS : Mk K CS fS) (GS : FnOk P w K mg base CX0 2 fS fdS ["self", "things"] (spSInit K C CS)) (bS : Binds K fdS ["self", "things"] [])
    (GU : FnOk P w K mg base CX0 3 fU fdU ["names"] spUnlikeL) (mU : mg "check_unlike" = some (.ref fU)) (kU : PySem.W.keepIn K (.ref fU) = true) (bU : Binds K fdU ["names"] [])
    (GF : FnOk P w K mg base CX0 3 fF fdF ["things"] (spFields K C)) (mF : mg "_check_fields" = some (.ref fF)) (kF : PySem.W.keepIn K (.ref fF) = true) (bF : Binds K fdF ["things"] []) (mlen : mg "len" = none) (mM : mg "MOST_THINGS" = some (.int 8 tk)) : FnR P w K mg base CX0 4 f (spWInit K C CS CW) := by
  obtain ⟨oc, od, kV, doc, pm, an, cdv, ct, osl, rfl, lk, hcd⟩ := F.ex
  have G := StX.fn_star (CX := CX0) (P := P) (w := w) (mg := mg) (base := base) (k := 3) (ps := ["self"]) (pv := "things") (N := ["self", "things", "thing"]) (sp := fun vs H Q _ => ∃ (w dw t : Addr) (L : List Addr) (tl : List (Str × V)) (th : Ths), vs = [.ref w, .ref t] ∧ H w = some (.ins CW dw []) ∧ SqT K (mask L H) t (tl.map (·.2)) ∧ w ∉ L ∧ Alive L H ∧ ThL K (mask L H) C tl th ∧ (names th).Nodup ∧ th.length ≤ 8 ∧ (∀ t ∈ th, t.2.1 ∈ kindsS) ∧ FieldsOk th ∧
      ∀ (H' : Hp) (s ct : Addr), (∀ b o, b ≠ w → H b = some o → H' b = some o) → H s = none → H ct = none → WoAt K (s :: ct :: L) H' CW w s (tl.map (·.2)) → StAt K (s :: ct :: L) H' C CS s ct ⟨th, firsts th, 0, 0, 0⟩ → Q .non H') lk hcd scWI StX.cxUp_none (StX.bind_star1 (B := fun us => bindArgs (PySem.W.fnOf "__init__" "World.__init__" (defArgs (wo 0)) (defBody (wo 0)) (defScope (wo 0)) .none kV doc pm an cdv ct) ⟨us, []⟩) (p1 := "self") (pv := "things") (fun a => rfl) (fun a r rs => rfl)) ?_
  · refine G.imp fun vs H Q E h => ?_
    obtain ⟨w, dw, L, tl, th, rfl, hw, hwL, al, hth, hnd, hl, hk, hf, kk⟩ := h
    refine ⟨[.ref w], tl.map (·.2), rfl, rfl, by rw [List.length_map, hth.len]; exact len1000 (by omega), fun p np => ⟨w, dw, p, L, tl, th, rfl, ?_, SqT.of (mask_upd (al.not np)), hwL, al.same (same_new np), hth.same (mask_same (same_new np)), hnd, hl, hk, hf, fun H' s ct h1 h2 h3 h4 h5 => kk H' s ct (fun b o nb e => h1 b o nb (same_new np _ _ e)) ?_ ?_ h4 h5⟩⟩
    · exact same_new np _ _ hw
    · by_cases q : s = p
      · rw [q] at h2; rw [upd_same] at h2; cases h2
      · rw [upd_ne q] at h2; exact h2
    · by_cases q : ct = p
      · rw [q] at h3; rw [upd_same] at h3; cases h3
      · rw [upd_ne q] at h3; exact h3
  · intro A outer s0 H vs Q E hr h
    obtain ⟨w, dw, t, L, tl, th, rfl, hw, htM, hwL, al, hthM, hnd, hl, hk, hf, kk⟩ := h
    have hr3 : Room 3 _ := hr
    refine ⟨_, pss_cons (ps_expr (pe_call GU hr (by rfl) mU kU bU .nil pass0 (pa_cons (pe_lc (own := [("thing", 2)]) (g := gName 2) (tt := tYes) (te := tFld K (tVar 2) "name") rfl scWI.nd (pi_tup (pv 1)) (blkOk_by (N := ["self", "things", "thing"]) (sc := defScope (wo 0)) (by decide +kernel))
          (fun _ _ _ _ _ => pg_name (i := 2) scWI.nd rfl (.inl rfl)) (fun _ _ _ _ _ => pts_nil) (fun _ _ _ _ _ => pe_fld (pv 2) rfl)) pa_nil)))
      (pss_cons (ps_expr (pe_call GF hr (by rfl) mF kF bF .nil pass0 (pa_cons (pv 1) pa_nil)))
      (pss_cons (ps_if (pt_cmpR op_gt (pe_callB call_len_seq (by rfl) mlen PySem.boot_len (pa_cons (pv 1) pa_nil)) (pe_glob (v := .int 8) rfl mM ⟨tk, rfl⟩) (nomark _)) (pss_one ps_never) pss_nil)
      (pss_cons (ps_fld (pv 0) (pv 1) rfl)
      (pss_cons (ps_fld (pv 0) (pe_make MS GS hr (by rfl) S.m bS .nil pass0 (pa_cons (pv 1) pa_nil)) rfl)
      (pss_one (ps_fld (pv 0) pe_non rfl)))))), ?_⟩
    have ht : SqT K H t (tl.map (·.2)) := Same.seqT (mask_sub _ _) htM
    have hth : ThL K H C tl th := hthM.same (mask_sub _ _)
    have ltl : tl.length = th.length := hth.len
    have lt : (tl.map (·.2)).length = th.length := by rw [List.length_map, ltl]
    refine ⟨_, rfl, t, rfl, ⟨_, ht⟩, fun D nD => ?_⟩
    refine lc_tup (K := K) (a := t) (xs := tl.map (·.2)) (fun i H2 => H2 D = some (.lst (((names th).take i).map V.str)) ∧ Same H H2) ⟨upd_same, same_new nD⟩ (fun i H2 _ hI => Same.seqT hI.2 ht) (fun i x H2 hx hI => ?_) (fun H2 hI => ?_)
    · obtain ⟨eD, s2⟩ := hI
      obtain ⟨n, kind, parts, a, rfl, e1, e2, th1⟩ := hth.get hx
      obtain ⟨dx, fs, t1, b1, b2, b3, b4, b5⟩ := th1.same s2
      have hi : i < th.length := (List.getElem?_eq_some_iff.mp e2).1
      refine ⟨rfl, ?_⟩
      refine ⟨_, rfl, a, C, dx, fs, _, rfl, b1, T.cls, T.nn, b3, _, eD, small1000 (by rw [List.length_map, List.length_take]; omega), ?_, fun b o e => ?_⟩
      · have en : (names th)[i]? = some n := by
          unfold names
          rw [List.getElem?_map, e2]
          rfl
        rw [upd_same, List.take_add_one, en, List.map_append]
        rfl
      · rw [upd_ne (ne_of_none e nD)]; exact s2 b o e
    obtain ⟨eD, s2⟩ := hI
    have ln : (names th).length = th.length := List.length_map _
    rw [lt, ← ln, List.take_length] at eD
    refine ⟨D, names th, rfl, eD, hnd, by rw [ln]; omega, fun H3 s3 => ?_⟩
    refine ⟨_, rfl, t, tl, th, rfl, Same.seqT (s2.trans s3) ht, hth.same (s2.trans s3), hf, by omega, fun H4 s4 => ?_⟩
    have s14 := (s2.trans s3).trans s4
    refine ⟨_, rfl, t, _, rfl, .inr (Same.seqT s14 ht), _, _, rfl, rfl, _, rfl, ?_⟩
    rw [decide_eq_false (by rw [lt]; omega)]
    refine iteF ?_
    have hw4 := s14 _ _ hw
    refine ⟨_, rfl, _, rfl, w, CW, dw, [], rfl, hw4, W.cls, W.nt, by decide, ?_⟩
    -- self._state = State(things)
    have c5 : Chg [w] H (upd H4 w (.ins CW dw (putF "things" (.ref t) []))) := (Chg.of_same s14).trans (.upd List.mem_cons_self)
    have hw5 : (upd H4 w (.ins CW dw (putF "things" (.ref t) []))) w = some (.ins CW dw (putF "things" (.ref t) [])) := upd_same
    generalize upd H4 w (.ins CW dw (putF "things" (.ref t) [])) = H5 at *
    -- what stays: behind the mask of w and L
    have hwm : mask L H w = some (.ins CW dw []) := by rw [mask_out hwL]; exact hw
    have htW : SqT K (mask [w] (mask L H)) t (tl.map (·.2)) := seqT_mask htM fun b hb => by rw [List.mem_singleton.mp hb]; exact rd_ins hwm
    have hthW : ThL K (mask [w] (mask L H)) C tl th := hthM.maskS hwm
    have alW : Alive L H5 := fun b hb => by
      obtain ⟨o, e⟩ := al b hb
      exact ⟨o, c5 b o (fun m => hwL (by rw [← List.mem_singleton.mp m]; exact hb)) e⟩
    have sub5 : Same (mask [w] (mask L H)) H5 := fun b o e => by
      by_cases q : b ∈ [w]
      · rw [mask_in q] at e; cases e
      · rw [mask_out q] at e
        exact c5 b o q (mask_sub _ _ _ _ e)
    refine ⟨_, rfl, fun s ds ns nds nes => ?_⟩
    have s6 : Same H5 (upd (upd H5 ds (.own s)) s (.ins CS ds [])) := fun b o e => by
      rw [upd_ne (ne_of_none e ns), upd_ne (ne_of_none e nds)]; exact e
    refine ⟨s, ds, t, tl, th, rfl, upd_same, Same.seqT (sub5.trans s6) htW, hthW.same (sub5.trans s6), hnd, by omega, hk, fun H7 bn ct l k7 nbn nct nbc e7s e7b e7c hcs => ⟨rfl, ?_⟩⟩
    have nws : w ≠ s := ne_of_none hw5 ns
    have keep7 : ∀ b o, H5 b = some o → H7 b = some o := fun b o e => k7 b o (ne_of_none e ns) (s6 b o e)
    have hw7 := keep7 _ _ hw5
    refine ⟨_, rfl, w, CW, dw, _, rfl, hw7, W.cls, W.ns, by show 1 < 1000; decide, ?_⟩
    refine ⟨_, rfl, w, CW, dw, _, rfl, upd_same, W.cls, W.nl, by show 2 < 1000; decide, ?_⟩
    have free6 : ∀ {b : Addr}, (upd (upd H5 ds (.own s)) s (.ins CS ds [])) b = none → H5 b = none := fun {b} e => by
      by_cases q1 : b = s
      · rw [q1, upd_same] at e; cases e
      · rw [upd_ne q1] at e
        by_cases q2 : b = ds
        · rw [q2, upd_same] at e; cases e
        · rw [upd_ne q2] at e; exact e
    have nbn5 := free6 nbn
    have nct5 := free6 nct
    have nwc : w ≠ ct := ne_of_none hw5 nct5
    have nwb : w ≠ bn := ne_of_none hw5 nbn5
    have nsb : s ≠ bn := fun q => by rw [q, e7b] at e7s; cases e7s
    have nsc : s ≠ ct := fun q => by rw [q, e7c] at e7s; cases e7s
    have freeH : ∀ {b : Addr}, b ≠ w → H5 b = none → H b = none := fun {b} nb e => c5.free e fun m => nb (List.mem_singleton.mp m)
    have bnL : bn ∉ s :: ct :: L := fun m => by
      rcases List.mem_cons.mp m with q | m
      · exact nsb q.symm
      · rcases List.mem_cons.mp m with q | m
        · exact nbc q
        · exact alW.not nbn5 m
    have wL : w ∉ s :: ct :: L := fun m => by
      rcases List.mem_cons.mp m with q | m
      · exact nws q
      · rcases List.mem_cons.mp m with q | m
        · exact nwc q
        · exact hwL m
    -- the last heap
    have fin : ∀ {b : Addr} {o : HO}, b ≠ w → H7 b = some o → (upd (upd H7 w (.ins CW dw (putF "_state" (.ref s) (putF "things" (.ref t) [])))) w (.ins CW dw (putF "_log" .non (putF "_state" (.ref s) (putF "things" (.ref t) []))))) b = some o := fun {b o} nb e => by
      rw [upd_ne nb, upd_ne nb]; exact e
    have hwF : (upd (upd H7 w (.ins CW dw (putF "_state" (.ref s) (putF "things" (.ref t) [])))) w (.ins CW dw (putF "_log" .non (putF "_state" (.ref s) (putF "things" (.ref t) []))))) w = some (.ins CW dw (woF t s .non)) := by rw [upd_same, woF_made]
    generalize upd (upd H7 w (.ins CW dw (putF "_state" (.ref s) (putF "things" (.ref t) [])))) w (.ins CW dw (putF "_log" .non (putF "_state" (.ref s) (putF "things" (.ref t) [])))) = H9 at *
    have sub9 : Same (mask [w] (mask L H)) (mask (s :: ct :: L) H9) := fun b o e => by
      have e5 := sub5 b o e
      have nbw : b ≠ w := fun q => by rw [q, mask_in List.mem_cons_self] at e; cases e
      have nbL : b ∉ L := fun m => by
        rw [mask_out fun m2 => nbw (List.mem_singleton.mp m2), mask_in m] at e; cases e
      rw [mask_out fun m => by
        rcases List.mem_cons.mp m with q | m
        · exact ne_of_none e5 ns q
        · rcases List.mem_cons.mp m with q | m
          · exact ne_of_none e5 nct5 q
          · exact nbL m]
      exact fin nbw (keep7 b o e5)
    refine kk H9 s ct (fun b o nb e => fin nb (keep7 b o (c5 b o (fun m => nb (List.mem_singleton.mp m)) e))) (freeH nws.symm ns) (freeH nwc.symm nct5) ⟨dw, t, by rw [mask_out wL]; exact hwF, Same.seqT sub9 htW⟩ ⟨List.mem_cons_self, List.mem_cons_of_mem _ List.mem_cons_self, ds, bn, tl, l, fin nws.symm e7s, by rw [mask_out bnL]; exact fin nwb.symm e7b, hthW.same sub9, fin nwc.symm e7c, hcs _⟩
end
/-! ### what actions see of a state -/
section
variable {K : PySem.W.Frag} {L : List Addr} {H H' : Hp} {C CS s ct : Addr} {W : Ws}
theorem StAt.keep (h : StAt K L H C CS s ct W) (c : Same (mask L H) (mask L H')) (es : ∀ o, H s = some o → H' s = some o) (ec : ∀ o, H ct = some o → H' ct = some o) : StAt K L H' C CS s ct W := by
  obtain ⟨sL, cL, ds, bn, tl, l, h1, h2, h3, h4, h5⟩ := h
  exact ⟨sL, cL, ds, bn, tl, l, es _ h1, c _ _ h2, h3.same c, ec _ h4, h5.same c⟩
theorem StAt.same (h : StAt K L H C CS s ct W) (c : Same H H') : StAt K L H' C CS s ct W := h.keep (mask_same c) (fun o e => c _ _ e) fun o e => c _ _ e
theorem StAt.pool {p q : Addr} {n : Nat} (h : StAt K L H C CS s ct W) (P : PoolAt H p q n) (k : Keeps p q H H') (hp : p ∈ L) (hq : q ∈ L) : StAt K L H' C CS s ct W := by
  obtain ⟨_, cs, b, c, e1, e2, _⟩ := P
  have h' := h
  obtain ⟨sL, cL, ds, bn, tl, l, h1, h2, h3, h4, h5⟩ := h'
  have n1 : s ≠ p := fun z => by rw [z, e1] at h1; cases h1
  have n2 : s ≠ q := fun z => by rw [z, e2] at h1; cases h1
  have n3 : ct ≠ p := fun z => by rw [z, e1] at h4; cases h4
  have n4 : ct ≠ q := fun z => by rw [z, e2] at h4; cases h4
  exact h.keep (k.maskL hp hq) (fun o e => k _ _ n1 n2 e) fun o e => k _ _ n3 n4 e
theorem StAt.ne (h : StAt K L H C CS s ct W) : s ≠ ct := by
  obtain ⟨sL, cL, ds, bn, tl, l, h1, h2, h3, h4, h5⟩ := h
  intro z
  rw [z, h4] at h1
  cases h1
/-- the contents, read -/
theorem StAt.getQ {x : Str} {d : PyData} (h : StAt K L H C CS s ct W) (e : look W.cs x = some d) : ∃ v, DGet H ct (.str x) (some v) ∧ Dq K (mask L H) v d := by
  obtain ⟨sL, cL, ds, bn, tl, l, h1, h2, h3, h4, h5⟩ := h
  obtain ⟨v, e1, hd⟩ := h5.at e
  refine ⟨v, ?_, hd⟩
  have := DGet.k (k := Sum.inr x) h4
  rw [valV_kvs, e1] at this
  exact this
theorem StAt.get {x : Str} {d : PyData} (h : StAt K L H C CS s ct W) (e : look W.cs x = some d) : ∃ v, DGet H ct (.str x) (some v) ∧ Dp K (mask L H) v d := let ⟨v, e1, e2⟩ := h.getQ e; ⟨v, e1, e2.dp⟩
/-- one content, stored -/
theorem StAt.putQ {x : Str} {v : V} {d : PyData} (h : StAt K L H C CS s ct W) (hl : W.cs.length ≤ 100) (hd : Dq K (mask L H) v d) : ∃ H4, DPut H ct (.str x) v H4 ∧ (∃ o, H4 = upd H ct o) ∧ StAt K L H4 C CS s ct { W with cs := put W.cs x d } := by
  have hne := h.ne
  obtain ⟨sL, cL, ds, bn, tl, l, h1, h2, h3, h4, h5⟩ := h
  refine ⟨_, DPut.k (k := Sum.inr x) h4 (small1000 (by rw [kvs_len, h5.len]; omega)), ⟨_, rfl⟩, sL, cL, ds, bn, tl, Qp.put l x v, ?_, ?_, ?_, ?_, ?_⟩
  · rw [upd_ne hne]; exact h1
  · exact mask_at cL _ _ h2
  · exact h3.same (mask_at cL)
  · rw [upd_same, putK_kvs]
  · exact (h5.same (mask_at cL)).put (hd |> dq_same (mask_at cL))
theorem StAt.put {x : Str} {v : V} {d : PyData} (h : StAt K L H C CS s ct W) (hl : W.cs.length ≤ 100) (hd : Dp K (mask L H) v d) (ht : isTab d = false := by rfl) : ∃ H4, DPut H ct (.str x) v H4 ∧ (∃ o, H4 = upd H ct o) ∧ StAt K L H4 C CS s ct { W with cs := put W.cs x d } := h.putQ hl (dq_of hd ht)
theorem StAt.self (h : StAt K L H C CS s ct W) : ∃ ds bn, H s = some (.ins CS ds (stF bn ct W.ft W.sd W.sr)) := by
  obtain ⟨sL, cL, ds, bn, tl, l, h1, h2, h3, h4, h5⟩ := h
  exact ⟨ds, bn, h1⟩
/-- counters stored -/
theorem StAt.count {ds bn : Addr} {f sd sr : Nat} (h : StAt K L H C CS s ct W) (e : H s = some (.ins CS ds (stF bn ct W.ft W.sd W.sr))) : StAt K L (upd H s (.ins CS ds (stF bn ct f sd sr))) C CS s ct { W with ft := f, sd := sd, sr := sr } := by
  have hne := h.ne
  obtain ⟨sL, cL, ds', bn', tl, l, h1, h2, h3, h4, h5⟩ := h
  rw [h1] at e
  injection e with e
  injection e with e1 e2 e3
  injection e3 with e4 _
  injection e4 with _ e5
  injection e5 with e5
  subst e2 e5
  exact ⟨sL, cL, ds', bn', tl, l, upd_same, mask_at sL _ _ h2, h3.same (mask_at sL), by rw [upd_ne hne.symm]; exact h4, h5.same (mask_at sL)⟩
end
/-- what an action changes -/
theorem chg_ct {s ct : Addr} {H : Hp} {o : HO} : Chg [s, ct] H (upd H ct o) := .upd (List.mem_cons_of_mem _ List.mem_cons_self)
theorem chg_s {s ct : Addr} {H : Hp} {o : HO} : Chg [s, ct] H (upd H s o) := .upd List.mem_cons_self
theorem Chg.inL {s ct : Addr} {L : List Addr} {H H' : Hp} (c : Chg [s, ct] H H') (sL : s ∈ L) (cL : ct ∈ L) : Chg L H H' := c.more fun x m => by
  rcases List.mem_cons.mp m with rfl | m
  · exact sL
  · rw [List.mem_singleton.mp m]; exact cL
/-- an action's promise: from a world's model, what it is and gives next, and what it returns -/
def spAct (K : PySem.W.Frag) (C CS : Addr) (R : Ws → List PyData → Ws → PyData → Prop) : Sp := fun vs H Q _ => ∃ (L : List Addr) (s ct : Addr) (W W' : Ws) (args : List V) (ds : List PyData) (d : PyData), vs = .ref s :: args ∧ StAt K L H C CS s ct W ∧ W.cs.length ≤ 100 ∧ Alive L H ∧ DpAll K (mask L H) args ds ∧ R W ds W' d ∧
  ∀ v H', Chg [s, ct] H H' → StAt K L H' C CS s ct W' → Dp K (mask L H') v d → Q v H'
def pair (a b : Int) : PyData := .tuple [.int a, .int b]
def rRoll : Ws → List PyData → Ws → PyData → Prop := fun W ds W' d => ∃ x a b, ds = [.str x] ∧ look W.cs x = some (pair a b) ∧ W' = { W with cs := put W.cs x (pair a (b + 1)) } ∧ d = pair a b
def rSeed : Ws → List PyData → Ws → PyData → Prop := fun W ds W' d => ∃ x, ds = [.str x] ∧ W' = { W with cs := put W.cs x (pair (W.sd + 1) 0), sd := W.sd + 1 } ∧ d = .none
theorem dp_pair {K : PySem.W.Frag} {M : Hp} {v : V} {a b : Int} (h : Dp K M v (pair a b)) : ∃ t, v = .ref t ∧ SqT K M t [.int a, .int b] := by
  obtain ⟨t, xs, rfl, ht, hx⟩ := dp_tup h
  obtain ⟨v1, r, rfl, h1, hx⟩ := dpAll_cons hx
  obtain ⟨v2, r, rfl, h2, hx⟩ := dpAll_cons hx
  obtain rfl := dpAll_nil hx
  cases h1
  cases h2
  exact ⟨t, rfl, ht⟩
/-- a new pair -/
theorem new_pair {K : PySem.W.Frag} {L : List Addr} {H : Hp} {t : Addr} {a b : Int} (al : Alive L H) (nt : H t = none) : Dp K (mask L (upd H t (.tup [.int a, .int b]))) (.ref t) (pair a b) :=
  .tup (SqT.of (mask_upd (al.not nt))) (.cons (.int a) (.cons (.int b) .nil))
theorem Alive.upd {l : List Addr} {H : Hp} {a : Addr} {o : HO} (h : Alive l H) : Alive l (L2.upd H a o) := fun x m => by
  by_cases q : x = a
  · exact ⟨o, by rw [q, upd_same]⟩
  · rw [upd_ne q]; exact h x m
theorem args1 {K : PySem.W.Frag} {M : Hp} {args : List V} {x : Str} (h : DpAll K M args [.str x]) : args = [.str x] := by
  obtain ⟨v, r, rfl, h1, h2⟩ := dpAll_cons h
  obtain rfl := dpAll_nil h2
  cases h1
  rfl
/-! ### flags, slots -/
def rLift : Ws → List PyData → Ws → PyData → Prop := fun W ds W' d => ∃ x, ds = [.str x] ∧ W' = { W with cs := put W.cs x (.bool true) } ∧ d = .none
def rRead : Ws → List PyData → Ws → PyData → Prop := fun W ds W' d => ∃ x, ds = [.str x] ∧ look W.cs x = some d ∧ W' = { W with cs := put W.cs x (.bool false) }
def rValue : Ws → List PyData → Ws → PyData → Prop := fun W ds W' d => ∃ x, ds = [.str x] ∧ look W.cs x = some d ∧ W' = W
def rKeep : Ws → List PyData → Ws → PyData → Prop := fun W ds W' d => ∃ x, ds = [.str x] ∧ W' = { W with cs := put W.cs x (.int ((W.sr + 1 : Nat) : Int)), sr := W.sr + 1 } ∧ d = .none
def rCopy : Ws → List PyData → Ws → PyData → Prop := fun W ds W' d => ∃ x y d0, ds = [.str x, .str y] ∧ look W.cs y = some d0 ∧ W' = { W with cs := put W.cs x d0 } ∧ d = .none
def isSomeD : PyData → Bool
  | .none => false
  | _ => true
def rBound : Ws → List PyData → Ws → PyData → Prop := fun W ds W' d => ∃ x d0, ds = [.str x] ∧ look W.cs x = some d0 ∧ W' = W ∧ d = .bool (isSomeD d0)
def rMark : Ws → List PyData → Ws → PyData → Prop := fun W ds W' d => ∃ x m, ds = [.str x, .str m] ∧ W' = { W with cs := put W.cs x (.str m) } ∧ d = .none
theorem args2 {K : PySem.W.Frag} {M : Hp} {args : List V} {x y : Str} (h : DpAll K M args [.str x, .str y]) : args = [.str x, .str y] := by
  obtain ⟨v, r, rfl, h1, h2⟩ := dpAll_cons h
  obtain rfl := args1 h2
  cases h1
  rfl
/-- new_serial() -/
def spSerial (K : PySem.W.Frag) (C CS : Addr) : Sp := fun vs H Q _ => ∃ (L : List Addr) (s ct : Addr) (W : Ws), vs = [.ref s] ∧ StAt K L H C CS s ct W ∧ Alive L H ∧ ∀ H', Chg [s, ct] H H' → StAt K L H' C CS s ct { W with sr := W.sr + 1 } → Alive L H' → Q (.int ((W.sr + 1 : Nat) : Int)) H'
/-! ### tables -/
def entV (es : List (Str × Int)) : List (Str × V) := es.map fun e => (e.1, V.int e.2)
def entD (e : Str × Int) : PyData := .tuple [.str e.1, .int e.2]
def TbD (es : List (Str × Int)) : PyData := .tuple (es.map entD)
def setD (es : List (Str × Int)) (k : Str) (v : Int) : List (Str × Int) := if (es.any fun p => decide (p.1 = k)) = true then es else es ++ [(k, v)]
def dropE (es : List (Str × Int)) (k : Str) : List (Str × Int) := es.filter fun e => decide (e.1 ≠ k)
def loadE : Nat → List Str → List (Str × Int)
  | _, [] => []
  | n, k :: r => (k, ((n + 1 : Nat) : Int)) :: loadE (n + 1) r
theorem loadE_snoc (k : Str) : ∀ (n : Nat) (l : List Str), loadE n (l ++ [k]) = loadE n l ++ [(k, ((n + l.length + 1 : Nat) : Int))]
  | n, [] => rfl
  | n, x :: r => by
    show (x, _) :: loadE (n + 1) (r ++ [k]) = (x, _) :: (loadE (n + 1) r ++ _)
    rw [loadE_snoc k (n + 1) r, List.length_cons]
    have : n + 1 + r.length + 1 = n + (r.length + 1) + 1 := by omega
    rw [this]
theorem loadE_len : ∀ (n : Nat) (l : List Str), (loadE n l).length = l.length
  | _, [] => rfl
  | n, x :: r => by
    show (loadE (n + 1) r).length + 1 = r.length + 1
    rw [loadE_len]
theorem look_entV (k : Str) : ∀ es : List (Str × Int), look (entV es) k = (look es k).map V.int
  | [] => rfl
  | e :: r => by
    have h : entV (e :: r) = (e.1, V.int e.2) :: entV r := rfl
    rw [h]
    by_cases q : e.1 = k
    · rw [look_pos (p := (e.1, V.int e.2)) q, look_pos q]; rfl
    · rw [look_neg (p := (e.1, V.int e.2)) q, look_neg q, look_entV k r]
theorem any_entV (k : Str) (es : List (Str × Int)) : ((entV es).any fun p => decide (p.1 = k)) = es.any fun p => decide (p.1 = k) := by
  unfold entV
  rw [List.any_map]; rfl
theorem put_entV (k : Str) (v : Int) (es : List (Str × Int)) : put (entV es) k (.int v) = entV (put es k v) := by
  unfold put
  rw [any_entV]
  split
  · unfold entV
    rw [List.map_map, List.map_map]
    refine List.map_congr_left fun e _ => ?_
    show (if e.1 = k then (e.1, V.int v) else (e.1, V.int e.2)) = _
    by_cases h : e.1 = k
    · rw [if_pos h]
      show _ = ((if e.1 = k then (e.1, v) else e).1, V.int (if e.1 = k then (e.1, v) else e).2)
      rw [if_pos h]
    · rw [if_neg h]
      show _ = ((if e.1 = k then (e.1, v) else e).1, V.int (if e.1 = k then (e.1, v) else e).2)
      rw [if_neg h]
  · unfold entV
    rw [List.map_append]; rfl
theorem look_any {α : Type} (k : Str) : ∀ l : List (Str × α), (look l k).isSome = l.any fun p => decide (p.1 = k)
  | [] => rfl
  | p :: r => by
    rw [List.any_cons]
    by_cases q : p.1 = k
    · rw [look_pos q, decide_eq_true q]; rfl
    · rw [look_neg q, decide_eq_false q, Bool.false_or]
      exact look_any k r
theorem setD_some {es : List (Str × Int)} {k : Str} {v w : Int} (h : look es k = some w) : setD es k v = es := by
  unfold setD
  rw [← look_any, h]; rfl
theorem setD_none {es : List (Str × Int)} {k : Str} {v : Int} (h : look es k = none) : setD es k v = es ++ [(k, v)] ∧ put es k v = es ++ [(k, v)] := by
  unfold setD put
  rw [← look_any, h]
  exact ⟨rfl, rfl⟩
theorem names_entV (es : List (Str × Int)) : names (entV es) = names es := by
  unfold names entV
  rw [List.map_map]; rfl
theorem mergeK_kvs : ∀ {a b : List (Str × V)}, (names (a ++ b)).Nodup → mergeK (kvs a) (kvs b) = kvs (a ++ b)
  | a, [], _ => by rw [List.append_nil]; rfl
  | a, p :: r, h => by
    have h2 : (names ((a ++ [p]) ++ r)).Nodup := by rw [List.append_assoc]; exact h
    have hn : p.1 ∉ names a := by
      unfold names at h ⊢
      rw [List.map_append, List.map_cons] at h
      have := (List.nodup_append.mp h).2.2
      exact fun m => this _ m _ List.mem_cons_self rfl
    show mergeK (putK (kvs a) (Sum.inr p.1) p.2) (kvs r) = _
    rw [putK_kvs, put_new hn, mergeK_kvs h2, List.append_assoc]; rfl
theorem dropK_kvs (k : Str) (es : List (Str × Int)) : dropK (kvs (entV es)) (Sum.inr k) = kvs (entV (dropE es k)) := by
  unfold dropK kvs entV dropE
  rw [List.map_map, List.map_map, List.filter_map]
  congr 1
  refine List.filter_congr fun e _ => ?_
  show decide ((Sum.inr e.1 : Key) ≠ Sum.inr k) = decide (e.1 ≠ k)
  exact decide_eq_decide.mpr ⟨fun h q => h (by rw [q]), fun h q => h (Sum.inr.inj q)⟩
theorem dropE_none {es : List (Str × Int)} {k : Str} (h : look es k = none) : dropE es k = es := by
  unfold dropE
  rw [List.filter_eq_self]
  intro e he
  refine decide_eq_true fun q => ?_
  have := look_any k es
  rw [h] at this
  have h2 : (es.any fun p => decide (p.1 = k)) = true := List.any_eq_true.mpr ⟨e, he, decide_eq_true q⟩
  rw [h2] at this
  cases this
theorem isTab_TbD (es : List (Str × Int)) : isTab (TbD es) = true := by
  cases es <;> rfl
/-- a table's content, opened -/
theorem tab_open {K : PySem.W.Frag} {M : Hp} {v : V} {es : List (Str × Int)} (h : Dq K M v (TbD es)) : ∃ a ps, v = .ref a ∧ SqT K M a (ps.map V.ref) ∧ PlainT K M a ∧ Paired (fun p kv => SqT K M p [kV kv.1, kv.2]) ps (kvs (entV es)) := by
  obtain ⟨a, rfl, hp⟩ := h.tab (isTab_TbD es)
  obtain ⟨a', xs, e, ht, hx⟩ := dp_tup h.dp
  cases e
  have go : ∀ {es : List (Str × Int)} {xs : List V}, DpAll K M xs (es.map entD) → ∃ ps : List Addr, xs = ps.map V.ref ∧ Paired (fun p kv => SqT K M p [kV kv.1, kv.2]) ps (kvs (entV es)) := by
    intro es
    induction es with
    | nil =>
      intro xs h
      obtain rfl := dpAll_nil h
      exact ⟨[], rfl, .nil⟩
    | cons e r ih =>
      intro xs h
      obtain ⟨v, xs, rfl, h1, h2⟩ := dpAll_cons h
      obtain ⟨ps, rfl, hps⟩ := ih h2
      obtain ⟨t, ys, rfl, ht, hy⟩ := dp_tup h1
      obtain ⟨y1, ys, rfl, g1, hy⟩ := dpAll_cons hy
      obtain ⟨y2, ys, rfl, g2, hy⟩ := dpAll_cons hy
      obtain rfl := dpAll_nil hy
      cases g1
      cases g2
      exact ⟨t :: ps, rfl, .cons ht hps⟩
  obtain ⟨ps, rfl, hps⟩ := go hx
  exact ⟨a, ps, rfl, ht, hp, hps⟩
/-- a table's content, made -/
theorem tab_dq {K : PySem.W.Frag} {L : List Addr} {H' : Hp} {p : Addr} {ts : List Addr} {es : List (Str × Int)} (np : p ∉ L) (nts : ∀ t ∈ ts, t ∉ L) (ep : H' p = some (.frz (tupO ts) (.tup (ts.map V.ref)))) (hp : Paired (fun (t : Addr) (q : Key × V) => H' t = some (.tup [kV q.1, q.2])) ts (kvs (entV es))) : Dq K (mask L H') (.ref p) (TbD es) := by
  have go : ∀ {ts : List Addr} {es : List (Str × Int)}, (∀ t ∈ ts, t ∉ L) → Paired (fun (t : Addr) (q : Key × V) => H' t = some (.tup [kV q.1, q.2])) ts (kvs (entV es)) → DpAll K (mask L H') (ts.map V.ref) (es.map entD) := by
    intro ts es
    induction es generalizing ts with
    | nil => intro _ h; cases h; exact .nil
    | cons e r ih =>
      intro hn h
      cases h with
      | cons h t =>
        rename_i t0 ts
        refine .cons (.tup (SqT.of ?_) (.cons (.str _) (.cons (.int _) .nil))) (ih (fun t ht => hn t (List.mem_cons_of_mem _ ht)) t)
        rw [mask_out (hn _ List.mem_cons_self)]
        exact h
  have em : mask L H' p = some (.frz (tupO ts) (.tup (ts.map V.ref))) := by rw [mask_out np]; exact ep
  exact ⟨.tup (.inl (.inr ⟨_, em⟩)) (go nts hp), fun _ => ⟨p, rfl, .inl ⟨_, _, em, rfl, rfl⟩⟩⟩
def TabOk (es : List (Str × Int)) : Prop := (names es).Nodup ∧ es.length ≤ 50
def rGet : Ws → List PyData → Ws → PyData → Prop := fun W ds W' d => ∃ x k es, ds = [.str x, .str k] ∧ look W.cs x = some (TbD es) ∧ TabOk es ∧ W' = { W with cs := put W.cs x (TbD (setD es k 0)) } ∧ d = .int ((look es k).getD 0)
def rPeek : Ws → List PyData → Ws → PyData → Prop := fun W ds W' d => ∃ x k es, ds = [.str x, .str k] ∧ look W.cs x = some (TbD es) ∧ TabOk es ∧ W' = W ∧ d = (match look es k with | some v => .int v | none => .none)
def rHas : Ws → List PyData → Ws → PyData → Prop := fun W ds W' d => ∃ x k es, ds = [.str x, .str k] ∧ look W.cs x = some (TbD es) ∧ TabOk es ∧ W' = W ∧ d = .bool (look es k).isSome
def rPut : Ws → List PyData → Ws → PyData → Prop := fun W ds W' d => ∃ x k es, ds = [.str x, .str k] ∧ look W.cs x = some (TbD es) ∧ TabOk es ∧ W' = { W with cs := put W.cs x (TbD (put es k ((W.sr + 1 : Nat) : Int))), sr := W.sr + 1 } ∧ d = .none
def rFill : Ws → List PyData → Ws → PyData → Prop := fun W ds W' d => ∃ x k es, ds = [.str x, .str k] ∧ look W.cs x = some (TbD es) ∧ TabOk es ∧ W' = { W with cs := put W.cs x (TbD (setD es k ((W.sr + 1 : Nat) : Int))), sr := W.sr + 1 } ∧ d = .none
def rDrop : Ws → List PyData → Ws → PyData → Prop := fun W ds W' d => ∃ x k es, ds = [.str x, .str k] ∧ look W.cs x = some (TbD es) ∧ TabOk es ∧ W' = { W with cs := put W.cs x (TbD (dropE es k)) } ∧ d = .none
def rSize : Ws → List PyData → Ws → PyData → Prop := fun W ds W' d => ∃ x es, ds = [.str x] ∧ look W.cs x = some (TbD es) ∧ TabOk es ∧ W' = W ∧ d = .int (es.length : Nat)
def rKeys : Ws → List PyData → Ws → PyData → Prop := fun W ds W' d => ∃ x es, ds = [.str x] ∧ look W.cs x = some (TbD es) ∧ TabOk es ∧ W' = W ∧ d = .tuple (es.map fun e => .str e.1)
def rLoad : Ws → List PyData → Ws → PyData → Prop := fun W ds W' d => ∃ (x : Str) (ks : List Str) (kind : Str) (parts : List Str), ds = [.str x, .tuple (ks.map .str)] ∧ look W.th x = some (kind, parts) ∧ parts.length ≤ 50 ∧ W' = { W with cs := put W.cs x (TbD (loadE W.sr (parts.filter fun k => decide (k ∈ ks)))), sr := W.sr + (parts.filter fun k => decide (k ∈ ks)).length } ∧ d = .none
def rWipe : Ws → List PyData → Ws → PyData → Prop := fun W ds W' d => ∃ x, ds = [.str x] ∧ W' = { W with cs := put W.cs x (TbD []) } ∧ d = .none
def rSpy : Ws → List PyData → Ws → PyData → Prop := fun W ds W' d => ∃ x, ds = [.str x] ∧ W' = W ∧ d = .none
theorem entV_len (es : List (Str × Int)) : (kvs (entV es)).length = es.length := by rw [kvs_len]; exact List.length_map ..
section
variable {P : Program} {w : World} {K : PySem.W.Frag} {mg : Str → Option Value} {base : Heap}
theorem scWi : FnScope ["state", "table"] ["state", "table"] (defScope sWipe) := ⟨rfl, rfl, rfl, by decide +kernel, rfl, by decide +kernel, by decide +kernel⟩
theorem ok_wipe {f C CS : Addr} {fd : FuncData} (F : Fun K "_wipe" "_wipe" sWipe f fd) (S : StIn K mg CS) : FnOk P w K mg base CX0 1 f fd ["state", "table"] (spAct K C CS rWipe) := by
  refine F.ok scWi (fun vs H Q E h => ?_) (fun cdv A outer s0 H vs Q E hr h => ?_)
  · obtain ⟨L, s, ct, W, W', args, ds, d, rfl, _, _, _, ha, ⟨x, rfl, _⟩, _⟩ := h
    rw [args1 ha]; rfl
  · obtain ⟨L, s, ct, W, W', args, ds, d, rfl, hS, hl, al, ha, ⟨x, rfl, rfl, rfl⟩, kk⟩ := h
    obtain rfl := args1 ha
    have hu := hu_of hr
    refine ⟨_, pss_one (ps_dput hu (pe_fld (pv 0) rfl) (pv 1) pe_tup0Q rfl), ?_⟩
    refine fun t nt => ?_
    have s1 := same_new (o := .frz (tupO []) (.tup [])) nt
    have hS1 := hS.same s1
    have et : (upd H t (.frz (tupO []) (.tup []))) t = some (.frz (tupO []) (.tup [])) := upd_same
    have hd : Dq K (mask L (upd H t (.frz (tupO []) (.tup [])))) (.ref t) (TbD []) := tab_dq (al.not nt) (fun _ h => (by cases h)) et .nil
    obtain ⟨ds0, bn, es⟩ := hS1.self
    obtain ⟨H2, hp, ⟨o2, rfl⟩, hS2⟩ := hS1.putQ (x := x) hl hd
    exact ⟨_, rfl, s, CS, ds0, _, _, rfl, es, S.cls, S.nc, stF_ct .., _, rfl, ct, _, rfl, hp, kk .non _ ((Chg.of_same s1).trans chg_ct) hS2 .non⟩
theorem scSp : FnScope ["state", "name"] ["state", "name"] (defScope sSpy) := ⟨rfl, rfl, rfl, by decide +kernel, rfl, by decide +kernel, by decide +kernel⟩
theorem ok_spy {f C CS : Addr} {fd : FuncData} (F : Fun K "_spy" "_spy" sSpy f fd) : FnOk P w K mg base CX0 1 f fd ["state", "name"] (spAct K C CS rSpy) := by
  refine F.ok scSp (fun vs H Q E h => ?_) (fun cdv A outer s0 H vs Q E hr h => ?_)
  · obtain ⟨L, s, ct, W, W', args, ds, d, rfl, _, _, _, ha, ⟨x, rfl, _⟩, _⟩ := h
    rw [args1 ha]; rfl
  · obtain ⟨L, s, ct, W, W', args, ds, d, rfl, hS, hl, al, ha, ⟨x, rfl, rfl, rfl⟩, kk⟩ := h
    obtain rfl := args1 ha
    refine ⟨_, pss_one ps_pass, ?_⟩
    exact kk .non H (Chg.refl _ _) hS .non
theorem scSi : FnScope ["state", "table"] ["state", "table"] (defScope sSize) := ⟨rfl, rfl, rfl, by decide +kernel, rfl, by decide +kernel, by decide +kernel⟩
theorem ok_size {f C CS : Addr} {fd : FuncData} (F : Fun K "_size" "_size" sSize f fd) (B : Bts mg) (S : StIn K mg CS) : FnOk P w K mg base CX0 1 f fd ["state", "table"] (spAct K C CS rSize) := by
  refine F.ok scSi (fun vs H Q E h => ?_) (fun cdv A outer s0 H vs Q E hr h => ?_)
  · obtain ⟨L, s, ct, W, W', args, ds, d, rfl, _, _, _, ha, ⟨x, es, rfl, _⟩, _⟩ := h
    rw [args1 ha]; rfl
  · obtain ⟨L, s, ct, W, W', args, ds, d, rfl, hS, hl, al, ha, ⟨x, es, rfl, e, ho, rfl, rfl⟩, kk⟩ := h
    obtain rfl := args1 ha
    have hu := hu_of hr
    refine ⟨_, pss_one (ps_ret (pe_callB call_len_seq (by rfl) B.len PySem.boot_len (pa_cons (pe_dget hu (pe_fld (pv 0) rfl) (pv 1) (fun _ _ => rfl)) pa_nil))), ?_⟩
    obtain ⟨ds0, bn, es0⟩ := hS.self
    obtain ⟨v, g, hd⟩ := hS.get e
    obtain ⟨t, xs, rfl, ht, hx⟩ := dp_tup hd
    have lx := dpAll_len hx
    rw [List.length_map] at lx
    refine ⟨_, rfl, s, CS, ds0, _, _, rfl, es0, S.cls, S.nc, stF_ct .., _, rfl, ct, _, rfl, g, t, _, rfl, .inr (Same.seqT (mask_sub _ _) ht), ?_⟩
    rw [lx]
    exact kk _ H (Chg.refl _ _) hS (.int _)
theorem scKy : FnScope ["state", "table", "key", "_"] ["state", "table"] (defScope sKeys) := ⟨rfl, rfl, rfl, by decide +kernel, rfl, by decide +kernel, by decide +kernel⟩
theorem ok_keys {f C CS : Addr} {fd : FuncData} (F : Fun K "_keys" "_keys" sKeys f fd) (B : Bts mg) (S : StIn K mg CS) : FnOk P w K mg base CX0 1 f fd ["state", "table"] (spAct K C CS rKeys) := by
  refine F.ok scKy (fun vs H Q E h => ?_) (fun cdv A outer s0 H vs Q E hr h => ?_)
  · obtain ⟨L, s, ct, W, W', args, ds, d, rfl, _, _, _, ha, ⟨x, es, rfl, _⟩, _⟩ := h
    rw [args1 ha]; rfl
  · obtain ⟨L, s, ct, W, W', args, ds, d, rfl, hS, hl, al, ha, ⟨x, es, rfl, e, ho, rfl, rfl⟩, kk⟩ := h
    obtain rfl := args1 ha
    have hu := hu_of hr
    refine ⟨_, pss_one (ps_ret (pe_callTy call_tupS (by rfl) B.tuple (by decide +kernel) (pa_cons (pe_lc (own := [("key", 2), ("_", 3)]) (g := gTup K 2 (gCons (gName 2) (gCons (gName 3) gNil))) (tt := tYes) rfl scKy.nd (pi_tup (pe_dget hu (pe_fld (pv 0) rfl) (pv 1) (fun _ _ => rfl))) (blkOk_by (N := ["state", "table", "key", "_"]) (sc := defScope sKeys) (by decide +kernel)) (fun _ _ _ _ _ => (pg_tup rfl (pgs_cons (pg_name (i := 2) scKy.nd rfl (.inl rfl)) (pgs_cons (pg_name (i := 3) scKy.nd rfl (.inl rfl)) pgs_nil)))) (fun _ _ _ _ _ => pts_nil) (fun _ _ _ _ _ => (pv 2))) pa_nil))), ?_⟩
    obtain ⟨ds0, bn, es0⟩ := hS.self
    obtain ⟨v, g, hd⟩ := hS.get e
    obtain ⟨t, xs, rfl, ht, hx⟩ := dp_tup hd
    have ht0 := Same.seqT (mask_sub _ _) ht
    refine ⟨_, rfl, s, CS, ds0, _, _, rfl, es0, S.cls, S.nc, stF_ct .., _, rfl, ct, _, rfl, g, t, rfl, ⟨_, ht0⟩, fun D nD => ?_⟩
    have lx := dpAll_len hx
    rw [List.length_map] at lx
    refine lc_tup (K := K) (a := t) (xs := xs) (fun i H2 => H2 D = some (.lst ((es.take i).map fun e => V.str e.1)) ∧ Same H H2) ⟨upd_same, same_new nD⟩ (fun i H2 _ hI => Same.seqT hI.2 ht0) (fun i y H2 hy hI => ?_) (fun H2 hI => ?_)
    · obtain ⟨eD, s2⟩ := hI
      obtain ⟨dd, ed, hdd⟩ := dpAll_at hx hy
      rw [List.getElem?_map] at ed
      obtain ⟨en, een, rfl⟩ := Option.map_eq_some_iff.mp ed
      obtain ⟨t1, ys, rfl, ht1, hy1⟩ := dp_tup hdd
      obtain ⟨y1, ys, rfl, g1, hy1⟩ := dpAll_cons hy1
      obtain ⟨y2, ys, rfl, g2, hy1⟩ := dpAll_cons hy1
      obtain rfl := dpAll_nil hy1
      cases g1
      cases g2
      refine ⟨t1, _, rfl, Same.seqT s2 (Same.seqT (mask_sub _ _) ht1), rfl, _, _, rfl, _, _, rfl, rfl, rfl, _, rfl, _, eD, small1000 (n := ((es.take i).map fun e => V.str e.1).length) (by have := ho.2; rw [List.length_map, List.length_take]; omega), ?_, fun b o eb => ?_⟩
      · rw [upd_same, List.take_add_one, een, List.map_append]; rfl
      · rw [upd_ne (ne_of_none eb nD)]; exact s2 b o eb
    · obtain ⟨eD, s2⟩ := hI
      rw [lx, List.take_length] at eD
      refine ⟨⟨D, _, rfl, .inl ⟨SqL.of eD, fun l nl => ?_⟩⟩⟩
      have s3 := s2.trans (same_new (o := .tup (es.map fun e => V.str e.1)) nl)
      have all : ∀ M : Hp, DpAll K M (es.map fun e => V.str e.1) (es.map fun e => PyData.str e.1) := fun M => by
        induction es with
        | nil => exact .nil
        | cons e r ih => exact .cons (.str _) (by
            have go : ∀ r : List (Str × Int), DpAll K M (r.map fun e => V.str e.1) (r.map fun e => PyData.str e.1) := fun r => by
              induction r with
              | nil => exact .nil
              | cons e r ih => exact .cons (.str _) ih
            exact go r)
      exact kk _ _ (Chg.of_same s3) (hS.same s3) (.tup (SqT.of (mask_upd ((al.same s2).not nl))) (all _))
end
/-! ### tables: entries -/
theorem paired_up {α β : Type} {R S : α → β → Prop} (h : ∀ x y, R x y → S x y) : ∀ {xs : List α} {ys : List β}, Paired R xs ys → Paired S xs ys
  | _, _, .nil => .nil
  | _, _, .cons r t => .cons (h _ _ r) (paired_up h t)
theorem merge_es {es : List (Str × Int)} (ho : TabOk es) : mergeK [] (kvs (entV es)) = kvs (entV es) := mergeK_kvs (a := []) (b := entV es) (by
  show (names (entV es)).Nodup
  rw [names_entV]; exact ho.1)
/-- what dict(state.contents[table]) reads -/
theorem rd_dict {K : PySem.W.Frag} {L : List Addr} {H : Hp} {v : V} {es : List (Str × Int)} {Q : VK} (hd : Dq K (mask L H) v (TbD es)) (ho : TabOk es) (q : ∀ D, H D = none → Q (.ref D) (upd H D (.dK (kvs (entV es))))) : rDictT K [v] H Q := by
  obtain ⟨a, ps, rfl, ht, hpl, hps⟩ := tab_open hd
  refine ⟨⟨a, ps, kvs (entV es), rfl, Same.seqT (mask_sub _ _) ht, hpl.same (mask_sub _ _), paired_up (fun p kv h => Same.seqT (mask_sub _ _) h) hps, fun D nD => ?_⟩⟩
  rw [merge_es ho]
  exact q D nD
theorem dget_es {H : Hp} {D : Addr} {es : List (Str × Int)} (e : H D = some (.dK (kvs (entV es)))) (k : Str) : DGet H D (.str k) ((look es k).map V.int) := by
  have := DGet.k (k := Sum.inr k) e
  rw [valV_kvs, look_entV] at this
  exact this
theorem put_es (es : List (Str × Int)) (k : Str) (v : Int) : putK (kvs (entV es)) (Sum.inr k) (.int v) = kvs (entV (put es k v)) := by rw [putK_kvs, put_entV]
theorem isD_of {H : Hp} {D : Addr} {es : List (Str × Int)} (e : H D = some (.dK (kvs (entV es)))) : IsD H D := .inl ⟨_, .inl e⟩
/-- what setdefault does -/
theorem setd_es {H : Hp} {D : Addr} {es : List (Str × Int)} {k : Str} {v : Int} (e : H D = some (.dK (kvs (entV es)))) : (∀ u, valV (kvs (entV es)) (Sum.inr k) = some u → u = .int ((look es k).getD v) ∧ H D = some (.dK (kvs (entV (setD es k v))))) ∧ (valV (kvs (entV es)) (Sum.inr k) = none → (look es k).getD v = v ∧ (upd H D (.dK (putK (kvs (entV es)) (Sum.inr k) (.int v)))) D = some (.dK (kvs (entV (setD es k v))))) := by
  rw [valV_kvs, look_entV]
  cases h : look es k with
  | some w =>
    refine ⟨fun u hu => ?_, fun hn => (by cases hn)⟩
    have hu : some (V.int w) = some u := hu
    injection hu with hu
    rw [setD_some h]
    exact ⟨hu.symm, e⟩
  | none =>
    refine ⟨fun u hu => (by cases hu), fun _ => ⟨rfl, ?_⟩⟩
    rw [upd_same, put_es, (setD_none h).1, (setD_none h).2]
theorem StAt.keepL {K : PySem.W.Frag} {L L' : List Addr} {H H' : Hp} {C CS s ct : Addr} {W : Ws} (h : StAt K L H C CS s ct W) (m1 : s ∈ L') (m2 : ct ∈ L') (c : Same (mask L H) (mask L' H')) (es : ∀ o, H s = some o → H' s = some o) (ec : ∀ o, H ct = some o → H' ct = some o) : StAt K L' H' C CS s ct W := by
  obtain ⟨sL, cL, ds, bn, tl, l, h1, h2, h3, h4, h5⟩ := h
  exact ⟨m1, m2, ds, bn, tl, l, es _ h1, c _ _ h2, h3.same c, ec _ h4, h5.same c⟩
theorem Alive.of_cons {D : Addr} {L : List Addr} {H : Hp} (h : Alive (D :: L) H) : Alive L H := fun a m => h a (List.mem_cons_of_mem _ m)
section
variable {P : Program} {w : World} {K : PySem.W.Frag} {mg : Str → Option Value} {base : Heap}
/-- what tuple(entries.items()) reads, stored as the content -/
theorem rd_items {C CS s ct D x : Addr} {L : List Addr} {H : Hp} {W : Ws} {es : List (Str × Int)} {Q : VK} (al : Alive L H) (eD : H D = some (.dK (kvs (entV es)))) (q : ∀ p H', Same H H' → Dq K (mask L H') (.ref p) (TbD es) → Q (.ref p) H') : rItemsT K (.ref D) H Q :=
  ⟨⟨D, _, rfl, eD, fun H' p ts k1 np nts _ ep hp => q p H' (fun b o e => k1 b o e) (tab_dq (al.not np) (fun t ht => al.not (nts t ht)) ep hp)⟩⟩
theorem scPe : FnScope ["state", "table", "key"] ["state", "table", "key"] (defScope sPeek) := ⟨rfl, rfl, rfl, by decide +kernel, rfl, by decide +kernel, by decide +kernel⟩
theorem ok_peek {f C CS : Addr} {fd : FuncData} (F : Fun K "_peek" "_peek" sPeek f fd) (mDi : mg "dict" = none) (S : StIn K mg CS) : FnOk P w K mg base CX0 1 f fd ["state", "table", "key"] (spAct K C CS rPeek) := by
  refine F.ok scPe (fun vs H Q E h => ?_) (fun cdv A outer s0 H vs Q E hr h => ?_)
  · obtain ⟨L, s, ct, W, W', args, ds, d, rfl, _, _, _, ha, ⟨x, k, es, rfl, _⟩, _⟩ := h
    rw [args2 ha]; rfl
  · obtain ⟨L, s, ct, W, W', args, ds, d, rfl, hS, hl, al, ha, ⟨x, k, es, rfl, e, ho, rfl, rfl⟩, kk⟩ := h
    obtain rfl := args2 ha
    have hu := hu_of hr
    refine ⟨_, pss_one (ps_ret (pe_dget1 hu (pe_callTy (call_dictT rfl) (by rfl) mDi (by decide +kernel) (pa_cons (pe_dget hu (pe_fld (pv 0) rfl) (pv 1) (fun _ _ => rfl)) pa_nil)) (pv 2) ⟨rfl, rfl, rfl, rfl⟩)), ?_⟩
    obtain ⟨ds0, bn, es0⟩ := hS.self
    obtain ⟨v, g, hd⟩ := hS.getQ e
    refine ⟨_, rfl, s, CS, ds0, _, _, rfl, es0, S.cls, S.nc, stF_ct .., _, rfl, ct, v, rfl, g, rd_dict hd ho fun D nD => ?_⟩
    have s1 := same_new (o := .dK (kvs (entV es))) nD
    have eD : (upd H D (.dK (kvs (entV es)))) D = some (.dK (kvs (entV es))) := upd_same
    refine ⟨D, rfl, isD_of eD, _, rfl, _, dget_es eD k, ?_⟩
    cases h : look es k with
    | none =>
      rw [h] at kk
      exact kk .non _ (Chg.of_same s1) (hS.same s1) .non
    | some w =>
      rw [h] at kk
      exact kk (.int w) _ (Chg.of_same s1) (hS.same s1) (.int w)
theorem scHa : FnScope ["state", "table", "key"] ["state", "table", "key"] (defScope sHas) := ⟨rfl, rfl, rfl, by decide +kernel, rfl, by decide +kernel, by decide +kernel⟩
theorem ok_has {f C CS : Addr} {fd : FuncData} (F : Fun K "_has" "_has" sHas f fd) (mDi : mg "dict" = none) (S : StIn K mg CS) : FnOk P w K mg base CX0 1 f fd ["state", "table", "key"] (spAct K C CS rHas) := by
  refine F.ok scHa (fun vs H Q E h => ?_) (fun cdv A outer s0 H vs Q E hr h => ?_)
  · obtain ⟨L, s, ct, W, W', args, ds, d, rfl, _, _, _, ha, ⟨x, k, es, rfl, _⟩, _⟩ := h
    rw [args2 ha]; rfl
  · obtain ⟨L, s, ct, W, W', args, ds, d, rfl, hS, hl, al, ha, ⟨x, k, es, rfl, e, ho, rfl, rfl⟩, kk⟩ := h
    obtain rfl := args2 ha
    have hu := hu_of hr
    refine ⟨_, pss_one (ps_ret (pe_cmp (pc_din hu (pv 2) (pe_callTy (call_dictT rfl) (by rfl) mDi (by decide +kernel) (pa_cons (pe_dget hu (pe_fld (pv 0) rfl) (pv 1) (fun _ _ => rfl)) pa_nil))))), ?_⟩
    obtain ⟨ds0, bn, es0⟩ := hS.self
    obtain ⟨v, g, hd⟩ := hS.getQ e
    refine ⟨_, rfl, _, rfl, s, CS, ds0, _, _, rfl, es0, S.cls, S.nc, stF_ct .., _, rfl, ct, v, rfl, g, rd_dict hd ho fun D nD => ?_⟩
    have s1 := same_new (o := .dK (kvs (entV es))) nD
    have eD : (upd H D (.dK (kvs (entV es)))) D = some (.dK (kvs (entV es))) := upd_same
    refine ⟨D, _, rfl, dget_es eD k, ?_⟩
    have eb : ((look es k).map V.int).isSome = (look es k).isSome := by cases look es k <;> rfl
    rw [eb]
    exact kk _ _ (Chg.of_same s1) (hS.same s1) (.bl _)
theorem scGe : FnScope ["state", "table", "key", "entries", "value"] ["state", "table", "key"] (defScope sGet) := ⟨rfl, rfl, rfl, by decide +kernel, rfl, by decide +kernel, by decide +kernel⟩
theorem ok_get {f C CS : Addr} {fd : FuncData} (F : Fun K "_get" "_get" sGet f fd) (B : Bts mg) (mDi : mg "dict" = none) (S : StIn K mg CS) : FnOk P w K mg base CX0 1 f fd ["state", "table", "key"] (spAct K C CS rGet) := by
  refine F.ok scGe (fun vs H Q E h => ?_) (fun cdv A outer s0 H vs Q E hr h => ?_)
  · obtain ⟨L, s, ct, W, W', args, ds, d, rfl, _, _, _, ha, ⟨x, k, es, rfl, _⟩, _⟩ := h
    rw [args2 ha]; rfl
  · obtain ⟨L, s, ct, W, W', args, ds, d, rfl, hS, hl, al, ha, ⟨x, k, es, rfl, e, ho, rfl, rfl⟩, kk⟩ := h
    obtain rfl := args2 ha
    have hu := hu_of hr
    refine ⟨_, pss_cons (ps_set (i := 3) scGe.nd rfl (.inl rfl) (pe_callTy (call_dictT rfl) (by rfl) mDi (by decide +kernel) (pa_cons (pe_dget hu (pe_fld (pv 0) rfl) (pv 1) (fun _ _ => rfl)) pa_nil)))
      (C8.pss_cut (ps_set (i := 4) scGe.nd rfl (.inl rfl) (pe_dsetd (pv 3) (pv 2) pe_int ⟨rfl, rfl, rfl, rfl⟩))
      (pss_cons (ps_dput hu (pe_fld (pv 0) rfl) (pv 1) (pe_tupItems rfl (pv 3) (by rfl) B.tuple (by decide +kernel)) rfl)
      (pss_one (ps_ret (pv 4))))), ?_⟩
    obtain ⟨ds0, bn, es0⟩ := hS.self
    obtain ⟨v, g, hd⟩ := hS.getQ e
    refine ⟨_, rfl, s, CS, ds0, _, _, rfl, es0, S.cls, S.nc, stF_ct .., _, rfl, ct, v, rfl, g, rd_dict hd ho fun D nD => ?_⟩
    have s1 := same_new (o := .dK (kvs (entV es))) nD
    have eD : (upd H D (.dK (kvs (entV es)))) D = some (.dK (kvs (entV es))) := upd_same
    generalize upd H D (.dK (kvs (entV es))) = H1 at *
    refine ⟨fun σ H2 => σ = [some (.ref s), some (.str x), some (.str k), some (.ref D), some (.int ((look es k).getD 0))] ∧ Same H H2 ∧ H2 D = some (.dK (kvs (entV (setD es k 0)))), ?_, ?_⟩
    · have hse := setd_es (k := k) (v := 0) eD
      refine ⟨_, rfl, D, rfl, isD_of eD, _, rfl, kvs (entV es), Sum.inr k, eD, rfl, small1000 (by rw [entV_len]; have := ho.2; omega), fun u hu => ?_, fun hn => ?_⟩
      · obtain ⟨rfl, h2⟩ := hse.1 u hu
        exact ⟨rfl, s1, h2⟩
      · obtain ⟨h1, h2⟩ := hse.2 hn
        refine ⟨by rw [h1]; rfl, fun b o eb => ?_, h2⟩
        rw [upd_ne (ne_of_none eb nD)]; exact s1 b o eb
    rintro σ H2 ⟨rfl, s2, eD2⟩
    refine ⟨_, rfl, rd_items (C := C) (CS := CS) (s := s) (ct := ct) (x := x.length) (W := W) (al.same s2) eD2 fun p H3 s3 hq => ?_⟩
    have s03 := s2.trans s3
    have hS3 := hS.same s03
    obtain ⟨ds3, bn3, es3⟩ := hS3.self
    obtain ⟨H4, hp, ⟨o4, rfl⟩, hS4⟩ := hS3.putQ (x := x) hl hq
    exact ⟨_, rfl, s, CS, ds3, _, _, rfl, es3, S.cls, S.nc, stF_ct .., _, rfl, ct, _, rfl, hp, _, rfl, kk _ _ ((Chg.of_same s03).trans chg_ct) hS4 (.int _)⟩
theorem scDr : FnScope ["state", "table", "key", "entries"] ["state", "table", "key"] (defScope sDrop) := ⟨rfl, rfl, rfl, by decide +kernel, rfl, by decide +kernel, by decide +kernel⟩
theorem ok_drop {f C CS : Addr} {fd : FuncData} (F : Fun K "_drop" "_drop" sDrop f fd) (B : Bts mg) (mDi : mg "dict" = none) (S : StIn K mg CS) : FnOk P w K mg base CX0 1 f fd ["state", "table", "key"] (spAct K C CS rDrop) := by
  refine F.ok scDr (fun vs H Q E h => ?_) (fun cdv A outer s0 H vs Q E hr h => ?_)
  · obtain ⟨L, s, ct, W, W', args, ds, d, rfl, _, _, _, ha, ⟨x, k, es, rfl, _⟩, _⟩ := h
    rw [args2 ha]; rfl
  · obtain ⟨L, s, ct, W, W', args, ds, d, rfl, hS, hl, al, ha, ⟨x, k, es, rfl, e, ho, rfl, rfl⟩, kk⟩ := h
    obtain rfl := args2 ha
    have hu := hu_of hr
    refine ⟨_, pss_cons (ps_set (i := 3) scDr.nd rfl (.inl rfl) (pe_callTy (call_dictT rfl) (by rfl) mDi (by decide +kernel) (pa_cons (pe_dget hu (pe_fld (pv 0) rfl) (pv 1) (fun _ _ => rfl)) pa_nil)))
      (C8.pss_cut (ps_expr (pe_dpop2 (pv 3) (pv 2) pe_non ⟨rfl, rfl, rfl, rfl⟩))
      (pss_one (ps_dput hu (pe_fld (pv 0) rfl) (pv 1) (pe_tupItems rfl (pv 3) (by rfl) B.tuple (by decide +kernel)) rfl))), ?_⟩
    obtain ⟨ds0, bn, es0⟩ := hS.self
    obtain ⟨v, g, hd⟩ := hS.getQ e
    refine ⟨_, rfl, s, CS, ds0, _, _, rfl, es0, S.cls, S.nc, stF_ct .., _, rfl, ct, v, rfl, g, rd_dict hd ho fun D nD => ?_⟩
    have s1 := same_new (o := .dK (kvs (entV es))) nD
    have eD : (upd H D (.dK (kvs (entV es)))) D = some (.dK (kvs (entV es))) := upd_same
    generalize upd H D (.dK (kvs (entV es))) = H1 at *
    refine ⟨fun σ H2 => σ = [some (.ref s), some (.str x), some (.str k), some (.ref D)] ∧ Same H H2 ∧ H2 D = some (.dK (kvs (entV (dropE es k)))), ?_, ?_⟩
    · refine ⟨_, rfl, D, rfl, isD_of eD, _, rfl, kvs (entV es), Sum.inr k, eD, rfl, fun u hu => ?_, fun hn => ?_⟩
      · refine ⟨rfl, fun b o eb => ?_, by rw [upd_same, dropK_kvs]⟩
        rw [upd_ne (ne_of_none eb nD)]; exact s1 b o eb
      · rw [valV_kvs, look_entV] at hn
        have hn' : look es k = none := by cases h : look es k with
          | none => rfl
          | some w => rw [h] at hn; cases hn
        rw [dropE_none hn']
        exact ⟨rfl, s1, eD⟩
    rintro σ H2 ⟨rfl, s2, eD2⟩
    refine ⟨_, rfl, rd_items (C := C) (CS := CS) (s := s) (ct := ct) (x := x.length) (W := W) (al.same s2) eD2 fun p H3 s3 hq => ?_⟩
    have s03 := s2.trans s3
    have hS3 := hS.same s03
    obtain ⟨ds3, bn3, es3⟩ := hS3.self
    obtain ⟨H4, hp, ⟨o4, rfl⟩, hS4⟩ := hS3.putQ (x := x) hl hq
    exact ⟨_, rfl, s, CS, ds3, _, _, rfl, es3, S.cls, S.nc, stF_ct .., _, rfl, ct, _, rfl, hp, kk .non _ ((Chg.of_same s03).trans chg_ct) hS4 .non⟩
theorem scPu : FnScope ["state", "table", "key", "entries"] ["state", "table", "key"] (defScope sPut) := ⟨rfl, rfl, rfl, by decide +kernel, rfl, by decide +kernel, by decide +kernel⟩
theorem ok_put {f fN C CS : Addr} {fd fdN : FuncData} (F : Fun K "_put" "_put" sPut f fd) (B : Bts mg) (mDi : mg "dict" = none) (S : StIn K mg CS) (MN : Meth K CS "new_serial" fN) (GN : FnOk P w K mg base CX0 1 fN fdN ["self"] (spSerial K C CS)) (bN : Binds K fdN ["self"] []) : FnOk P w K mg base CX0 2 f fd ["state", "table", "key"] (spAct K C CS rPut) := by
  refine F.ok scPu (fun vs H Q E h => ?_) (fun cdv A outer s0 H vs Q E hr h => ?_)
  · obtain ⟨L, s, ct, W, W', args, ds, d, rfl, _, _, _, ha, ⟨x, k, es, rfl, _⟩, _⟩ := h
    rw [args2 ha]; rfl
  · obtain ⟨L, s, ct, W, W', args, ds, d, rfl, hS, hl, al, ha, ⟨x, k, es, rfl, e, ho, rfl, rfl⟩, kk⟩ := h
    obtain rfl := args2 ha
    have hu := hu_of hr
    have hrN : Room 1 _ := hr
    refine ⟨_, pss_cons (ps_set (i := 3) scPu.nd rfl (.inl rfl) (pe_callTy (call_dictT rfl) (by rfl) mDi (by decide +kernel) (pa_cons (pe_dget hu (pe_fld (pv 0) rfl) (pv 1) (fun _ _ => rfl)) pa_nil)))
      (pss_cons (ps_dput hu (pv 3) (pv 2) (pe_meth0 (pv 0) S.cls MN GN hrN bN .nil pass0) rfl)
      (pss_one (ps_dput hu (pe_fld (pv 0) rfl) (pv 1) (pe_tupItems rfl (pv 3) (by rfl) B.tuple (by decide +kernel)) rfl))), ?_⟩
    obtain ⟨ds0, bn, es0⟩ := hS.self
    obtain ⟨v, g, hd⟩ := hS.getQ e
    refine ⟨_, rfl, s, CS, ds0, _, _, rfl, es0, S.cls, S.nc, stF_ct .., _, rfl, ct, v, rfl, g, rd_dict hd ho fun D nD => ?_⟩
    have nDL : D ∉ L := al.not nD
    have s1 := same_new (o := .dK (kvs (entV es))) nD
    have eD : (upd H D (.dK (kvs (entV es)))) D = some (.dK (kvs (entV es))) := upd_same
    have hS1 : StAt K (D :: L) (upd H D (.dK (kvs (entV es)))) C CS s ct W := hS.keepL (List.mem_cons_of_mem _ hS.sL) (List.mem_cons_of_mem _ hS.cL) ((mask_new nD).trans (mask_at List.mem_cons_self)) (fun o e => s1 _ _ e) (fun o e => s1 _ _ e)
    have al1 : Alive (D :: L) (upd H D (.dK (kvs (entV es)))) := fun z hz => by
      rcases List.mem_cons.mp hz with rfl | hz
      · exact ⟨_, upd_same⟩
      · exact al.same s1 z hz
    generalize upd H D (.dK (kvs (entV es))) = H1 at *
    obtain ⟨ds1, bn1, es1⟩ := hS1.self
    refine ⟨_, rfl, s, ds1, _, rfl, es1, rfl, D :: L, s, ct, W, rfl, hS1, al1, fun H2 c2 hS2 al2 => ?_⟩
    have nsD : s ≠ D := fun q => nDL (by rw [← q]; exact hS.sL)
    have ncD : ct ≠ D := fun q => nDL (by rw [← q]; exact hS.cL)
    have nDs : D ∉ [s, ct] := fun m => by
      rcases List.mem_cons.mp m with q | q
      · exact nsD q.symm
      · exact ncD (List.mem_singleton.mp q).symm
    have eD2 := c2 _ _ nDs eD
    refine ⟨_, rfl, _, rfl, D, _, rfl, DPut.k (k := Sum.inr k) eD2 (small1000 (by rw [entV_len]; have := ho.2; omega)), ?_⟩
    rw [put_es]
    have eD3 : (upd H2 D (.dK (kvs (entV (put es k ((W.sr + 1 : Nat) : Int)))))) D = some (.dK (kvs (entV (put es k ((W.sr + 1 : Nat) : Int))))) := upd_same
    have c3 : Chg [s, ct] H (upd H2 D (.dK (kvs (entV (put es k ((W.sr + 1 : Nat) : Int)))))) := fun b o hb eb => by
      rw [upd_ne (ne_of_none eb nD)]; exact c2 b o hb (s1 b o eb)
    have hS3 : StAt K L (upd H2 D (.dK (kvs (entV (put es k ((W.sr + 1 : Nat) : Int)))))) C CS s ct { W with sr := W.sr + 1 } := hS2.keepL hS.sL hS.cL ((mask_at List.mem_cons_self).trans mask_less) (fun o e => by rw [upd_ne nsD]; exact e) (fun o e => by rw [upd_ne ncD]; exact e)
    have al3 : Alive L (upd H2 D (.dK (kvs (entV (put es k ((W.sr + 1 : Nat) : Int)))))) := al2.upd.of_cons
    generalize upd H2 D (.dK (kvs (entV (put es k ((W.sr + 1 : Nat) : Int))))) = H3 at *
    refine ⟨_, rfl, rd_items (C := C) (CS := CS) (s := s) (ct := ct) (x := x.length) (W := W) al3 eD3 fun p H4 s4 hq => ?_⟩
    have hS4 := hS3.same s4
    obtain ⟨ds4, bn4, es4⟩ := hS4.self
    obtain ⟨H5, hp, ⟨o5, rfl⟩, hS5⟩ := hS4.putQ (x := x) hl hq
    exact ⟨_, rfl, s, CS, ds4, _, _, rfl, es4, S.cls, S.nc, stF_ct .., _, rfl, ct, _, rfl, hp, kk .non _ ((c3.trans (Chg.of_same s4)).trans chg_ct) hS5 .non⟩
theorem scFi : FnScope ["state", "table", "key", "serial", "entries"] ["state", "table", "key"] (defScope sFill) := ⟨rfl, rfl, rfl, by decide +kernel, rfl, by decide +kernel, by decide +kernel⟩
theorem ok_fill {f fN C CS : Addr} {fd fdN : FuncData} (F : Fun K "_fill" "_fill" sFill f fd) (B : Bts mg) (mDi : mg "dict" = none) (S : StIn K mg CS) (MN : Meth K CS "new_serial" fN) (GN : FnOk P w K mg base CX0 1 fN fdN ["self"] (spSerial K C CS)) (bN : Binds K fdN ["self"] []) : FnOk P w K mg base CX0 2 f fd ["state", "table", "key"] (spAct K C CS rFill) := by
  refine F.ok scFi (fun vs H Q E h => ?_) (fun cdv A outer s0 H vs Q E hr h => ?_)
  · obtain ⟨L, s, ct, W, W', args, ds, d, rfl, _, _, _, ha, ⟨x, k, es, rfl, _⟩, _⟩ := h
    rw [args2 ha]; rfl
  · obtain ⟨L, s, ct, W, W', args, ds, d, rfl, hS, hl, al, ha, ⟨x, k, es, rfl, e, ho, rfl, rfl⟩, kk⟩ := h
    obtain rfl := args2 ha
    have hu := hu_of hr
    have hrN : Room 1 _ := hr
    refine ⟨_, pss_cons (ps_set (i := 3) scFi.nd rfl (.inl rfl) (pe_meth0 (pv 0) S.cls MN GN hrN bN .nil pass0))
      (pss_cons (ps_set (i := 4) scFi.nd rfl (.inl rfl) (pe_callTy (call_dictT rfl) (by rfl) mDi (by decide +kernel) (pa_cons (pe_dget hu (pe_fld (pv 0) rfl) (pv 1) (fun _ _ => rfl)) pa_nil)))
      (C8.pss_cut (ps_expr (pe_dsetd (pv 4) (pv 2) (pv 3) ⟨rfl, rfl, rfl, rfl⟩))
      (pss_one (ps_dput hu (pe_fld (pv 0) rfl) (pv 1) (pe_tupItems rfl (pv 4) (by rfl) B.tuple (by decide +kernel)) rfl)))), ?_⟩
    obtain ⟨ds0, bn, es0⟩ := hS.self
    refine ⟨_, rfl, s, ds0, _, rfl, es0, rfl, L, s, ct, W, rfl, hS, al, fun H0 c0 hS0 al0 => ?_⟩
    obtain ⟨ds1, bn1, es1⟩ := hS0.self
    obtain ⟨v, g, hd⟩ := hS0.getQ (x := x) e
    refine ⟨_, rfl, s, CS, ds1, _, _, rfl, es1, S.cls, S.nc, stF_ct .., _, rfl, ct, v, rfl, g, rd_dict hd ho fun D nD => ?_⟩
    have s1 := same_new (o := .dK (kvs (entV es))) nD
    have eD : (upd H0 D (.dK (kvs (entV es)))) D = some (.dK (kvs (entV es))) := upd_same
    generalize upd H0 D (.dK (kvs (entV es))) = H1 at *
    refine ⟨fun σ H2 => σ = [some (.ref s), some (.str x), some (.str k), some (.int ((W.sr + 1 : Nat) : Int)), some (.ref D)] ∧ Same H0 H2 ∧ H2 D = some (.dK (kvs (entV (setD es k ((W.sr + 1 : Nat) : Int))))), ?_, ?_⟩
    · have hse := setd_es (k := k) (v := ((W.sr + 1 : Nat) : Int)) eD
      refine ⟨_, rfl, D, rfl, isD_of eD, _, rfl, _, rfl, kvs (entV es), Sum.inr k, eD, rfl, small1000 (by rw [entV_len]; have := ho.2; omega), fun u hu => ?_, fun hn => ?_⟩
      · exact ⟨rfl, s1, (hse.1 u hu).2⟩
      · obtain ⟨h1, h2⟩ := hse.2 hn
        refine ⟨rfl, fun b o eb => ?_, h2⟩
        rw [upd_ne (ne_of_none eb nD)]; exact s1 b o eb
    rintro σ H2 ⟨rfl, s2, eD2⟩
    refine ⟨_, rfl, rd_items (C := C) (CS := CS) (s := s) (ct := ct) (x := x.length) (W := W) (al0.same s2) eD2 fun p H3 s3 hq => ?_⟩
    have s03 := s2.trans s3
    have hS3 := hS0.same s03
    obtain ⟨ds3, bn3, es3⟩ := hS3.self
    obtain ⟨H4, hp, ⟨o4, rfl⟩, hS4⟩ := hS3.putQ (x := x) hl hq
    exact ⟨_, rfl, s, CS, ds3, _, _, rfl, es3, S.cls, S.nc, stF_ct .., _, rfl, ct, _, rfl, hp, kk .non _ ((c0.trans (Chg.of_same s03)).trans chg_ct) hS4 .non⟩
end
theorem inV_strT {x : Str} {xs : List Str} : inV (.str x) (xs.map V.str) = decide (x ∈ xs) := by
  unfold inV
  by_cases h : x ∈ xs
  · rw [decide_eq_true h, List.any_eq_true]
    exact ⟨.str x, List.mem_map.mpr ⟨x, h, rfl⟩, by show (x == x) = true; simp⟩
  · rw [decide_eq_false h, List.any_eq_false]
    intro v hv
    obtain ⟨y, hy, rfl⟩ := List.mem_map.mp hv
    intro q
    have q' : y = x := beq_iff_eq.mp q
    exact h (q' ▸ hy)
theorem flat_strsT (xs : List Str) : (xs.map V.str).all flatV = true := by
  rw [List.all_eq_true]
  intro v hv
  obtain ⟨y, _, rfl⟩ := List.mem_map.mp hv
  rfl
theorem StAt.thing {K : PySem.W.Frag} {L : List Addr} {H : Hp} {C CS s ct : Addr} {W : Ws} {x k : Str} {parts : List Str} (h : StAt K L H C CS s ct W) (e : look W.th x = some (k, parts)) : ∃ ds bn a, H s = some (.ins CS ds (stF bn ct W.ft W.sd W.sr)) ∧ DGet H bn (.str x) (some (.ref a)) ∧ ThingAt K (mask L H) C a k x parts := by
  obtain ⟨sL, cL, ds, bn, tl, l, h1, h2, h3, h4, h5⟩ := h
  obtain ⟨a, e1, e2⟩ := h3.at e
  refine ⟨ds, bn, a, h1, ?_, e2⟩
  have := DGet.k (k := Sum.inr x) (mask_sub _ _ _ _ h2)
  rw [valV_kvs, e1] at this
  exact this
theorem filter_snoc {ks : List Str} {parts : List Str} {i : Nat} {k : Str} (h : parts[i]? = some k) : (parts.take (i + 1)).filter (fun k => decide (k ∈ ks)) = (parts.take i).filter (fun k => decide (k ∈ ks)) ++ (if decide (k ∈ ks) = true then [k] else []) := by
  rw [List.take_succ, h, List.filter_append]
  congr 1
  show List.filter _ [k] = _
  rw [List.filter_cons, List.filter_nil]
/-- entries that load makes, at their addresses -/
theorem tab_dq2 {K : PySem.W.Frag} {L : List Addr} {H' : Hp} {p : Addr} {ts : List Addr} {es : List (Str × Int)} (np : p ∉ L) (nts : ∀ t ∈ ts, t ∉ L) (ep : H' p = some (.frz (tupO ts) (.tup (ts.map V.ref)))) (hp : Paired (fun (t : Addr) (q : Str × Int) => H' t = some (.tup [.str q.1, .int q.2])) ts es) : Dq K (mask L H') (.ref p) (TbD es) := by
  refine tab_dq np nts ep ?_
  have go : ∀ {ts : List Addr} {es : List (Str × Int)}, Paired (fun (t : Addr) (q : Str × Int) => H' t = some (.tup [.str q.1, .int q.2])) ts es → Paired (fun (t : Addr) (q : Key × V) => H' t = some (.tup [kV q.1, q.2])) ts (kvs (entV es)) := by
    intro ts es h
    induction h with
    | nil => exact .nil
    | cons h _ ih => exact .cons h ih
  exact go hp
section
variable {P : Program} {w : World} {K : PySem.W.Frag} {mg : Str → Option Value} {base : Heap}
theorem scLo : FnScope ["state", "table", "keys", "entries", "key"] ["state", "table", "keys"] (defScope sLoad) := ⟨rfl, rfl, rfl, by decide +kernel, rfl, by decide +kernel, by decide +kernel⟩
theorem ok_load {f fN C CS : Addr} {fd fdN : FuncData} (F : Fun K "_load" "_load" sLoad f fd) (B : Bts mg) (T : ThIn K mg C) (S : StIn K mg CS) (MN : Meth K CS "new_serial" fN) (GN : FnOk P w K mg base CX0 1 fN fdN ["self"] (spSerial K C CS)) (bN : Binds K fdN ["self"] []) : FnOk P w K mg base CX0 2 f fd ["state", "table", "keys"] (spAct K C CS rLoad) := by
  refine F.ok scLo (fun vs H Q E h => ?_) (fun cdv A outer s0 H vs Q E hr h => ?_)
  · obtain ⟨L, s, ct, W, W', args, ds, d, rfl, _, _, _, ha, ⟨x, ks, kind, parts, rfl, _⟩, _⟩ := h
    obtain ⟨v1, r, rfl, _, ha⟩ := dpAll_cons ha
    obtain ⟨v2, r, rfl, _, ha⟩ := dpAll_cons ha
    obtain rfl := dpAll_nil ha
    rfl
  · obtain ⟨L, s, ct, W, W', args, ds, d, rfl, hS, hl, al, ha, ⟨x, ks, kind, parts, rfl, e, hp50, rfl, rfl⟩, kk⟩ := h
    obtain ⟨v1, r, rfl, g1, ha⟩ := dpAll_cons ha
    obtain ⟨v2, r, rfl, g2, ha⟩ := dpAll_cons ha
    obtain rfl := dpAll_nil ha
    cases g1
    obtain ⟨tk, xs, rfl, htk, hxs⟩ := dp_tup g2
    have hu := hu_of hr
    have hrN : Room 1 _ := hr
    refine ⟨_, pss_cons (ps_set (i := 3) scLo.nd rfl (.inl rfl) (pe_lst pa_nil))
      (pss_cons (ps_for PassesOwn.never rfl (pi_tup (pe_fld (pe_dget hu (pe_fld (pv 0) rfl) (pv 1) (fun _ _ => rfl)) rfl)) (pg_name (i := 4) scLo.nd rfl (.inl rfl))
        (pss_one (ps_if (pt_cmpR op_in_seq (pv 4) (pv 2) (by rfl))
            (pss_one (ps_expr (pe_bm PySem.F.plainAttrs_list PySem.F.slot_list_append PySem.F.type_list_append mt_append (pv 3) (pa_cons (pe_tup (pa_cons (pv 4) (pa_cons (pe_meth0 (pv 0) S.cls MN GN hrN bN .nil pass0) pa_nil))) pa_nil))))
            pss_nil)))
      (pss_one (ps_dput hu (pe_fld (pv 0) rfl) (pv 1) (pe_callTy call_tupQ (by rfl) B.tuple (by decide +kernel) (pa_cons (pv 3) pa_nil)) rfl))), ?_⟩
    have hxs : xs = ks.map V.str := by
      have go : ∀ {xs : List V} {ks : List Str}, DpAll K (mask L H) xs (ks.map .str) → xs = ks.map V.str := by
        intro xs ks h
        induction ks generalizing xs with
        | nil => exact dpAll_nil h
        | cons k r ih =>
          obtain ⟨v, xs, rfl, h1, h2⟩ := dpAll_cons h
          cases h1
          rw [ih h2]; rfl
      exact go hxs
    subst hxs
    refine ⟨by show 0 ≤ sizeLine; decide, fun D nD => ?_⟩
    have nDL : D ∉ L := al.not nD
    have s1 := same_new (o := .lst []) nD
    have hS1 : StAt K (D :: L) (upd H D (.lst [])) C CS s ct W := hS.keepL (List.mem_cons_of_mem _ hS.sL) (List.mem_cons_of_mem _ hS.cL) ((mask_new nD).trans (mask_at List.mem_cons_self)) (fun o e => s1 _ _ e) (fun o e => s1 _ _ e)
    have al1 : Alive (D :: L) (upd H D (.lst [])) := fun z hz => by
      rcases List.mem_cons.mp hz with rfl | hz
      · exact ⟨_, upd_same⟩
      · exact al.same s1 z hz
    have eD : (upd H D (.lst [])) D = some (.lst []) := upd_same
    have sm : Same (mask L H) (mask (D :: L) (upd H D (.lst []))) := (mask_new nD).trans (mask_at List.mem_cons_self)
    have c1 : Chg [s, ct] H (upd H D (.lst [])) := Chg.of_same s1
    generalize upd H D (.lst []) = H1 at *
    have nsD : s ≠ D := fun q => nDL (by rw [← q]; exact hS.sL)
    have ncD : ct ≠ D := fun q => nDL (by rw [← q]; exact hS.cL)
    have lks : ∀ {H' : Hp}, Same (mask L H) (mask (D :: L) H') → SqT K H' tk (ks.map V.str) := fun q => Same.seqT (mask_sub _ _) (Same.seqT q htk)
    obtain ⟨ds1, bn1, a1, es1, g1, th1⟩ := hS1.thing e
    obtain ⟨dx1, fs1, tp, b1, b2, b3, b4, b5⟩ := th1
    obtain ⟨_, _, a0, _, _, th0⟩ := hS.thing e
    refine ⟨_, rfl, s, CS, ds1, _, _, rfl, es1, S.cls, S.nb, stF_bn .., _, rfl, bn1, .ref a1, rfl, g1, a1, C, dx1, fs1, _, rfl, mask_sub _ _ _ _ b1, T.cls, T.np, b4, tp, rfl, ⟨_, Same.seqT (mask_sub _ _) b5⟩, ?_⟩
    refine for_tup (K := K) (a := tp) (xs := parts.map V.str) (fun i σ H' => ∃ (ps : List Addr) (y : Option V), σ = [some (.ref s), some (.str x), some (.ref tk), some (.ref D), y] ∧ H' D = some (.lst (ps.map V.ref)) ∧ StAt K (D :: L) H' C CS s ct { W with sr := W.sr + ((parts.take i).filter fun k => decide (k ∈ ks)).length } ∧ Alive (D :: L) H' ∧
        Paired (fun (p : Addr) (e : Str × Int) => H' p = some (.tup [.str e.1, .int e.2])) ps (loadE W.sr ((parts.take i).filter fun k => decide (k ∈ ks))) ∧ (∀ p ∈ ps, p ∉ D :: L) ∧ Same (mask (D :: L) H1) (mask (D :: L) H') ∧ Chg [s, ct] H H')
      ⟨[], none, rfl, eD, hS1, al1, .nil, fun _ h => (by cases h), .refl _, c1⟩ (fun i σ H' _ ⟨_, _, _, _, _, _, _, _, h, _⟩ => Same.seqT (mask_sub _ _) (Same.seqT h b5)) (fun i y σ H' hy hI => ?_) (fun σ H' hI => ?_)
    · obtain ⟨ps, y4, rfl, eD', hS', al', hps, hpn, sM, cH⟩ := hI
      rw [List.getElem?_map] at hy
      obtain ⟨k, ek, rfl⟩ := Option.map_eq_some_iff.mp hy
      have hsn := filter_snoc (ks := ks) ek
      have hlen : ps.length ≤ 50 := by
        have h1 : ps.length = (loadE W.sr ((parts.take i).filter fun k => decide (k ∈ ks))).length := Paired.length hps
        rw [loadE_len] at h1
        have h2 := List.length_filter_le (fun k => decide (k ∈ ks)) (parts.take i)
        rw [List.length_take] at h2
        omega
      refine ⟨_, rfl, _, rfl, tk, _, rfl, .inr (lks (sm.trans sM)), rfl, flat_strsT _, _, rfl, ?_⟩
      rw [inV_strT]
      by_cases hk : k ∈ ks
      case neg =>
        rw [decide_eq_false hk]
        rw [decide_eq_false hk, if_neg (by decide), List.append_nil] at hsn
        refine iteF ⟨ps, _, rfl, eD', ?_, al', ?_, hpn, sM, cH⟩
        · rw [hsn]; exact hS'
        · rw [hsn]; exact hps
      rw [decide_eq_true hk]
      rw [decide_eq_true hk, if_pos rfl] at hsn
      obtain ⟨ds2, bn2, es2⟩ := hS'.self
      refine iteT ⟨_, rfl, .inl ⟨rfl, _, SqL.of eD'⟩, _, rfl, _, rfl, s, ds2, _, rfl, es2, rfl, D :: L, s, ct, _, rfl, hS', al', fun H2 c2 hS2 al2 => ⟨by show 2 ≤ sizeLine; decide, fun t nt => ?_⟩⟩
      have nDs : D ∉ [s, ct] := fun m => by
        rcases List.mem_cons.mp m with q | q
        · exact nsD q.symm
        · exact ncD (List.mem_singleton.mp q).symm
      have eD2 := c2 _ _ nDs eD'
      have st := same_new (o := .tup [.str k, .int ((W.sr + ((parts.take i).filter fun k => decide (k ∈ ks)).length + 1 : Nat) : Int)]) nt
      have eD3 := st _ _ eD2
      have tD : t ≠ D := (ne_of_none eD2 nt).symm
      refine ⟨D, _, .ref t, rfl, rfl, eD3, small1000 (by rw [List.length_map]; omega), ?_⟩
      have hS3 : StAt K (D :: L) (upd H2 t (.tup [.str k, .int ((W.sr + ((parts.take i).filter fun k => decide (k ∈ ks)).length + 1 : Nat) : Int)])) C CS s ct { W with sr := W.sr + ((parts.take i).filter fun k => decide (k ∈ ks)).length + 1 } := hS2.same st
      have al3 := al2.same st
      have et : (upd H2 t (.tup [.str k, .int ((W.sr + ((parts.take i).filter fun k => decide (k ∈ ks)).length + 1 : Nat) : Int)])) t = some (.tup [.str k, .int ((W.sr + ((parts.take i).filter fun k => decide (k ∈ ks)).length + 1 : Nat) : Int)]) := upd_same
      have ntL : t ∉ D :: L := al2.not nt
      have c3 : Chg [s, ct] H' (upd H2 t (.tup [.str k, .int ((W.sr + ((parts.take i).filter fun k => decide (k ∈ ks)).length + 1 : Nat) : Int)])) := c2.trans (Chg.of_same st)
      have sM3 : Same (mask (D :: L) H') (mask (D :: L) (upd H2 t (.tup [.str k, .int ((W.sr + ((parts.take i).filter fun k => decide (k ∈ ks)).length + 1 : Nat) : Int)]))) := (c2.inL hS'.sL hS'.cL).mask.trans (mask_same st)
      have hp3 : ∀ p ∈ ps, p ∉ [s, ct] := fun p hp m => hpn p hp (by
        rcases List.mem_cons.mp m with q | q
        · rw [q]; exact hS'.sL
        · rw [List.mem_singleton.mp q]; exact hS'.cL)
      generalize upd H2 t (.tup [.str k, .int ((W.sr + ((parts.take i).filter fun k => decide (k ∈ ks)).length + 1 : Nat) : Int)]) = H3 at *
      have ne : ∀ p ∈ ps ++ [t], p ≠ D := fun p hp => by
        rcases List.mem_append.mp hp with hp | hp
        · exact fun q => hpn p hp (by rw [q]; exact List.mem_cons_self)
        · rw [List.mem_singleton.mp hp]; exact tD
      refine ⟨ps ++ [t], _, rfl, by rw [upd_same, List.map_append]; rfl, ?_, fun z hz => ?_, ?_, fun p hp => ?_, (sM.trans sM3).trans (mask_at List.mem_cons_self), ?_⟩
      · rw [hsn, List.length_append]
        exact hS3.keepL hS'.sL hS'.cL (mask_at List.mem_cons_self) (fun o e => by rw [upd_ne nsD]; exact e) (fun o e => by rw [upd_ne ncD]; exact e)
      · by_cases q : z = D
        · rw [q]; exact ⟨_, upd_same⟩
        · obtain ⟨o, eo⟩ := al3 z hz
          exact ⟨o, by rw [upd_ne q]; exact eo⟩
      · rw [hsn, loadE_snoc]
        have old : Paired (fun (p : Addr) (e : Str × Int) => (upd H3 D (.lst (ps.map V.ref ++ [.ref t]))) p = some (.tup [.str e.1, .int e.2])) ps (loadE W.sr ((parts.take i).filter fun k => decide (k ∈ ks))) := by
          have go : ∀ {ps : List Addr} {es : List (Str × Int)}, (∀ p ∈ ps, p ∉ [s, ct] ∧ p ≠ D) → Paired (fun (p : Addr) (e : Str × Int) => H' p = some (.tup [.str e.1, .int e.2])) ps es → Paired (fun (p : Addr) (e : Str × Int) => (upd H3 D (.lst (ps.map V.ref ++ [.ref t]))) p = some (.tup [.str e.1, .int e.2])) ps es → True := fun _ _ _ => trivial
          clear go
          have go : ∀ (o : HO) {qs : List Addr} {es : List (Str × Int)}, (∀ p ∈ qs, p ∉ [s, ct] ∧ p ≠ D) → Paired (fun (p : Addr) (e : Str × Int) => H' p = some (.tup [.str e.1, .int e.2])) qs es → Paired (fun (p : Addr) (e : Str × Int) => (upd H3 D o) p = some (.tup [.str e.1, .int e.2])) qs es := by
            intro o qs es h0 h
            induction h with
            | nil => exact .nil
            | cons h _ ih =>
              obtain ⟨h1, h2⟩ := h0 _ List.mem_cons_self
              exact .cons (by rw [upd_ne h2]; exact c3 _ _ h1 h) (ih fun p hp => h0 p (List.mem_cons_of_mem _ hp))
          exact go _ (fun p hp => ⟨hp3 p hp, ne p (List.mem_append.mpr (.inl hp))⟩) hps
        have app : ∀ {R : Addr → Str × Int → Prop} {qs : List Addr} {es : List (Str × Int)} {q : Addr} {e : Str × Int}, Paired R qs es → R q e → Paired R (qs ++ [q]) (es ++ [e]) := by
          intro R qs es q e h r
          induction h with
          | nil => exact .cons r .nil
          | cons h _ ih => exact .cons h ih
        refine app old ?_
        rw [upd_ne tD]; exact et
      · rcases List.mem_append.mp hp with hp | hp
        · exact hpn p hp
        · rw [List.mem_singleton.mp hp]; exact ntL
      · intro b o hb eb
        rw [upd_ne (ne_of_none eb nD)]
        exact c3 b o hb (cH b o hb eb)
    · obtain ⟨ps, y4, rfl, eD', hS', al', hps, hpn, sM, cH⟩ := hI
      rw [show (parts.map V.str).length = parts.length from List.length_map .., List.take_length] at hS' hps
      refine ⟨_, rfl, D, ps, rfl, SqL.of eD', fun p np => ?_⟩
      have sp := same_new (o := .frz (tupO ps) (.tup (ps.map V.ref))) np
      have ep : (upd H' p (.frz (tupO ps) (.tup (ps.map V.ref)))) p = some (.frz (tupO ps) (.tup (ps.map V.ref))) := upd_same
      have hps5 : Paired (fun (t : Addr) (e : Str × Int) => (upd H' p (.frz (tupO ps) (.tup (ps.map V.ref)))) t = some (.tup [.str e.1, .int e.2])) ps (loadE W.sr (parts.filter fun k => decide (k ∈ ks))) := paired_up (fun t e h => sp _ _ h) hps
      have hS5 : StAt K L (upd H' p (.frz (tupO ps) (.tup (ps.map V.ref)))) C CS s ct { W with sr := W.sr + (parts.filter fun k => decide (k ∈ ks)).length } := hS'.keepL hS.sL hS.cL ((mask_same sp).trans mask_less) (fun o e => sp _ _ e) (fun o e => sp _ _ e)
      have cH5 := cH.trans (Chg.of_same sp)
      have hq : Dq K (mask L (upd H' p (.frz (tupO ps) (.tup (ps.map V.ref))))) (.ref p) (TbD (loadE W.sr (parts.filter fun k => decide (k ∈ ks)))) := tab_dq2 (al'.of_cons.not np) (fun t ht m => hpn t ht (List.mem_cons_of_mem _ m)) ep hps5
      obtain ⟨ds5, bn5, es5⟩ := hS5.self
      obtain ⟨H6, hp6, ⟨o6, rfl⟩, hS6⟩ := hS5.putQ (x := x) hl hq
      exact ⟨_, rfl, s, CS, ds5, _, _, rfl, es5, S.cls, S.nc, stF_ct .., _, rfl, ct, _, rfl, hp6, kk .non _ (cH5.trans chg_ct) hS6 .non⟩
end
section
variable {P : Program} {w : World} {K : PySem.W.Frag} {mg : Str → Option Value} {base : Heap}
theorem scRo : FnScope ["state", "dice", "seeding", "rolled"] ["state", "dice"] (defScope sRoll) := ⟨rfl, rfl, rfl, by decide +kernel, rfl, by decide +kernel, by decide +kernel⟩
theorem ok_roll {f C CS : Addr} {fd : FuncData} (F : Fun K "_roll" "_roll" sRoll f fd) (S : StIn K mg CS) : FnOk P w K mg base CX0 1 f fd ["state", "dice"] (spAct K C CS rRoll) := by
  refine F.ok scRo (fun vs H Q E h => ?_) (fun cdv A outer s0 H vs Q E hr h => ?_)
  · obtain ⟨L, s, ct, W, W', args, ds, d, rfl, _, _, _, ha, ⟨x, a, b, rfl, _⟩, _⟩ := h
    rw [args1 ha]; rfl
  · obtain ⟨L, s, ct, W, W', args, ds, d, rfl, hS, hl, al, ha, ⟨x, a, b, rfl, e, rfl, rfl⟩, kk⟩ := h
    obtain rfl := args1 ha
    have hu := hu_of hr
    refine ⟨_, pss_cons (ps_asg (pe_dget hu (pe_fld (pv 0) rfl) (pv 1) (fun _ _ => rfl)) (pg_tup rfl (pgs_cons (pg_name (i := 2) scRo.nd rfl (.inl rfl)) (pgs_cons (pg_name (i := 3) scRo.nd rfl (.inl rfl)) pgs_nil))))
      (pss_cons (ps_dput hu (pe_fld (pv 0) rfl) (pv 1) (pe_tup (pa_cons (pv 2) (pa_cons (pe_op op_add (pv 3) pe_int) pa_nil))) rfl)
      (pss_one (ps_ret (pe_tup (pa_cons (pv 2) (pa_cons (pv 3) pa_nil)))))), ?_⟩
    obtain ⟨v, g, hd⟩ := hS.get e
    obtain ⟨ds0, bn, es⟩ := hS.self
    obtain ⟨t, rfl, ht⟩ := dp_pair hd
    have ht' : SqT K H t [.int a, .int b] := Same.seqT (mask_sub _ _) ht
    refine ⟨_, rfl, s, CS, ds0, _, _, rfl, es, S.cls, S.nc, stF_ct .., _, rfl, ct, _, rfl, g, ?_⟩
    refine ⟨t, _, rfl, ht', rfl, .int a, [.int b], rfl, .int b, [], rfl, rfl, ?_⟩
    refine ⟨_, rfl, _, rfl, b, 1, rfl, rfl, by show 2 ≤ sizeLine; decide, fun p np => ?_⟩
    have s1 := same_new (o := .tup [.int a, .int (b + 1)]) np
    have hS1 := hS.same s1
    have es1 := s1 _ _ es
    have dp1 : Dp K (mask L (upd H p (.tup [.int a, .int (b + 1)]))) (.ref p) (pair a (b + 1)) := new_pair al np
    have al1 := al.same s1
    refine ⟨_, rfl, s, CS, ds0, _, _, rfl, es1, S.cls, S.nc, stF_ct .., _, rfl, ct, ?_⟩
    have c1 : Chg [s, ct] H (upd H p (.tup [.int a, .int (b + 1)])) := .of_same s1
    generalize upd H p (.tup [.int a, .int (b + 1)]) = H1 at *
    obtain ⟨H2, hp, ⟨o2, rfl⟩, hS2⟩ := hS1.put (x := x) hl dp1
    refine ⟨_, rfl, hp, ?_⟩
    refine ⟨_, rfl, _, rfl, by show 2 ≤ sizeLine; decide, fun r nr => ?_⟩
    exact kk (.ref r) _ ((c1.trans chg_ct).trans (.new nr)) (hS2.same (same_new nr)) (new_pair al1.upd nr)
theorem scSe : FnScope ["state", "dice"] ["state", "dice"] (defScope sSeed) := ⟨rfl, rfl, rfl, by decide +kernel, rfl, by decide +kernel, by decide +kernel⟩
theorem ok_seed {f C CS : Addr} {fd : FuncData} (F : Fun K "_seed" "_seed" sSeed f fd) (S : StIn K mg CS) : FnOk P w K mg base CX0 1 f fd ["state", "dice"] (spAct K C CS rSeed) := by
  refine F.ok scSe (fun vs H Q E h => ?_) (fun cdv A outer s0 H vs Q E hr h => ?_)
  · obtain ⟨L, s, ct, W, W', args, ds, d, rfl, _, _, _, ha, ⟨x, rfl, _⟩, _⟩ := h
    rw [args1 ha]; rfl
  · obtain ⟨L, s, ct, W, W', args, ds, d, rfl, hS, hl, al, ha, ⟨x, rfl, rfl, rfl⟩, kk⟩ := h
    obtain rfl := args1 ha
    have hu := hu_of hr
    refine ⟨_, pss_cons (ps_fldaug (pv 0) pe_int in_add)
      (pss_one (ps_dput hu (pe_fld (pv 0) rfl) (pv 1) (pe_tup (pa_cons (pe_fld (pv 0) rfl) (pa_cons pe_int pa_nil))) rfl)), ?_⟩
    obtain ⟨ds0, bn, es⟩ := hS.self
    refine ⟨_, rfl, s, CS, ds0, _, _, rfl, es, S.cls, S.ns, stF_sd .., _, _, rfl, rfl, ds0, _, es, stF_len .., ?_⟩
    have ez : ((W.sd : Int) + 1) = ((W.sd + 1 : Nat) : Int) := by omega
    have eF : putF "seedings" (.int ((W.sd : Int) + 1)) (stF bn ct W.ft W.sd W.sr) = stF bn ct W.ft (W.sd + 1) W.sr := by rw [ez]; exact stF_see ..
    rw [eF]
    have hS1 := hS.count (f := W.ft) (sd := W.sd + 1) (sr := W.sr) es
    have es1 : (upd H s (.ins CS ds0 (stF bn ct W.ft (W.sd + 1) W.sr))) s = some (.ins CS ds0 (stF bn ct W.ft (W.sd + 1) W.sr)) := upd_same
    have c1 : Chg [s, ct] H (upd H s (.ins CS ds0 (stF bn ct W.ft (W.sd + 1) W.sr))) := chg_s
    have al1 : Alive L (upd H s (.ins CS ds0 (stF bn ct W.ft (W.sd + 1) W.sr))) := al.upd
    generalize upd H s (.ins CS ds0 (stF bn ct W.ft (W.sd + 1) W.sr)) = H1 at *
    refine ⟨_, rfl, s, CS, ds0, _, _, rfl, es1, S.cls, S.ns, stF_sd .., by show 2 ≤ sizeLine; decide, fun p np => ?_⟩
    have s2 := same_new (o := .tup [.int ((W.sd + 1 : Nat) : Int), .int 0]) np
    have dp1 : Dp K (mask L (upd H1 p (.tup [.int ((W.sd + 1 : Nat) : Int), .int 0]))) (.ref p) (pair ((W.sd + 1 : Nat) : Int) 0) := new_pair al1 np
    have hS2 := hS1.same s2
    have es2 := s2 _ _ es1
    have c2 := c1.trans (.of_same s2)
    generalize upd H1 p (.tup [.int ((W.sd + 1 : Nat) : Int), .int 0]) = H2 at *
    refine ⟨_, rfl, s, CS, ds0, _, _, rfl, es2, S.cls, S.nc, stF_ct .., _, rfl, ct, ?_⟩
    obtain ⟨H3, hp, ⟨o3, rfl⟩, hS3⟩ := hS2.put (x := x) hl dp1
    refine ⟨_, rfl, hp, ?_⟩
    exact kk .non _ (c2.trans chg_ct) hS3 .non
end
section
variable {P : Program} {w : World} {K : PySem.W.Frag} {mg : Str → Option Value} {base : Heap}
theorem scLi : FnScope ["state", "flag"] ["state", "flag"] (defScope sLift) := ⟨rfl, rfl, rfl, by decide +kernel, rfl, by decide +kernel, by decide +kernel⟩
theorem ok_lift {f C CS : Addr} {fd : FuncData} (F : Fun K "_lift" "_lift" sLift f fd) (S : StIn K mg CS) : FnOk P w K mg base CX0 1 f fd ["state", "flag"] (spAct K C CS rLift) := by
  refine F.ok scLi (fun vs H Q E h => ?_) (fun cdv A outer s0 H vs Q E hr h => ?_)
  · obtain ⟨L, s, ct, W, W', args, ds, d, rfl, _, _, _, ha, ⟨x, rfl, _⟩, _⟩ := h
    rw [args1 ha]; rfl
  · obtain ⟨L, s, ct, W, W', args, ds, d, rfl, hS, hl, al, ha, ⟨x, rfl, rfl, rfl⟩, kk⟩ := h
    obtain rfl := args1 ha
    have hu := hu_of hr
    refine ⟨_, pss_one (ps_dput hu (pe_fld (pv 0) rfl) (pv 1) pe_bl rfl), ?_⟩
    obtain ⟨ds0, bn, es⟩ := hS.self
    obtain ⟨H2, hp, ⟨o2, rfl⟩, hS2⟩ := hS.put (x := x) (v := .bl true) (d := .bool true) hl (.bl true)
    exact ⟨_, rfl, s, CS, ds0, _, _, rfl, es, S.cls, S.nc, stF_ct .., _, rfl, ct, _, rfl, hp, kk .non _ chg_ct hS2 .non⟩
theorem scRd : FnScope ["state", "flag", "lifted"] ["state", "flag"] (defScope sRead) := ⟨rfl, rfl, rfl, by decide +kernel, rfl, by decide +kernel, by decide +kernel⟩
theorem ok_read {f C CS : Addr} {fd : FuncData} (F : Fun K "_read" "_read" sRead f fd) (S : StIn K mg CS) : FnOk P w K mg base CX0 1 f fd ["state", "flag"] (spAct K C CS rRead) := by
  refine F.ok scRd (fun vs H Q E h => ?_) (fun cdv A outer s0 H vs Q E hr h => ?_)
  · obtain ⟨L, s, ct, W, W', args, ds, d, rfl, _, _, _, ha, ⟨x, rfl, _⟩, _⟩ := h
    rw [args1 ha]; rfl
  · obtain ⟨L, s, ct, W, W', args, ds, d, rfl, hS, hl, al, ha, ⟨x, rfl, e, rfl⟩, kk⟩ := h
    obtain rfl := args1 ha
    have hu := hu_of hr
    refine ⟨_, pss_cons (ps_set (i := 2) scRd.nd rfl (.inl rfl) (pe_dget hu (pe_fld (pv 0) rfl) (pv 1) (fun _ _ => rfl)))
      (pss_cons (ps_dput hu (pe_fld (pv 0) rfl) (pv 1) pe_bl rfl) (pss_one (ps_ret (pv 2)))), ?_⟩
    obtain ⟨ds0, bn, es⟩ := hS.self
    obtain ⟨v, g, hd⟩ := hS.get e
    obtain ⟨H2, hp, ⟨o2, rfl⟩, hS2⟩ := hS.put (x := x) (v := .bl false) (d := .bool false) hl (.bl false)
    exact ⟨_, rfl, s, CS, ds0, _, _, rfl, es, S.cls, S.nc, stF_ct .., _, rfl, ct, v, rfl, g, _, rfl, s, CS, ds0, _, _, rfl, es, S.cls, S.nc, stF_ct .., _, rfl, ct, _, rfl, hp, _, rfl, kk v _ chg_ct hS2 (dp_same (mask_at hS.cL) _ _ hd)⟩
theorem scVa : FnScope ["state", "name"] ["state", "name"] (defScope sValue) := ⟨rfl, rfl, rfl, by decide +kernel, rfl, by decide +kernel, by decide +kernel⟩
theorem ok_value {f C CS : Addr} {fd : FuncData} (F : Fun K "_value" "_value" sValue f fd) (S : StIn K mg CS) : FnOk P w K mg base CX0 1 f fd ["state", "name"] (spAct K C CS rValue) := by
  refine F.ok scVa (fun vs H Q E h => ?_) (fun cdv A outer s0 H vs Q E hr h => ?_)
  · obtain ⟨L, s, ct, W, W', args, ds, d, rfl, _, _, _, ha, ⟨x, rfl, _⟩, _⟩ := h
    rw [args1 ha]; rfl
  · obtain ⟨L, s, ct, W, W', args, ds, d, rfl, hS, hl, al, ha, ⟨x, rfl, e, rfl⟩, kk⟩ := h
    obtain rfl := args1 ha
    have hu := hu_of hr
    refine ⟨_, pss_one (ps_ret (pe_dget hu (pe_fld (pv 0) rfl) (pv 1) (fun _ _ => rfl))), ?_⟩
    obtain ⟨ds0, bn, es⟩ := hS.self
    obtain ⟨v, g, hd⟩ := hS.get e
    exact ⟨_, rfl, s, CS, ds0, _, _, rfl, es, S.cls, S.nc, stF_ct .., _, rfl, ct, v, rfl, g, kk v _ (.refl _ _) hS hd⟩
theorem scNs : FnScope ["self"] ["self"] (defScope (st 3)) := ⟨rfl, rfl, rfl, by decide +kernel, rfl, by decide +kernel, by decide +kernel⟩
theorem ok_serial {f C CS : Addr} {fd : FuncData} (F : Fun K "new_serial" "State.new_serial" (st 3) f fd) (S : StIn K mg CS) : FnOk P w K mg base CX0 1 f fd ["self"] (spSerial K C CS) := by
  refine F.ok scNs (fun vs H Q E h => ?_) (fun cdv A outer s0 H vs Q E hr h => ?_)
  · obtain ⟨L, s, ct, W, rfl, _⟩ := h
    rfl
  · obtain ⟨L, s, ct, W, rfl, hS, al, kk⟩ := h
    refine ⟨_, pss_cons (ps_fldaug (pv 0) pe_int in_add) (pss_one (ps_ret (pe_fld (pv 0) rfl))), ?_⟩
    obtain ⟨ds0, bn, es⟩ := hS.self
    refine ⟨_, rfl, s, CS, ds0, _, _, rfl, es, S.cls, S.nr, stF_sr .., _, _, rfl, rfl, ds0, _, es, stF_len .., ?_⟩
    have ez : ((W.sr : Int) + 1) = ((W.sr + 1 : Nat) : Int) := by omega
    have eF : putF "serials" (.int ((W.sr : Int) + 1)) (stF bn ct W.ft W.sd W.sr) = stF bn ct W.ft W.sd (W.sr + 1) := by rw [ez]; exact stF_ser ..
    rw [eF]
    have hS1 := hS.count (f := W.ft) (sd := W.sd) (sr := W.sr + 1) es
    exact ⟨_, rfl, s, CS, ds0, _, _, rfl, upd_same, S.cls, S.nr, stF_sr .., kk _ chg_s hS1 al.upd⟩
theorem scKe : FnScope ["state", "slot"] ["state", "slot"] (defScope sKeep) := ⟨rfl, rfl, rfl, by decide +kernel, rfl, by decide +kernel, by decide +kernel⟩
theorem ok_keep {f fN C CS : Addr} {fd fdN : FuncData} (F : Fun K "_keep" "_keep" sKeep f fd) (S : StIn K mg CS) (MN : Meth K CS "new_serial" fN) (GN : FnOk P w K mg base CX0 1 fN fdN ["self"] (spSerial K C CS)) (bN : Binds K fdN ["self"] []) : FnOk P w K mg base CX0 2 f fd ["state", "slot"] (spAct K C CS rKeep) := by
  refine F.ok scKe (fun vs H Q E h => ?_) (fun cdv A outer s0 H vs Q E hr h => ?_)
  · obtain ⟨L, s, ct, W, W', args, ds, d, rfl, _, _, _, ha, ⟨x, rfl, _⟩, _⟩ := h
    rw [args1 ha]; rfl
  · obtain ⟨L, s, ct, W, W', args, ds, d, rfl, hS, hl, al, ha, ⟨x, rfl, rfl, rfl⟩, kk⟩ := h
    obtain rfl := args1 ha
    have hu := hu_of hr
    refine ⟨_, pss_one (ps_dput hu (pe_fld (pv 0) rfl) (pv 1) (pe_meth0 (pv 0) S.cls MN GN hr bN .nil pass0) rfl), ?_⟩
    obtain ⟨ds0, bn, es⟩ := hS.self
    refine ⟨_, rfl, s, ds0, _, rfl, es, rfl, L, s, ct, W, rfl, hS, al, fun H1 c1 hS1 al1 => ?_⟩
    obtain ⟨ds1, bn1, es1⟩ := hS1.self
    obtain ⟨H2, hp, ⟨o2, rfl⟩, hS2⟩ := hS1.put (x := x) (v := .int ((W.sr + 1 : Nat) : Int)) (d := .int ((W.sr + 1 : Nat) : Int)) hl (.int _)
    exact ⟨_, rfl, s, CS, ds1, _, _, rfl, es1, S.cls, S.nc, stF_ct .., _, rfl, ct, _, rfl, hp, kk .non _ (c1.trans chg_ct) hS2 .non⟩
theorem scCp : FnScope ["state", "slot", "other"] ["state", "slot", "other"] (defScope sCopy) := ⟨rfl, rfl, rfl, by decide +kernel, rfl, by decide +kernel, by decide +kernel⟩
theorem ok_copy {f C CS : Addr} {fd : FuncData} (F : Fun K "_copy" "_copy" sCopy f fd) (S : StIn K mg CS) : FnOk P w K mg base CX0 1 f fd ["state", "slot", "other"] (spAct K C CS rCopy) := by
  refine F.ok scCp (fun vs H Q E h => ?_) (fun cdv A outer s0 H vs Q E hr h => ?_)
  · obtain ⟨L, s, ct, W, W', args, ds, d, rfl, _, _, _, ha, ⟨x, y, d0, rfl, _⟩, _⟩ := h
    rw [args2 ha]; rfl
  · obtain ⟨L, s, ct, W, W', args, ds, d, rfl, hS, hl, al, ha, ⟨x, y, d0, rfl, e, rfl, rfl⟩, kk⟩ := h
    obtain rfl := args2 ha
    have hu := hu_of hr
    refine ⟨_, pss_one (ps_dput hu (pe_fld (pv 0) rfl) (pv 1) (pe_dget hu (pe_fld (pv 0) rfl) (pv 2) (fun _ _ => rfl)) rfl), ?_⟩
    obtain ⟨ds0, bn, es⟩ := hS.self
    obtain ⟨v, g, hd⟩ := hS.getQ e
    obtain ⟨H2, hp, ⟨o2, rfl⟩, hS2⟩ := hS.putQ (x := x) hl hd
    exact ⟨_, rfl, s, CS, ds0, _, _, rfl, es, S.cls, S.nc, stF_ct .., _, rfl, ct, v, rfl, g, _, rfl, s, CS, ds0, _, _, rfl, es, S.cls, S.nc, stF_ct .., _, rfl, ct, _, rfl, hp, kk .non _ chg_ct hS2 .non⟩
theorem scBo : FnScope ["state", "slot"] ["state", "slot"] (defScope sBound) := ⟨rfl, rfl, rfl, by decide +kernel, rfl, by decide +kernel, by decide +kernel⟩
theorem ok_bound {f C CS : Addr} {fd : FuncData} (F : Fun K "_bound" "_bound" sBound f fd) (S : StIn K mg CS) : FnOk P w K mg base CX0 1 f fd ["state", "slot"] (spAct K C CS rBound) := by
  refine F.ok scBo (fun vs H Q E h => ?_) (fun cdv A outer s0 H vs Q E hr h => ?_)
  · obtain ⟨L, s, ct, W, W', args, ds, d, rfl, _, _, _, ha, ⟨x, d0, rfl, _⟩, _⟩ := h
    rw [args1 ha]; rfl
  · obtain ⟨L, s, ct, W, W', args, ds, d, rfl, hS, hl, al, ha, ⟨x, d0, rfl, e, rfl, rfl⟩, kk⟩ := h
    obtain rfl := args1 ha
    have hu := hu_of hr
    refine ⟨_, pss_one (ps_ret (pe_cmpR op_notN (pe_dget hu (pe_fld (pv 0) rfl) (pv 1) (fun _ _ => rfl)) pe_non (nomark _))), ?_⟩
    obtain ⟨ds0, bn, es⟩ := hS.self
    obtain ⟨v, g, hd⟩ := hS.get e
    refine ⟨_, rfl, s, CS, ds0, _, _, rfl, es, S.cls, S.nc, stF_ct .., _, rfl, ct, v, rfl, g, rfl, ?_⟩
    have ev : (!decide (v = V.non)) = isSomeD d0 := by
      cases hd <;> simp [isSomeD]
    show Q (.bl (!decide (v = V.non))) H
    rw [ev]
    exact kk _ _ (.refl _ _) hS (.bl _)
theorem scMk : FnScope ["state", "slot", "probe"] ["state", "slot", "probe"] (defScope sMark) := ⟨rfl, rfl, rfl, by decide +kernel, rfl, by decide +kernel, by decide +kernel⟩
theorem ok_mark {f C CS : Addr} {fd : FuncData} (F : Fun K "_mark" "_mark" sMark f fd) (S : StIn K mg CS) : FnOk P w K mg base CX0 1 f fd ["state", "slot", "probe"] (spAct K C CS rMark) := by
  refine F.ok scMk (fun vs H Q E h => ?_) (fun cdv A outer s0 H vs Q E hr h => ?_)
  · obtain ⟨L, s, ct, W, W', args, ds, d, rfl, _, _, _, ha, ⟨x, m, rfl, _⟩, _⟩ := h
    rw [args2 ha]; rfl
  · obtain ⟨L, s, ct, W, W', args, ds, d, rfl, hS, hl, al, ha, ⟨x, m, rfl, rfl, rfl⟩, kk⟩ := h
    obtain rfl := args2 ha
    have hu := hu_of hr
    refine ⟨_, pss_one (ps_dput hu (pe_fld (pv 0) rfl) (pv 1) (pv 2) rfl), ?_⟩
    obtain ⟨ds0, bn, es⟩ := hS.self
    obtain ⟨H2, hp, ⟨o2, rfl⟩, hS2⟩ := hS.put (x := x) (v := .str m) (d := .str m) hl (.str m)
    exact ⟨_, rfl, _, rfl, s, CS, ds0, _, _, rfl, es, S.cls, S.nc, stF_ct .., _, rfl, ct, _, rfl, hp, kk .non _ chg_ct hS2 .non⟩
end
/-! ### feeds -/
def triple (a b c : Int) : PyData := .tuple [.int a, .int b, .int c]
def fstIs (f : Int) (d : Option PyData) : Bool := match d with
  | some (.tuple (.int g :: _)) => g == f
  | _ => false
/-- take_until: all names of the row -/
def tkStep (f t len : Int) (cs : List (Str × PyData)) (e : Str × Str × List Str) : List (Str × PyData) := if e.2.1 = "feed" ∧ fstIs f (look cs e.1) = true then put cs e.1 (triple f t len) else cs
def tkU (th : Ths) (f t len : Int) (cs : List (Str × PyData)) : List (Str × PyData) := th.foldl (tkStep f t len) cs
/-- feeds have triples -/
def FeedsOk (th : Ths) (cs : List (Str × PyData)) : Prop := ∀ e ∈ th, e.2.1 = "feed" → ∃ a b c, look cs e.1 = some (triple a b c)
theorem triple_inj {a b c a' b' c' : Int} (h : triple a b c = triple a' b' c') : a = a' ∧ b = b' ∧ c = c' := by
  unfold triple at h
  injection h with h
  injection h with h1 h2
  injection h2 with h2 h3
  injection h3 with h3 _
  injection h1 with h1
  injection h2 with h2
  injection h3 with h3
  exact ⟨h1, h2, h3⟩
theorem tkStep_ok {th : Ths} {f t len : Int} {cs : List (Str × PyData)} {e : Str × Str × List Str} (h : FeedsOk th cs) : FeedsOk th (tkStep f t len cs e) := by
  intro e' he' hk
  unfold tkStep
  split
  · rw [look_put]
    split
    · exact ⟨f, t, len, rfl⟩
    · exact h e' he' hk
  · exact h e' he' hk
theorem tkU_ok {th : Ths} {f t len : Int} : ∀ {l : Ths} {cs : List (Str × PyData)}, FeedsOk th cs → FeedsOk th (tkU l f t len cs)
  | [], _, h => h
  | e :: r, _, h => tkU_ok (l := r) (tkStep_ok (e := e) h)
theorem tkStep_len {f t len : Int} {cs : List (Str × PyData)} {e : Str × Str × List Str} : (tkStep f t len cs e).length = cs.length := by
  unfold tkStep
  split
  · rename_i h
    cases q : look cs e.1 with
    | none => rw [q] at h; exact absurd h.2 (by simp [fstIs])
    | some d => exact put_len q
  · rfl
theorem tkU_len {f t len : Int} : ∀ {l : Ths} {cs : List (Str × PyData)}, (tkU l f t len cs).length = cs.length
  | [], _ => rfl
  | e :: r, cs => by
    show (tkU r f t len (tkStep f t len cs e)).length = _
    rw [tkU_len (l := r), tkStep_len]
theorem tkU_take {f t len : Int} {cs : List (Str × PyData)} {th : Ths} {i : Nat} {e : Str × Str × List Str} (h : th[i]? = some e) : tkU (th.take (i + 1)) f t len cs = tkStep f t len (tkU (th.take i) f t len cs) e := by
  unfold tkU
  rw [List.take_add_one, h, List.foldl_append]
  rfl
def spUntil (K : PySem.W.Frag) (C CS : Addr) : Sp := fun vs H Q _ => ∃ (L : List Addr) (s ct : Addr) (W : Ws) (x : Str) (f g len t : Int), vs = [.ref s, .str x, .int t] ∧ StAt K L H C CS s ct W ∧ W.cs.length ≤ 100 ∧ W.th.length ≤ 100 ∧ Alive L H ∧ FeedsOk W.th W.cs ∧ look W.cs x = some (triple f g len) ∧
  ∀ H', Chg [s, ct] H H' → StAt K L H' C CS s ct { W with cs := tkU W.th f t len W.cs } → Alive L H' → Q .non H'
theorem dp_triple {K : PySem.W.Frag} {M : Hp} {v : V} {a b c : Int} (h : Dp K M v (triple a b c)) : ∃ t, v = .ref t ∧ SqT K M t [.int a, .int b, .int c] := by
  obtain ⟨t, xs, rfl, ht, hx⟩ := dp_tup h
  obtain ⟨v1, r, rfl, h1, hx⟩ := dpAll_cons hx
  obtain ⟨v2, r, rfl, h2, hx⟩ := dpAll_cons hx
  obtain ⟨v3, r, rfl, h3, hx⟩ := dpAll_cons hx
  obtain rfl := dpAll_nil hx
  cases h1
  cases h2
  cases h3
  exact ⟨t, rfl, ht⟩
theorem new_triple {K : PySem.W.Frag} {L : List Addr} {H : Hp} {t : Addr} {a b c : Int} (al : Alive L H) (nt : H t = none) : Dp K (mask L (upd H t (.tup [.int a, .int b, .int c]))) (.ref t) (triple a b c) :=
  .tup (SqT.of (mask_upd (al.not nt))) (.cons (.int a) (.cons (.int b) (.cons (.int c) .nil)))
theorem upd_comm {H : Hp} {a b : Addr} {o u : HO} (h : a ≠ b) : upd (upd H a o) b u = upd (upd H b u) a o := by
  funext x
  by_cases h1 : x = a
  · subst h1
    rw [upd_ne h, upd_same, upd_same]
  · by_cases h2 : x = b
    · subst h2
      rw [upd_same, upd_ne h1, upd_same]
    · rw [upd_ne h2, upd_ne h1, upd_ne h1, upd_ne h2]
theorem upd_upd {H : Hp} {a : Addr} {o u : HO} : upd (upd H a o) a u = upd H a u := by
  funext x
  by_cases h1 : x = a
  · subst h1
    rw [upd_same, upd_same]
  · rw [upd_ne h1, upd_ne h1, upd_ne h1]
theorem StAt.get2 {K : PySem.W.Frag} {L : List Addr} {H : Hp} {C CS s ct : Addr} {W : Ws} {x : Str} {d : PyData} (h : StAt K L H C CS s ct W) (e : look W.cs x = some d) : ∃ l v, H ct = some (.dK (kvs l)) ∧ look l x = some v ∧ Dp K (mask L H) v d ∧ l.length = W.cs.length := by
  obtain ⟨sL, cL, ds, bn, tl, l, h1, h2, h3, h4, h5⟩ := h
  obtain ⟨v, e1, hd⟩ := h5.at e
  exact ⟨l, v, h4, e1, hd.dp, h5.len⟩
theorem dget_kvs {H : Hp} {ct : Addr} {l : List (Str × V)} {x : Str} {v : V} (h : H ct = some (.dK (kvs l))) (e : look l x = some v) : DGet H ct (.str x) (some v) := by
  have := DGet.k (k := Sum.inr x) h
  rw [valV_kvs, e] at this
  exact this
/-- the heap beside one object -/
theorem seqT_un {K : PySem.W.Frag} {H H' : Hp} {bn t : Addr} {xs : List V} {u : HO} (h : SqT K H t xs) (e : H bn = some u) (nt : ∀ ys, u ≠ .tup ys) (nf : ∀ o ys, u ≠ .frz o (.tup ys)) (c : ∀ b o, b ≠ bn → H b = some o → H' b = some o) : SqT K H' t xs := by
  rcases h with h | h
  · refine .inl ?_
    rcases h with h | ⟨o, h⟩
    · exact .inl (c _ _ (fun q => by rw [q, e] at h; cases h; exact nt _ rfl) h)
    · exact .inr ⟨o, c _ _ (fun q => by rw [q, e] at h; cases h; exact nf _ _ rfl) h⟩
  · exact .inr h
section
variable {P : Program} {w : World} {K : PySem.W.Frag} {mg : Str → Option Value} {base : Heap}
theorem scTu : FnScope ["self", "name", "taken", "fetching", "_", "length", "other", "thing"] ["self", "name", "taken"] (defScope (st 4)) := ⟨rfl, rfl, rfl, by decide +kernel, rfl, by decide +kernel, by decide +kernel⟩
theorem ok_until {f C CS : Addr} {fd : FuncData} (F : Fun K "take_until" "State.take_until" (st 4) f fd) (T : ThIn K mg C) (S : StIn K mg CS) : FnOk P w K mg base CX0 1 f fd ["self", "name", "taken"] (spUntil K C CS) := by
  refine F.ok scTu (fun vs H Q E h => ?_) (fun cdv A outer s0 H vs Q E hr h => ?_)
  · obtain ⟨L, s, ct, W, x, f, g, len, t, rfl, _⟩ := h
    rfl
  · obtain ⟨L, s, ct, W, x, f, g, len, t, rfl, hS, hl, hlt, al, hf, ex, kk⟩ := h
    have hu := hu_of hr
    refine ⟨_, pss_cons (ps_asg (pe_dget hu (pe_fld (pv 0) rfl) (pv 1) (fun _ _ => rfl)) (pg_tup rfl (pgs_cons (pg_name (i := 3) scTu.nd rfl (.inl rfl)) (pgs_cons (pg_name (i := 4) scTu.nd rfl (.inl rfl)) (pgs_cons (pg_name (i := 5) scTu.nd rfl (.inl rfl)) pgs_nil)))))
      (pss_one (ps_lock (ps_for PassesOwn.never rfl (pi_items (pe_fld (pv 0) rfl)) (pg_tup rfl (pgs_cons (pg_name (i := 6) scTu.nd rfl (.inl rfl)) (pgs_cons (pg_name (i := 7) scTu.nd rfl (.inl rfl)) pgs_nil)))
        (pss_one (ps_if (PW.pt (pw_and (pt_cmpR op_eq (pe_fld (pv 7) rfl) pe_str (nomark _)) (pw_and1 (pt_cmpR op_eq (pe_ix ix_tup (pe_dget hu (pe_fld (pv 0) rfl) (pv 6) (fun _ _ => rfl)) pe_int (fun _ _ => rfl)) (pv 3) (nomark _)))))
          (pss_one (ps_dput hu (pe_fld (pv 0) rfl) (pv 6) (pe_tup (pa_cons (pv 3) (pa_cons (pv 2) (pa_cons (pv 5) pa_nil)))) rfl)) pss_nil))))), ?_⟩
    obtain ⟨v, gv, hd⟩ := hS.get ex
    obtain ⟨tt, rfl, ht⟩ := dp_triple hd
    have hSx := hS
    obtain ⟨sL, cL, ds, bn, tl, l, h1, h2, h3, h4, h5⟩ := hSx
    have hbn := mask_sub _ _ _ _ h2
    refine ⟨_, rfl, s, CS, ds, _, _, rfl, h1, S.cls, S.nc, stF_ct .., _, rfl, ct, _, rfl, gv, ?_⟩
    refine ⟨tt, _, rfl, Same.seqT (mask_sub _ _) ht, rfl, .int f, [.int g, .int len], rfl, .int g, [.int len], rfl, .int len, [], rfl, rfl, ?_⟩
    have nsb : s ≠ bn := fun q => by rw [q, hbn] at h1; cases h1
    have ncb : ct ≠ bn := fun q => by
      rw [q] at cL
      rw [mask_in cL] at h2; cases h2
    have nbL : bn ∉ L := fun m => by rw [mask_in m] at h2; cases h2
    refine ⟨bn, .dK (kvs tl), hbn, trivial, fun od => ?_⟩
    have eq0 : upd (upd H bn (.frz od (.dK (kvs tl)))) bn (.dK (kvs tl)) = H := by
      rw [upd_upd]
      funext z
      by_cases q : z = bn
      · rw [q, upd_same, hbn]
      · rw [upd_ne q]
    refine ⟨_, rfl, s, CS, ds, _, _, rfl, by rw [upd_ne nsb]; exact h1, S.cls, S.nb, stF_bn .., bn, od, kvs tl, rfl, upd_same, ?_⟩
    have lth : tl.length = W.th.length := h3.len
    refine for_it (walk_items (d := bn) (o := od) (kvs := kvs tl)) (fun i σ H2 => ∃ y6 y7 : Option V, σ = [some (.ref s), some (.str x), some (.int t), some (.int f), some (.int g), some (.int len), y6, y7] ∧ H2 bn = some (.frz od (.dK (kvs tl))) ∧
        Chg [s, ct] H (upd H2 bn (.dK (kvs tl))) ∧ StAt K L (upd H2 bn (.dK (kvs tl))) C CS s ct { W with cs := tkU (W.th.take i) f t len W.cs } ∧ Alive L (upd H2 bn (.dK (kvs tl))))
      ⟨none, none, rfl, upd_same, by rw [eq0]; exact .refl _ _, by rw [eq0]; exact hS, by rw [eq0]; exact al⟩ (fun i σ H2 _ ⟨_, _, _, e, _⟩ => e) (fun i xv σ H2 H3 hi hI hy => ?_) (fun σ H2 hI => ?_)
    · obtain ⟨y6, y7, rfl, eb, cg, hS2, al2⟩ := hI
      obtain ⟨T', x1, x2, rfl, nT, rfl, hx1, hx2⟩ := hy
      rw [kvs_len] at hi
      obtain ⟨n, kind, parts, a, _, e1, e2, _⟩ := h3.get (i := i) (v := (tl[i]).2) (by rw [List.getElem?_map, List.getElem?_eq_getElem hi]; rfl)
      have ekv : (kvs tl)[i]? = some (Sum.inr n, .ref a) := by
        show (tl.map _)[i]? = _
        rw [List.getElem?_map, e1]; rfl
      replace hx1 : ((kvs tl)[i]?).map (fun kv => kV kv.1) = some x1 := hx1
      replace hx2 : ((kvs tl)[i]?).map Prod.snd = some x2 := hx2
      rw [ekv] at hx1 hx2
      obtain rfl : V.str n = x1 := Option.some.inj hx1
      obtain rfl : V.ref a = x2 := Option.some.inj hx2
      have nTb : T' ≠ bn := fun q => by rw [q, eb] at nT; cases nT
      have eT : (upd H2 T' (.tup [.str n, .ref a])) T' = some (.tup [.str n, .ref a]) := upd_same
      have eb3 : (upd H2 T' (.tup [.str n, .ref a])) bn = some (.frz od (.dK (kvs tl))) := by rw [upd_ne nTb.symm]; exact eb
      have nT2 : (upd H2 bn (.dK (kvs tl))) T' = none := by rw [upd_ne nTb]; exact nT
      have ev3 : upd (upd H2 T' (.tup [.str n, .ref a])) bn (.dK (kvs tl)) = upd (upd H2 bn (.dK (kvs tl))) T' (.tup [.str n, .ref a]) := upd_comm nTb
      have hS3 := hS2.same (same_new (o := .tup [.str n, .ref a]) nT2)
      have cg3 := cg.trans (.new (o := .tup [.str n, .ref a]) nT2)
      have al3 := al2.same (same_new (o := .tup [.str n, .ref a]) nT2)
      rw [← ev3] at hS3 cg3 al3
      generalize upd H2 T' (.tup [.str n, .ref a]) = H3 at *
      have real : ∀ b o, b ≠ bn → (upd H3 bn (.dK (kvs tl))) b = some o → H3 b = some o := fun b o nb e => by rw [upd_ne nb] at e; exact e
      have ebv : (upd H3 bn (.dK (kvs tl))) bn = some (.dK (kvs tl)) := upd_same
      -- the thing
      have hth3 : ThL K (mask L (upd H3 bn (.dK (kvs tl)))) C tl W.th := h3.same (by
        have := cg3.inL sL cL
        exact this.mask)
      obtain ⟨n', kind', parts', a', q1, q2, q3, th3⟩ := hth3.get (i := i) (v := .ref a) (by rw [List.getElem?_map, e1]; rfl)
      rw [e2] at q3
      cases Option.some.inj q3
      cases q1
      obtain ⟨dx, fs, tp, b1, b2, b3, b4, b5⟩ := th3
      have b1' := mask_sub _ _ _ _ b1
      have nab : a ≠ bn := fun q => by rw [q, ebv] at b1'; cases b1'
      obtain ⟨ds3, bn3, es3⟩ := hS3.self
      have es3' := real _ _ nsb es3
      refine ⟨T', _, rfl, SqT.of eT, rfl, .str n, [.ref a], rfl, .ref a, [], rfl, rfl, ?_⟩
      refine ⟨_, rfl, a, C, dx, fs, _, rfl, real _ _ nab b1', T.cls, T.nk, b2, rfl, _, rfl, ?_⟩
      have emem : (n, kind, parts) ∈ W.th := List.mem_of_getElem? e2
      have e2' : W.th[i]? = some (n, kind, parts) := e2
      refine ite2 (fun hk => ?_) (fun hk => ?_)
      · have ek : kind = "feed" := V.str.inj (of_decide_eq_true hk)
        subst ek
        have hf3 : FeedsOk W.th (tkU (W.th.take i) f t len W.cs) := tkU_ok hf
        obtain ⟨a1, a2, a3, el⟩ := hf3 _ emem rfl
        obtain ⟨l3, v3, ec3, lk3, hd3, ll3⟩ := hS3.get2 el
        obtain ⟨t3, rfl, ht3⟩ := dp_triple hd3
        have ht3' : SqT K H3 t3 [.int a1, .int a2, .int a3] := seqT_un (Same.seqT (mask_sub _ _) ht3) ebv (fun ys => by intro q; cases q) (fun o ys => by intro q; cases q) real
        refine ⟨_, rfl, s, CS, ds3, _, _, rfl, es3', S.cls, S.nc, stF_ct .., _, rfl, ct, _, rfl, dget_kvs (real _ _ ncb ec3) lk3, t3, _, 0, _, rfl, rfl, ht3', atI_nat (j := 0) rfl, _, rfl, rfl, _, rfl, ?_⟩
        refine ite2 (fun hq => ?_) (fun hq => ?_)
        · have eq1 : a1 = f := V.int.inj (of_decide_eq_true hq)
          subst eq1
          refine ⟨_, rfl, _, rfl, _, rfl, by show 3 ≤ sizeLine; decide, fun pp npp => ?_⟩
          have npb : pp ≠ bn := fun q => by rw [q, eb3] at npp; cases npp
          have npp2 : (upd H3 bn (.dK (kvs tl))) pp = none := by rw [upd_ne npb]; exact npp
          have hS4 := hS3.same (same_new (o := .tup [.int a1, .int t, .int len]) npp2)
          have dp4 := new_triple (K := K) (a := a1) (b := t) (c := len) al3 npp2
          have cg4 := cg3.trans (.new (o := .tup [.int a1, .int t, .int len]) npp2)
          have al4 := al3.same (same_new (o := .tup [.int a1, .int t, .int len]) npp2)
          have ev4 : upd (upd H3 pp (.tup [.int a1, .int t, .int len])) bn (.dK (kvs tl)) = upd (upd H3 bn (.dK (kvs tl))) pp (.tup [.int a1, .int t, .int len]) := upd_comm npb
          have es4 : (upd H3 pp (.tup [.int a1, .int t, .int len])) s = some (.ins CS ds3 (stF bn3 ct W.ft W.sd W.sr)) := same_new npp _ _ es3'
          have ec4 : (upd H3 pp (.tup [.int a1, .int t, .int len])) ct = some (.dK (kvs l3)) := same_new npp _ _ (real _ _ ncb ec3)
          have eb4 : (upd H3 pp (.tup [.int a1, .int t, .int len])) bn = some (.frz od (.dK (kvs tl))) := same_new npp _ _ eb3
          rw [← ev4] at hS4 dp4 cg4 al4
          generalize upd H3 pp (.tup [.int a1, .int t, .int len]) = H4 at *
          refine ⟨_, rfl, s, CS, ds3, _, _, rfl, es4, S.cls, S.nc, stF_ct .., _, rfl, ct, upd H4 ct (.dK (kvs (put l3 n (.ref pp)))), rfl, ?_, ?_⟩
          · have := DPut.k (k := Sum.inr n) (v := .ref pp) ec4 (small1000 (by rw [kvs_len, ll3, tkU_len]; omega))
            rw [putK_kvs] at this
            exact this
          · refine ⟨_, _, rfl, by rw [upd_ne ncb.symm]; exact eb4, ?_, ?_, ?_⟩
            · rw [upd_comm ncb]; exact cg4.trans chg_ct
            · rw [upd_comm ncb, tkU_take e2']
              obtain ⟨H5, hp5, ⟨o5, rfl⟩, hS5⟩ := hS4.put (x := n) (by show (tkU (W.th.take i) a1 t len W.cs).length ≤ 100; rw [tkU_len]; exact hl) dp4
              have eo : upd (upd H4 bn (.dK (kvs tl))) ct o5 = upd (upd H4 bn (.dK (kvs tl))) ct (.dK (kvs (put l3 n (.ref pp)))) := by
                rcases hp5 with ⟨kv5, k5, e5, y5, _, q5⟩ | ⟨kv5, k5, b5', e5, y5, _, _, _⟩
                · rw [upd_ne ncb] at e5
                  rw [ec4] at e5
                  cases e5
                  have k5e : k5 = Sum.inr n := by
                    cases k5 with
                    | inl i => cases y5
                    | inr z => cases y5; rfl
                  subst k5e
                  rw [q5, putK_kvs]
                · cases y5
              rw [eo] at hS5
              have est : tkStep a1 t len (tkU (W.th.take i) a1 t len W.cs) (n, "feed", parts) = put (tkU (W.th.take i) a1 t len W.cs) n (triple a1 t len) := by
                unfold tkStep
                rw [if_pos ⟨rfl, by rw [el]; simp [fstIs, triple]⟩]
              rw [est]
              exact hS5
            · rw [upd_comm ncb]; exact al4.upd
        · refine ⟨_, _, rfl, eb3, cg3, ?_, al3⟩
          have est : tkStep f t len (tkU (W.th.take i) f t len W.cs) (n, "feed", parts) = tkU (W.th.take i) f t len W.cs := by
            unfold tkStep
            rw [if_neg]
            rintro ⟨_, h⟩
            rw [el] at h
            have : a1 = f := by simpa [fstIs, triple] using h
            exact hq (decide_eq_true (by rw [this]))
          rw [tkU_take e2', est]
          exact hS3
      · refine ⟨_, _, rfl, eb3, cg3, ?_, al3⟩
        have est : tkStep f t len (tkU (W.th.take i) f t len W.cs) (n, kind, parts) = tkU (W.th.take i) f t len W.cs := by
          unfold tkStep
          rw [if_neg]
          rintro ⟨h, _⟩
          have h : kind = "feed" := h
          exact hk (decide_eq_true (by rw [h]))
        rw [tkU_take e2', est]
        exact hS3
    · obtain ⟨y6, y7, rfl, eb, cg, hS2, al2⟩ := hI
      rw [kvs_len, lth, List.take_length] at hS2
      exact ⟨eb, kk _ cg hS2 al2⟩
end
def rTake : Ws → List PyData → Ws → PyData → Prop := fun W ds W' d => FeedsOk W.th W.cs ∧ W.th.length ≤ 100 ∧ ∃ x f t len, ds = [.str x] ∧ look W.cs x = some (triple f t len) ∧ (t = len → W' = W ∧ d = .none) ∧ (t ≠ len → W' = { W with cs := tkU W.th f (t + 1) len W.cs } ∧ d = pair f t)
def rSkip : Ws → List PyData → Ws → PyData → Prop := fun W ds W' d => d = .none ∧ ∃ d', rTake W ds W' d'
def rDrain : Ws → List PyData → Ws → PyData → Prop := fun W ds W' d => FeedsOk W.th W.cs ∧ W.th.length ≤ 100 ∧ ∃ x f t len, ds = [.str x] ∧ look W.cs x = some (triple f t len) ∧ W' = { W with cs := tkU W.th f len len W.cs } ∧ d = .none
def rFetch : Ws → List PyData → Ws → PyData → Prop := fun W ds W' d => ∃ x len, ds = [.str x, .int len] ∧ W' = { W with cs := put W.cs x (triple ((W.ft + 1 : Nat) : Int) 0 len), ft := W.ft + 1 } ∧ d = .none
theorem args2i {K : PySem.W.Frag} {M : Hp} {args : List V} {x : Str} {i : Int} (h : DpAll K M args [.str x, .int i]) : args = [.str x, .int i] := by
  obtain ⟨v, r, rfl, h1, h2⟩ := dpAll_cons h
  obtain ⟨v2, r2, rfl, h3, h4⟩ := dpAll_cons h2
  obtain rfl := dpAll_nil h4
  cases h1
  cases h3
  rfl
section
variable {P : Program} {w : World} {K : PySem.W.Frag} {mg : Str → Option Value} {base : Heap}
theorem scTk : FnScope ["state", "feed", "fetching", "taken", "length"] ["state", "feed"] (defScope sTake) := ⟨rfl, rfl, rfl, by decide +kernel, rfl, by decide +kernel, by decide +kernel⟩
theorem ok_take {f fU C CS : Addr} {fd fdU : FuncData} (F : Fun K "_take" "_take" sTake f fd) (S : StIn K mg CS) (MU : Meth K CS "take_until" fU) (GU : FnOk P w K mg base CX0 1 fU fdU ["self", "name", "taken"] (spUntil K C CS)) (bU : Binds K fdU ["self", "name", "taken"] []) : FnOk P w K mg base CX0 2 f fd ["state", "feed"] (spAct K C CS rTake) := by
  refine F.ok scTk (fun vs H Q E h => ?_) (fun cdv A outer s0 H vs Q E hr h => ?_)
  · obtain ⟨L, s, ct, W, W', args, ds, d, rfl, _, _, _, ha, ⟨_, _, x, f, t, len, rfl, _⟩, _⟩ := h
    rw [args1 ha]; rfl
  · obtain ⟨L, s, ct, W, W', args, ds, d, rfl, hS, hl, al, ha, ⟨hf, hlt, x, f, t, len, rfl, e, q1, q2⟩, kk⟩ := h
    obtain rfl := args1 ha
    have hu := hu_of hr
    refine ⟨_, pss_cons (ps_asg (pe_dget hu (pe_fld (pv 0) rfl) (pv 1) (fun _ _ => rfl)) (pg_tup rfl (pgs_cons (pg_name (i := 2) scTk.nd rfl (.inl rfl)) (pgs_cons (pg_name (i := 3) scTk.nd rfl (.inl rfl)) (pgs_cons (pg_name (i := 4) scTk.nd rfl (.inl rfl)) pgs_nil)))))
      (pss_cons (ps_if (pt_cmpR op_eq (pv 3) (pv 4) (nomark _)) (pss_one (ps_ret pe_non)) pss_nil)
      (pss_cons (ps_expr (pe_meth (pv 0) S.cls MU GU hr bU .nil pass0 (pa_cons (pv 1) (pa_cons (pe_op op_add (pv 3) pe_int) pa_nil))))
      (pss_one (ps_ret (pe_tup (pa_cons (pv 2) (pa_cons (pv 3) pa_nil))))))), ?_⟩
    obtain ⟨v, g, hd⟩ := hS.get e
    obtain ⟨ds0, bn, es⟩ := hS.self
    obtain ⟨tt, rfl, ht⟩ := dp_triple hd
    refine ⟨_, rfl, s, CS, ds0, _, _, rfl, es, S.cls, S.nc, stF_ct .., _, rfl, ct, _, rfl, g, ?_⟩
    refine ⟨tt, _, rfl, Same.seqT (mask_sub _ _) ht, rfl, .int f, [.int t, .int len], rfl, .int t, [.int len], rfl, .int len, [], rfl, rfl, ?_⟩
    refine ⟨_, rfl, _, rfl, rfl, _, rfl, ite2 (fun hq => ?_) (fun hq => ?_)⟩
    · have hq : t = len := V.int.inj (of_decide_eq_true hq)
      obtain ⟨rfl, rfl⟩ := q1 hq
      exact kk .non H (.refl _ _) hS .non
    · obtain ⟨rfl, rfl⟩ := q2 fun q => hq (decide_eq_true (by rw [q]))
      refine ⟨_, rfl, s, ds0, _, rfl, es, rfl, _, rfl, _, rfl, t, 1, rfl, rfl, ?_⟩
      refine ⟨L, s, ct, W, x, f, t, len, t + 1, rfl, hS, hl, hlt, al, hf, e, fun H1 c1 hS1 al1 => ?_⟩
      refine ⟨_, rfl, _, rfl, by show 2 ≤ sizeLine; decide, fun r nr => ?_⟩
      exact kk (.ref r) _ (c1.trans (.new nr)) (hS1.same (same_new nr)) (new_pair al1 nr)
theorem scSk : FnScope ["state", "feed"] ["state", "feed"] (defScope sSkip) := ⟨rfl, rfl, rfl, by decide +kernel, rfl, by decide +kernel, by decide +kernel⟩
theorem ok_skip {f fT C CS : Addr} {fd fdT : FuncData} (F : Fun K "_skip" "_skip" sSkip f fd) (GT : FnOk P w K mg base CX0 2 fT fdT ["state", "feed"] (spAct K C CS rTake)) (mT : mg "_take" = some (.ref fT)) (kT : PySem.W.keepIn K (.ref fT) = true) (bT : Binds K fdT ["state", "feed"] []) : FnOk P w K mg base CX0 3 f fd ["state", "feed"] (spAct K C CS rSkip) := by
  refine F.ok scSk (fun vs H Q E h => ?_) (fun cdv A outer s0 H vs Q E hr h => ?_)
  · obtain ⟨L, s, ct, W, W', args, ds, d, rfl, _, _, _, ha, ⟨_, _, _, _, x, f, t, len, rfl, _⟩, _⟩ := h
    rw [args1 ha]; rfl
  · obtain ⟨L, s, ct, W, W', args, ds, d, rfl, hS, hl, al, ha, ⟨rfl, d', hR⟩, kk⟩ := h
    obtain ⟨x, rfl⟩ : ∃ x, ds = [.str x] := by
      obtain ⟨_, _, x, _, _, _, e, _⟩ := hR
      exact ⟨x, e⟩
    obtain rfl := args1 ha
    refine ⟨_, pss_one (ps_expr (pe_call GT hr (by rfl) mT kT bT .nil pass0 (pa_cons (pv 0) (pa_cons (pv 1) pa_nil)))), ?_⟩
    exact ⟨_, rfl, _, rfl, L, s, ct, W, W', [.str x], [.str x], d', rfl, hS, hl, al, ha, hR, fun v H' c hS' _ => kk .non H' c hS' .non⟩
theorem scDra : FnScope ["state", "feed", "length"] ["state", "feed"] (defScope sDrain) := ⟨rfl, rfl, rfl, by decide +kernel, rfl, by decide +kernel, by decide +kernel⟩
theorem ok_drain {f fU C CS : Addr} {fd fdU : FuncData} (F : Fun K "_drain" "_drain" sDrain f fd) (S : StIn K mg CS) (MU : Meth K CS "take_until" fU) (GU : FnOk P w K mg base CX0 1 fU fdU ["self", "name", "taken"] (spUntil K C CS)) (bU : Binds K fdU ["self", "name", "taken"] []) : FnOk P w K mg base CX0 2 f fd ["state", "feed"] (spAct K C CS rDrain) := by
  refine F.ok scDra (fun vs H Q E h => ?_) (fun cdv A outer s0 H vs Q E hr h => ?_)
  · obtain ⟨L, s, ct, W, W', args, ds, d, rfl, _, _, _, ha, ⟨_, _, x, f, t, len, rfl, _⟩, _⟩ := h
    rw [args1 ha]; rfl
  · obtain ⟨L, s, ct, W, W', args, ds, d, rfl, hS, hl, al, ha, ⟨hf, hlt, x, f, t, len, rfl, e, rfl, rfl⟩, kk⟩ := h
    obtain rfl := args1 ha
    have hu := hu_of hr
    refine ⟨_, pss_cons (ps_set (i := 2) scDra.nd rfl (.inl rfl) (pe_ix ix_tup (pe_dget hu (pe_fld (pv 0) rfl) (pv 1) (fun _ _ => rfl)) pe_int (fun _ _ => rfl)))
      (pss_one (ps_expr (pe_meth (pv 0) S.cls MU GU hr bU .nil pass0 (pa_cons (pv 1) (pa_cons (pv 2) pa_nil))))), ?_⟩
    obtain ⟨v, g, hd⟩ := hS.get e
    obtain ⟨ds0, bn, es⟩ := hS.self
    obtain ⟨tt, rfl, ht⟩ := dp_triple hd
    refine ⟨_, rfl, s, CS, ds0, _, _, rfl, es, S.cls, S.nc, stF_ct .., _, rfl, ct, _, rfl, g, tt, _, 2, _, rfl, rfl, Same.seqT (mask_sub _ _) ht, atI_nat (j := 2) rfl, ?_⟩
    refine ⟨_, rfl, s, ds0, _, rfl, es, rfl, _, rfl, _, rfl, ?_⟩
    exact ⟨L, s, ct, W, x, f, t, len, len, rfl, hS, hl, hlt, al, hf, e, fun H1 c1 hS1 al1 => kk .non H1 c1 hS1 .non⟩
theorem scFe : FnScope ["state", "feed", "length"] ["state", "feed", "length"] (defScope sFetch) := ⟨rfl, rfl, rfl, by decide +kernel, rfl, by decide +kernel, by decide +kernel⟩
theorem ok_fetch {f C CS : Addr} {fd : FuncData} (F : Fun K "_fetch" "_fetch" sFetch f fd) (S : StIn K mg CS) : FnOk P w K mg base CX0 1 f fd ["state", "feed", "length"] (spAct K C CS rFetch) := by
  refine F.ok scFe (fun vs H Q E h => ?_) (fun cdv A outer s0 H vs Q E hr h => ?_)
  · obtain ⟨L, s, ct, W, W', args, ds, d, rfl, _, _, _, ha, ⟨x, len, rfl, _⟩, _⟩ := h
    rw [args2i ha]; rfl
  · obtain ⟨L, s, ct, W, W', args, ds, d, rfl, hS, hl, al, ha, ⟨x, len, rfl, rfl, rfl⟩, kk⟩ := h
    obtain rfl := args2i ha
    have hu := hu_of hr
    refine ⟨_, pss_cons (ps_fldaug (pv 0) pe_int in_add)
      (pss_one (ps_dput hu (pe_fld (pv 0) rfl) (pv 1) (pe_tup (pa_cons (pe_fld (pv 0) rfl) (pa_cons pe_int (pa_cons (pv 2) pa_nil)))) rfl)), ?_⟩
    obtain ⟨ds0, bn, es⟩ := hS.self
    refine ⟨_, rfl, s, CS, ds0, _, _, rfl, es, S.cls, S.nf, stF_f .., _, _, rfl, rfl, ds0, _, es, stF_len .., ?_⟩
    have ez : ((W.ft : Int) + 1) = ((W.ft + 1 : Nat) : Int) := by omega
    have eF : putF "fetchings" (.int ((W.ft : Int) + 1)) (stF bn ct W.ft W.sd W.sr) = stF bn ct (W.ft + 1) W.sd W.sr := by rw [ez]; exact stF_fet ..
    rw [eF]
    have hS1 := hS.count (f := W.ft + 1) (sd := W.sd) (sr := W.sr) es
    have es1 : (upd H s (.ins CS ds0 (stF bn ct (W.ft + 1) W.sd W.sr))) s = some (.ins CS ds0 (stF bn ct (W.ft + 1) W.sd W.sr)) := upd_same
    have c1 : Chg [s, ct] H (upd H s (.ins CS ds0 (stF bn ct (W.ft + 1) W.sd W.sr))) := chg_s
    have al1 : Alive L (upd H s (.ins CS ds0 (stF bn ct (W.ft + 1) W.sd W.sr))) := al.upd
    generalize upd H s (.ins CS ds0 (stF bn ct (W.ft + 1) W.sd W.sr)) = H1 at *
    refine ⟨_, rfl, s, CS, ds0, _, _, rfl, es1, S.cls, S.nf, stF_f .., _, rfl, by show 3 ≤ sizeLine; decide, fun p np => ?_⟩
    have s2 := same_new (o := .tup [.int ((W.ft + 1 : Nat) : Int), .int 0, .int len]) np
    have dp1 := new_triple (K := K) (a := ((W.ft + 1 : Nat) : Int)) (b := 0) (c := len) al1 np
    have hS2 := hS1.same s2
    have es2 := s2 _ _ es1
    have c2 := c1.trans (.of_same s2)
    generalize upd H1 p (.tup [.int ((W.ft + 1 : Nat) : Int), .int 0, .int len]) = H2 at *
    refine ⟨_, rfl, s, CS, ds0, _, _, rfl, es2, S.cls, S.nc, stF_ct .., _, rfl, ct, ?_⟩
    obtain ⟨H3, hp, ⟨o3, rfl⟩, hS3⟩ := hS2.put (x := x) hl dp1
    exact ⟨_, rfl, hp, kk .non _ (c2.trans chg_ct) hS3 .non⟩
theorem scBi : FnScope ["state", "feed", "other"] ["state", "feed", "other"] (defScope sBind) := ⟨rfl, rfl, rfl, by decide +kernel, rfl, by decide +kernel, by decide +kernel⟩
theorem ok_bind {f C CS : Addr} {fd : FuncData} (F : Fun K "_bind" "_bind" sBind f fd) (S : StIn K mg CS) : FnOk P w K mg base CX0 1 f fd ["state", "feed", "other"] (spAct K C CS rCopy) := by
  refine F.ok scBi (fun vs H Q E h => ?_) (fun cdv A outer s0 H vs Q E hr h => ?_)
  · obtain ⟨L, s, ct, W, W', args, ds, d, rfl, _, _, _, ha, ⟨x, y, d0, rfl, _⟩, _⟩ := h
    rw [args2 ha]; rfl
  · obtain ⟨L, s, ct, W, W', args, ds, d, rfl, hS, hl, al, ha, ⟨x, y, d0, rfl, e, rfl, rfl⟩, kk⟩ := h
    obtain rfl := args2 ha
    have hu := hu_of hr
    refine ⟨_, pss_one (ps_dput hu (pe_fld (pv 0) rfl) (pv 1) (pe_dget hu (pe_fld (pv 0) rfl) (pv 2) (fun _ _ => rfl)) rfl), ?_⟩
    obtain ⟨ds0, bn, es⟩ := hS.self
    obtain ⟨v, g, hd⟩ := hS.getQ e
    obtain ⟨H2, hp, ⟨o2, rfl⟩, hS2⟩ := hS.putQ (x := x) hl hd
    exact ⟨_, rfl, s, CS, ds0, _, _, rfl, es, S.cls, S.nc, stF_ct .., _, rfl, ct, v, rfl, g, _, rfl, s, CS, ds0, _, _, rfl, es, S.cls, S.nc, stF_ct .., _, rfl, ct, _, rfl, hp, kk .non _ chg_ct hS2 .non⟩
end
/-! ### sources and fields -/
def rRenew : Ws → List PyData → Ws → PyData → Prop := fun W ds W' d => ∃ x, ds = [.str x] ∧ W' = { W with cs := put W.cs x .none } ∧ d = .none
/-- a look, so deep at most -/
inductive LookR (th : Ths) : Nat → List (Str × PyData) → Str → List (Str × PyData) → PyData → Prop where
  | full {n : Nat} {cs : List (Str × PyData)} {x : Str} {d : PyData} (e : look cs x = some d) (h : d ≠ .none) (ht : isTab d = false) : LookR th n cs x cs d
  | down {n : Nat} {cs cs' : List (Str × PyData)} {x o k : Str} {r : List Str} {d : PyData} (e : look cs x = some .none) (t : look th x = some (k, o :: r)) (h : LookR th n cs o cs' d) : LookR th (n + 1) cs x (put cs' x d) d
theorem LookR.has {th : Ths} {n : Nat} {cs cs' : List (Str × PyData)} {x : Str} {d : PyData} (h : LookR th n cs x cs' d) : names cs' = names cs ∧ cs'.length = cs.length := by
  induction h with
  | full e h _ => exact ⟨rfl, rfl⟩
  | @down n cs cs' x o k r d e t h ih =>
    obtain ⟨v, ev⟩ := look_some (l := cs') (n := x) (by rw [ih.1]; exact List.mem_map.mpr ⟨_, look_mem e, rfl⟩)
    exact ⟨by rw [put_names ev]; exact ih.1, by rw [put_len ev]; exact ih.2⟩
theorem LookR.noTab {th : Ths} {n : Nat} {cs cs' : List (Str × PyData)} {x : Str} {d : PyData} (h : LookR th n cs x cs' d) : isTab d = false := by
  induction h with
  | full e h ht => exact ht
  | down e t h ih => exact ih
def rLookN (n : Nat) : Ws → List PyData → Ws → PyData → Prop := fun W ds W' d => ∃ x cs', ds = [.str x] ∧ LookR W.th n W.cs x cs' d ∧ W' = { W with cs := cs' }
theorem StAt.thing5 {K : PySem.W.Frag} {L : List Addr} {H : Hp} {C CS s ct : Addr} {W : Ws} {x k : Str} {parts : List Str} (h : StAt K L H C CS s ct W) (e : look W.th x = some (k, parts)) : ∃ ds bn a, H s = some (.ins CS ds (stF bn ct W.ft W.sd W.sr)) ∧ DGet H bn (.str x) (some (.ref a)) ∧ ThingAt K H C a k x parts :=
  let ⟨ds, bn, a, e1, g, t⟩ := h.thing e
  ⟨ds, bn, a, e1, g, t.same (mask_sub _ _)⟩
section
variable {P : Program} {w : World} {K : PySem.W.Frag} {mg : Str → Option Value} {base : Heap}
theorem scCh : FnScope ["state", "source"] ["state", "source"] (defScope sChange) := ⟨rfl, rfl, rfl, by decide +kernel, rfl, by decide +kernel, by decide +kernel⟩
theorem ok_change {f fN C CS : Addr} {fd fdN : FuncData} (F : Fun K "_change" "_change" sChange f fd) (S : StIn K mg CS) (MN : Meth K CS "new_serial" fN) (GN : FnOk P w K mg base CX0 1 fN fdN ["self"] (spSerial K C CS)) (bN : Binds K fdN ["self"] []) : FnOk P w K mg base CX0 2 f fd ["state", "source"] (spAct K C CS rKeep) := by
  refine F.ok scCh (fun vs H Q E h => ?_) (fun cdv A outer s0 H vs Q E hr h => ?_)
  · obtain ⟨L, s, ct, W, W', args, ds, d, rfl, _, _, _, ha, ⟨x, rfl, _⟩, _⟩ := h
    rw [args1 ha]; rfl
  · obtain ⟨L, s, ct, W, W', args, ds, d, rfl, hS, hl, al, ha, ⟨x, rfl, rfl, rfl⟩, kk⟩ := h
    obtain rfl := args1 ha
    have hu := hu_of hr
    refine ⟨_, pss_one (ps_dput hu (pe_fld (pv 0) rfl) (pv 1) (pe_meth0 (pv 0) S.cls MN GN hr bN .nil pass0) rfl), ?_⟩
    obtain ⟨ds0, bn, es⟩ := hS.self
    refine ⟨_, rfl, s, ds0, _, rfl, es, rfl, L, s, ct, W, rfl, hS, al, fun H1 c1 hS1 al1 => ?_⟩
    obtain ⟨ds1, bn1, es1⟩ := hS1.self
    obtain ⟨H2, hp, ⟨o2, rfl⟩, hS2⟩ := hS1.put (x := x) (v := .int ((W.sr + 1 : Nat) : Int)) (d := .int ((W.sr + 1 : Nat) : Int)) hl (.int _)
    exact ⟨_, rfl, s, CS, ds1, _, _, rfl, es1, S.cls, S.nc, stF_ct .., _, rfl, ct, _, rfl, hp, kk .non _ (c1.trans chg_ct) hS2 .non⟩
theorem scRn : FnScope ["state", "field"] ["state", "field"] (defScope sRenew) := ⟨rfl, rfl, rfl, by decide +kernel, rfl, by decide +kernel, by decide +kernel⟩
theorem ok_renew {f C CS : Addr} {fd : FuncData} (F : Fun K "_renew" "_renew" sRenew f fd) (S : StIn K mg CS) : FnOk P w K mg base CX0 1 f fd ["state", "field"] (spAct K C CS rRenew) := by
  refine F.ok scRn (fun vs H Q E h => ?_) (fun cdv A outer s0 H vs Q E hr h => ?_)
  · obtain ⟨L, s, ct, W, W', args, ds, d, rfl, _, _, _, ha, ⟨x, rfl, _⟩, _⟩ := h
    rw [args1 ha]; rfl
  · obtain ⟨L, s, ct, W, W', args, ds, d, rfl, hS, hl, al, ha, ⟨x, rfl, rfl, rfl⟩, kk⟩ := h
    obtain rfl := args1 ha
    have hu := hu_of hr
    refine ⟨_, pss_one (ps_dput hu (pe_fld (pv 0) rfl) (pv 1) pe_non rfl), ?_⟩
    obtain ⟨ds0, bn, es⟩ := hS.self
    obtain ⟨H2, hp, ⟨o2, rfl⟩, hS2⟩ := hS.put (x := x) (v := .non) (d := .none) hl .non
    exact ⟨_, rfl, s, CS, ds0, _, _, rfl, es, S.cls, S.nc, stF_ct .., _, rfl, ct, _, rfl, hp, kk .non _ chg_ct hS2 .non⟩
theorem scLk : FnScope ["state", "field", "over"] ["state", "field"] (defScope sLook) := ⟨rfl, rfl, rfl, by decide +kernel, rfl, by decide +kernel, by decide +kernel⟩
theorem look_step {f f' C CS : Addr} {fd fd' : FuncData} (F : Fun K "_look" "_look" sLook f fd) (T : ThIn K mg C) (S : StIn K mg CS) (mf : mg "_look" = some (.ref f')) (kf : PySem.W.keepIn K (.ref f') = true) (bf : Binds K fd' ["state", "field"] []) (n : Nat) (sp : Sp) (IH : FnOk P w K mg base CX0 n f' fd' ["state", "field"] sp) (hsp : ∀ (L : List Addr) (s ct : Addr) (W : Ws) (x : Str) (cs' : List (Str × PyData)) (d : PyData) (m : Nat) (H : Hp) (Q : VK) (E : XK), n = m + 1 → StAt K L H C CS s ct W → W.cs.length ≤ 100 → Alive L H → LookR W.th m W.cs x cs' d → (∀ v H', Chg [s, ct] H H' → StAt K L H' C CS s ct { W with cs := cs' } → Dp K (mask L H') v d → Q v H') → sp [.ref s, .str x] H Q E) : FnOk P w K mg base CX0 (n + 1) f fd ["state", "field"] (spAct K C CS (rLookN n)) := by
  refine F.ok scLk (fun vs H Q E h => ?_) (fun cdv A outer s0 H vs Q E hr h => ?_)
  · obtain ⟨L, s, ct, W, W', args, ds, d, rfl, _, _, _, ha, ⟨x, cs', rfl, _⟩, _⟩ := h
    rw [args1 ha]; rfl
  · obtain ⟨L, s, ct, W, W', args, ds, d, rfl, hS, hl, al, ha, ⟨x, cs', rfl, hR, rfl⟩, kk⟩ := h
    obtain rfl := args1 ha
    have hu := hu_of hr
    refine ⟨_, pss_cons (ps_if (pt_cmpR op_isN (pe_dget hu (pe_fld (pv 0) rfl) (pv 1) (fun _ _ => rfl)) pe_non (nomark _))
        (pss_cons (ps_set (i := 2) scLk.nd rfl (.inl rfl) (pe_ix ix_tup (pe_fld (pe_dget hu (pe_fld (pv 0) rfl) (pv 1) (fun _ _ => rfl)) rfl) pe_int (fun _ _ => rfl)))
        (pss_one (ps_dput hu (pe_fld (pv 0) rfl) (pv 1) (pe_call IH hr (by rfl) mf kf bf .nil pass0 (pa_cons (pv 0) (pa_cons (pv 2) pa_nil))) rfl))) pss_nil)
      (pss_one (ps_ret (pe_dget hu (pe_fld (pv 0) rfl) (pv 1) (fun _ _ => rfl)))), ?_⟩
    obtain ⟨ds0, bn, es⟩ := hS.self
    cases hR with
    | full e hne _ =>
      obtain ⟨v, g, hd⟩ := hS.get e
      have hv : v ≠ .non := fun q => by
        rw [q] at hd
        cases hd
        exact hne rfl
      refine ⟨_, rfl, s, CS, ds0, _, _, rfl, es, S.cls, S.nc, stF_ct .., _, rfl, ct, v, rfl, g, rfl, _, rfl, ?_⟩
      rw [decide_eq_false hv]
      refine iteF ⟨_, rfl, s, CS, ds0, _, _, rfl, es, S.cls, S.nc, stF_ct .., _, rfl, ct, v, rfl, g, kk v H (.refl _ _) hS hd⟩
    | @down m _ cs1 _ o k r d e t hR1 =>
      obtain ⟨v, g, hd⟩ := hS.get e
      obtain rfl : v = .non := by cases hd; rfl
      refine ⟨_, rfl, s, CS, ds0, _, _, rfl, es, S.cls, S.nc, stF_ct .., _, rfl, ct, _, rfl, g, rfl, _, rfl, iteT ?_⟩
      obtain ⟨ds1, bn1, a, es1, gb, dx, fs, tt, b1, b2, b3, b4, b5⟩ := hS.thing5 t
      refine ⟨_, rfl, s, CS, ds1, _, _, rfl, es1, S.cls, S.nb, stF_bn .., _, rfl, bn1, _, rfl, gb, a, C, dx, fs, _, rfl, b1, T.cls, T.np, b4, tt, _, 0, _, rfl, rfl, b5, atI_nat (j := 0) rfl, ?_⟩
      refine ⟨_, rfl, _, rfl, ?_⟩
      refine hsp L s ct W o cs1 d m H _ _ rfl hS hl al hR1 fun v1 H1 c1 hS1 hd1 => ?_
      obtain ⟨ds2, bn2, es2⟩ := hS1.self
      have hcl : cs1.length ≤ 100 := by rw [hR1.has.2]; exact hl
      obtain ⟨H2, hp, ⟨o2, rfl⟩, hS2⟩ := hS1.putQ (x := x) hcl (dq_of hd1 hR1.noTab)
      refine ⟨_, rfl, s, CS, ds2, _, _, rfl, es2, S.cls, S.nc, stF_ct .., _, rfl, ct, _, rfl, hp, ?_⟩
      obtain ⟨ds3, bn3, es3⟩ := hS2.self
      obtain ⟨v3, g3, hd3⟩ := hS2.get (x := x) (d := d) (by show look (put cs1 x d) x = some d; rw [look_put, if_pos rfl])
      exact ⟨_, rfl, s, CS, ds3, _, _, rfl, es3, S.cls, S.nc, stF_ct .., _, rfl, ct, v3, rfl, g3, kk v3 _ (c1.trans chg_ct) hS2 hd3⟩
theorem look_sp {C CS : Addr} (n : Nat) : ∀ (L : List Addr) (s ct : Addr) (W : Ws) (x : Str) (cs' : List (Str × PyData)) (d : PyData) (m : Nat) (H : Hp) (Q : VK) (E : XK), n + 1 = m + 1 → StAt K L H C CS s ct W → W.cs.length ≤ 100 → Alive L H → LookR W.th m W.cs x cs' d → (∀ v H', Chg [s, ct] H H' → StAt K L H' C CS s ct { W with cs := cs' } → Dp K (mask L H') v d → Q v H') → spAct K C CS (rLookN n) [.ref s, .str x] H Q E := by
  intro L s ct W x cs' d m H Q E h hS hl al hR k
  obtain rfl : n = m := by omega
  exact ⟨L, s, ct, W, { W with cs := cs' }, [.str x], [.str x], d, rfl, hS, hl, al, .cons (.str x) .nil, ⟨x, cs', rfl, hR, rfl⟩, k⟩
theorem ok_look {f C CS : Addr} {fd : FuncData} (F : Fun K "_look" "_look" sLook f fd) (T : ThIn K mg C) (S : StIn K mg CS) (mf : mg "_look" = some (.ref f)) (kf : PySem.W.keepIn K (.ref f) = true) (bf : Binds K fd ["state", "field"] []) : ∀ n, FnOk P w K mg base CX0 (n + 1) f fd ["state", "field"] (spAct K C CS (rLookN n)) := by
  intro n
  induction n with
  | zero => exact look_step F T S mf kf bf 0 (fun _ _ _ _ => False) fn_never fun L s ct W x cs' d m H Q E h => absurd h (by omega)
  | succ n ih => exact look_step F T S mf kf bf (n + 1) _ ih (look_sp n)
/-- a look by another name -/
theorem ok_look2 {f f' C CS : Addr} {fd fd' : FuncData} (F : Fun K "_look" "_look" sLook f fd) (F' : Fun K "_look" "_look" sLook f' fd') (T : ThIn K mg C) (S : StIn K mg CS) (mf : mg "_look" = some (.ref f')) (kf : PySem.W.keepIn K (.ref f') = true) (bf : Binds K fd' ["state", "field"] []) (n : Nat) : FnOk P w K mg base CX0 (n + 2) f fd ["state", "field"] (spAct K C CS (rLookN (n + 1))) :=
  look_step F T S mf kf bf (n + 1) _ (ok_look F' T S mf kf bf n) (look_sp n)
end
/-! ### done, World.do, world[name] -/
/-- what the written part says of a deed's word -/
structure ActK (P : Program) (w : World) (K : PySem.W.Frag) (mg : Str → Option Value) (base : Heap) (C CS dP dA : Addr) (word : Str) (kinds : List Str) (R : Ws → List PyData → Ws → PyData → Prop) : Prop where
  parts : PartsK K w dP word kinds
  ex : ∃ f, KDct K w dA word (.ref f) ∧ FnR P w K mg base CX0 10 f (spAct K C CS R) ∧ PySem.W.keepIn K (.ref f) = true
def spDone (P : Program) (w : World) (K : PySem.W.Frag) (mg : Str → Option Value) (base : Heap) (dA : Addr) : Sp := fun vs H Q E => ∃ (s a : Addr) (word : Str) (args : List V) (f : Addr) (sp : Sp), vs = [.ref s, .ref a] ∧ SqT K H a (.str word :: args) ∧ KDct K w dA word (.ref f) ∧ FnR P w K mg base CX0 10 f sp ∧ PySem.W.keepIn K (.ref f) = true ∧ ∀ H1, Same H H1 → sp (.ref s :: args) H1 Q E0
/-- world.do(deed), the world unwatched -/
def spDo (P : Program) (w : World) (K : PySem.W.Frag) (mg : Str → Option Value) (base : Heap) (C CS CW dP dA : Addr) : Sp := fun vs H Q _ => ∃ (wo s ct a : Addr) (L : List Addr) (tvs : List V) (W W' : Ws) (word : Str) (args : List V) (ds : List PyData) (kinds : List Str) (R : Ws → List PyData → Ws → PyData → Prop) (d : PyData), vs = [.ref wo, .ref a] ∧
  WoAt K L H CW wo s tvs ∧ StAt K L H C CS s ct W ∧ SqT K (mask L H) a (.str word :: args) ∧ DpAll K (mask L H) args ds ∧ args.length ≤ 100 ∧ ActK P w K mg base C CS dP dA word kinds R ∧ Paired GoodArg kinds ds ∧ Paired (CheckArg W.th (ds.headD .none)) kinds ds ∧
  W.cs.length ≤ 100 ∧ Alive L H ∧ R W ds W' d ∧ ∀ v H', Chg [s, ct] H H' → StAt K L H' C CS s ct W' → Dp K (mask L H') v d → Q v H'
def spCont (K : PySem.W.Frag) (C CS CW : Addr) : Sp := fun vs H Q _ => ∃ (wo s ct : Addr) (L : List Addr) (tvs : List V) (W : Ws) (x : Str), vs = [.ref wo, .str x] ∧ WoAt K L H CW wo s tvs ∧ StAt K L H C CS s ct W ∧ Q (.bl (look W.cs x).isSome) H
def spItem (K : PySem.W.Frag) (C CS CW : Addr) : Sp := fun vs H Q _ => ∃ (wo s ct : Addr) (L : List Addr) (tvs : List V) (W : Ws) (x : Str) (d : PyData), vs = [.ref wo, .str x] ∧ WoAt K L H CW wo s tvs ∧ StAt K L H C CS s ct W ∧ look W.cs x = some d ∧ ∀ v, Dp K (mask L H) v d → Q v H
theorem WoAt.of {K : PySem.W.Frag} {L : List Addr} {H : Hp} {CW wo s : Addr} {tvs : List V} (h : WoAt K L H CW wo s tvs) : ∃ dw t, H wo = some (.ins CW dw (woF t s .non)) := by
  obtain ⟨dw, t, h1, _⟩ := h
  exact ⟨dw, t, mask_sub _ _ _ _ h1⟩
theorem WoAt.keep {K : PySem.W.Frag} {L : List Addr} {H H' : Hp} {CW wo s : Addr} {tvs : List V} (h : WoAt K L H CW wo s tvs) (c : Same (mask L H) (mask L H')) : WoAt K L H' CW wo s tvs := by
  obtain ⟨dw, t, h1, h2⟩ := h
  exact ⟨dw, t, c _ _ h1, Same.seqT c h2⟩
theorem StAt.dict {K : PySem.W.Frag} {L : List Addr} {H : Hp} {C CS s ct : Addr} {W : Ws} (h : StAt K L H C CS s ct W) : ∃ (ds bn : Addr) (tl : List (Str × V)), H s = some (.ins CS ds (stF bn ct W.ft W.sd W.sr)) ∧ H bn = some (.dK (kvs tl)) ∧ ThL K H C tl W.th := by
  obtain ⟨sL, cL, ds, bn, tl, l, h1, h2, h3, h4, h5⟩ := h
  exact ⟨ds, bn, tl, h1, mask_sub _ _ _ _ h2, h3.same (mask_sub _ _)⟩
theorem StAt.noneAt {K : PySem.W.Frag} {L : List Addr} {H : Hp} {C CS s ct : Addr} {W : Ws} (h : StAt K L H C CS s ct W) (x : Str) : ∃ o : Option V, DGet H ct (.str x) o ∧ o.isSome = (look W.cs x).isSome := by
  obtain ⟨sL, cL, ds, bn, tl, l, h1, h2, h3, h4, h5⟩ := h
  refine ⟨look l x, ?_, ?_⟩
  · have := DGet.k (k := Sum.inr x) h4
    rw [valV_kvs] at this
    exact this
  · cases e : look W.cs x with
    | none => rw [h5.none e]; rfl
    | some d =>
      obtain ⟨v, e1, _⟩ := h5.at e
      rw [e1]
      rfl
section
variable {P : Program} {w : World} {K : PySem.W.Frag} {mg : Str → Option Value} {base : Heap}
theorem scDn : FnScope ["state", "deed", "action", "rest"] ["state", "deed"] (defScope sDone) := ⟨rfl, rfl, rfl, by decide +kernel, rfl, by decide +kernel, by decide +kernel⟩
theorem ok_done {f dA : Addr} {fd : FuncData} (F : Fun K "done" "done" sDone f fd) (mA : mg "ACTIONS" = some (.ref dA)) : FnOk P w K mg base CX0 11 f fd ["state", "deed"] (spDone P w K mg base dA) := by
  refine F.ok scDn (fun vs H Q E h => ?_) (fun cdv A outer s0 H vs Q E hr h => ?_)
  · obtain ⟨s, a, word, args, f, sp, rfl, _⟩ := h
    rfl
  · obtain ⟨s, a, word, args, fa, sp, rfl, ht, hk, hF, hkp, kk⟩ := h
    refine ⟨_, pss_cons (ps_set (i := 2) scDn.nd rfl (.inl rfl) (pe_ix ix_kdict (pe_glob (v := .ref dA) rfl mA rfl) (pe_ix ix_tup (pv 1) pe_int (fun _ _ => rfl)) (fun _ _ => rfl)))
      (pss_cons (ps_set (i := 3) scDn.nd rfl (.inl rfl) (pe_slice sl_tup (pv 1) (po_some pe_int) po_none))
      (pss_one (ps_ret (pe_callLS (i := 2) (E := E0) hr rfl (.inl rfl) pass0 (pa_cons (pv 0) (StX.pa_star (pv 3) pa_nil)))))), ?_⟩
    refine ⟨_, rfl, a, _, 0, _, rfl, rfl, ht, atI_nat (j := 0) rfl, dA, word, .ref fa, rfl, rfl, hk, ?_⟩
    refine ⟨_, rfl, 1, rfl, a, _, rfl, ht, ?_, fun c nc => ?_⟩
    · rintro ⟨h2, _⟩
      rw [show HT.sIx (V.str word :: args).length 0 (some 1) = min 1 (V.str word :: args).length from HT.sIx_nat _ 0 1, List.length_cons] at h2
      omega
    rw [cut_tail]
    refine ⟨fa, sp, rfl, hF, hkp, _, rfl, _, rfl, c, args, rfl, .inl (SqT.of upd_same), ?_⟩
    show sp (V.ref s :: (args ++ [])) _ Q E0
    rw [List.append_nil]
    exact kk _ (same_new nc)
theorem scDo : FnScope ["self", "deed", "answer"] ["self", "deed"] (defScope (wo 1)) := ⟨rfl, rfl, rfl, by decide +kernel, rfl, by decide +kernel, by decide +kernel⟩
theorem ok_do {f fD fC fN C CS CW dP dA : Addr} {fd fdD fdC fdN : FuncData} (F : Fun K "do" "World.do" (wo 1) f fd) (S : StIn K mg CS) (W : WoIn K mg CW) (GD : FnOk P w K mg base CX0 11 fD fdD ["deed"] (spIsDeed K w dP)) (mD : mg "is_deed" = some (.ref fD)) (kD : PySem.W.keepIn K (.ref fD) = true) (bD : Binds K fdD ["deed"] [])
    (GC : FnOk P w K mg base CX0 11 fC fdC ["by_name", "deed"] (spCheck K w C dP)) (mC : mg "check_deed" = some (.ref fC)) (kC : PySem.W.keepIn K (.ref fC) = true) (bC : Binds K fdC ["by_name", "deed"] [])
    (GN : FnOk P w K mg base CX0 11 fN fdN ["state", "deed"] (spDone P w K mg base dA)) (mN : mg "done" = some (.ref fN)) (kN : PySem.W.keepIn K (.ref fN) = true) (bN : Binds K fdN ["state", "deed"] []) : FnOk P w K mg base CX0 12 f fd ["self", "deed"] (spDo P w K mg base C CS CW dP dA) := by
  refine F.ok scDo (fun vs H Q E h => ?_) (fun cdv A outer s0 H vs Q E hr h => ?_)
  · obtain ⟨wo', s, ct, a, L, tvs, W, W', word, args, ds, kinds, R, d, rfl, _⟩ := h
    rfl
  · obtain ⟨wo', s, ct, a, L, tvs, W1, W', word, args, ds, kinds, R, d, rfl, hW, hS, ht, hargs, hal, hA, hg, hc, hl, al, hR, kk⟩ := h
    refine ⟨_, pss_cons (ps_if (pt_not (pt_val (pe_call GD hr (by rfl) mD kD bD .nil pass0 (pa_cons (pv 1) pa_nil)))) (pss_one ps_never) pss_nil)
      (pss_cons (ps_expr (pe_call GC hr (by rfl) mC kC bC .nil pass0 (pa_cons (pe_fld (pe_fld (pv 0) rfl) rfl) (pa_cons (pv 1) pa_nil))))
      (pss_cons (ps_set (i := 2) scDo.nd rfl (.inl rfl) (pe_call GN hr (by rfl) mN kN bN .nil pass0 (pa_cons (pe_fld (pv 0) rfl) (pa_cons (pv 1) pa_nil))))
      (pss_cons (ps_if (pt_cmpR op_notN (pe_fld (pv 0) rfl) pe_non (nomark _)) (pss_one ps_never) pss_nil)
      (pss_one (ps_ret (pv 2)))))), ?_⟩
    obtain ⟨fa, hk, hF, hkp⟩ := hA.ex
    refine ⟨_, rfl, a, word, args, ds, kinds, rfl, Same.seqT (mask_sub _ _) ht, dpAll_same (mask_sub _ _) _ _ hargs, hA.parts, hal, hg, fun H1 s1 => ?_⟩
    refine ⟨_, rfl, iteF ?_⟩
    have hW1 := hW.keep (mask_same s1)
    have hS1 := hS.same s1
    have ht1 := Same.seqT (mask_same s1) ht
    have ha1 := dpAll_same (mask_same s1) _ _ hargs
    obtain ⟨dw, t, ew⟩ := hW1.of
    obtain ⟨ds0, bn, tl, es, ebn, hth⟩ := hS1.dict
    refine ⟨_, rfl, wo', CW, dw, _, _, rfl, ew, W.cls, W.ns, woF_s .., s, CS, ds0, _, _, rfl, es, S.cls, S.nb, stF_bn .., _, rfl, ?_⟩
    refine ⟨bn, a, tl, W1.th, word, args, ds, kinds, rfl, ebn, hth, Same.seqT (mask_sub _ _) ht1, dpAll_same (mask_sub _ _) _ _ ha1, hA.parts, hc, fun H2 s2 => ?_⟩
    have hW2 := hW1.keep (mask_same s2)
    have hS2 := hS1.same s2
    have ht2 := Same.seqT (mask_same s2) ht1
    have ha2 := dpAll_same (mask_same s2) _ _ ha1
    refine ⟨_, rfl, wo', CW, dw, _, _, rfl, s2 _ _ ew, W.cls, W.ns, woF_s .., _, rfl, ?_⟩
    refine ⟨s, a, word, args, fa, _, rfl, Same.seqT (mask_sub _ _) ht2, hk, hF, hkp, fun H3 s3 => ?_⟩
    refine ⟨L, s, ct, W1, W', args, ds, d, rfl, hS2.same s3, hl, al.same ((s1.trans s2).trans s3), dpAll_same (mask_same s3) _ _ ha2, hR, fun v H4 c4 hS4 hd4 => ?_⟩
    have hW4 := (hW2.keep (mask_same s3)).keep (c4.inL hS.sL hS.cL).mask
    obtain ⟨dw4, t4, ew4⟩ := hW4.of
    refine ⟨_, rfl, wo', CW, dw4, _, _, rfl, ew4, W.cls, W.nl, woF_l .., rfl, _, rfl, iteF ?_⟩
    exact ⟨_, rfl, kk v H4 ((Chg.of_same ((s1.trans s2).trans s3)).trans c4) hS4 hd4⟩
theorem scCo : FnScope ["self", "name"] ["self", "name"] (defScope (wo 6)) := ⟨rfl, rfl, rfl, by decide +kernel, rfl, by decide +kernel, by decide +kernel⟩
theorem ok_cont {f C CS CW : Addr} {fd : FuncData} {k : Nat} (F : Fun K "__contains__" "World.__contains__" (wo 6) f fd) (S : StIn K mg CS) (W : WoIn K mg CW) (B : Bts mg) : FnOk P w K mg base CX0 (k + 1) f fd ["self", "name"] (spCont K C CS CW) := by
  refine F.ok scCo (fun vs H Q E h => ?_) (fun cdv A outer s0 H vs Q E hr h => ?_)
  · obtain ⟨wo', s, ct, L, tvs, W, x, rfl, _⟩ := h
    rfl
  · obtain ⟨wo', s, ct, L, tvs, W1, x, rfl, hW, hS, kk⟩ := h
    have hu := hu_of hr
    refine ⟨_, pss_one (ps_ret (pe_and (pe_callB call_isi (by rfl) B.isinstance (by decide +kernel) (pa_cons (pv 1) (pa_cons (pe_bltn (v := .ty "str") (by rfl) B.str (by decide +kernel) rfl) pa_nil))) (pe_one (pe_cmp (pc_din hu (pv 1) (pe_fld (pe_fld (pv 0) rfl) rfl)) rfl)))), ?_⟩
    obtain ⟨dw, t, ew⟩ := hW.of
    obtain ⟨ds0, bn, es⟩ := hS.self
    obtain ⟨o, g, eo⟩ := hS.noneAt x
    refine ⟨_, rfl, _, _, _, _, true, rfl, .ty _, TyX.base (TyOf.str x), kit_ty (by decide +kernel), _, rfl, iteT ?_⟩
    refine ⟨_, rfl, _, rfl, wo', CW, dw, _, _, rfl, ew, W.cls, W.ns, woF_s .., s, CS, ds0, _, _, rfl, es, S.cls, S.nc, stF_ct .., ct, o, rfl, g, ?_⟩
    rw [eo]
    exact kk
theorem scIt : FnScope ["self", "name"] ["self", "name"] (defScope (wo 4)) := ⟨rfl, rfl, rfl, by decide +kernel, rfl, by decide +kernel, by decide +kernel⟩
theorem ok_item {f fC C CS CW : Addr} {fd : FuncData} {k : Nat} (F : Fun K "__getitem__" "World.__getitem__" (wo 4) f fd) (S : StIn K mg CS) (W : WoIn K mg CW) (hs : PySem.W.findIn K (.ref CW) "__contains__" = some (some (.ref fC))) (hf : PySem.W.isFn K (.ref fC) = true) (GC : FnR P w K mg base CX0 k fC (spCont K C CS CW)) :
    FnOk P w K mg base CX0 (k + 1) f fd ["self", "name"] (spItem K C CS CW) := by
  refine F.ok scIt (fun vs H Q E h => ?_) (fun cdv A outer s0 H vs Q E hr h => ?_)
  · obtain ⟨wo', s, ct, L, tvs, W, x, d, rfl, _⟩ := h
    rfl
  · obtain ⟨wo', s, ct, L, tvs, W1, x, d, rfl, hW, hS, e, kk⟩ := h
    have hu := hu_of hr
    refine ⟨_, pss_cons (ps_if (pt_cmpR (op_notInOwn hs hf GC hr pass0) (pv 1) (pv 0) (by rfl)) (pss_one ps_never) pss_nil)
      (pss_one (ps_ret (pe_dget hu (pe_fld (pe_fld (pv 0) rfl) rfl) (pv 1) (fun _ _ => rfl)))), ?_⟩
    obtain ⟨dw, t, ew⟩ := hW.of
    obtain ⟨ds0, bn, es⟩ := hS.self
    obtain ⟨v, g, hd⟩ := hS.get e
    refine ⟨_, rfl, _, rfl, wo', dw, _, rfl, ew, wo', s, ct, L, tvs, W1, x, rfl, hW, hS, _, rfl, _, rfl, ?_⟩
    rw [e]
    refine iteF ⟨_, rfl, wo', CW, dw, _, _, rfl, ew, W.cls, W.ns, woF_s .., s, CS, ds0, _, _, rfl, es, S.cls, S.nc, stF_ct .., _, rfl, ct, v, rfl, g, kk v hd⟩
end
/-! ### _law_names -/
theorem abc_is (k : Nat) (h : k < 26) : abc.cps.toList[k]? = some (97 + k) := by
  have all : ∀ k : Fin 26, abc.cps.toList[k.val]? = some (97 + k.val) := by decide +kernel
  exact all ⟨k, h⟩
theorem cps_app (a b : Str) : (a ++ b).cps.toList = a.cps.toList ++ b.cps.toList := by
  show (a.cps ++ b.cps).toList = _
  rw [Array.toList_append]
/-- the sign that tells a name from the others -/
def signOf (fr : Bool) (z : Str) : Option Nat := if fr = true then z.cps.toList.head? else z.cps.toList.getLast?
theorem sign_front (c : Nat) (w : Str) : signOf true ((⟨#[c]⟩ : Str) ++ w) = some c := by
  unfold signOf
  rw [if_pos rfl, cps_app]
  rfl
theorem sign_back (c : Nat) (w : Str) : signOf false (w ++ (⟨#[c]⟩ : Str)) = some c := by
  unfold signOf
  rw [if_neg (by decide), cps_app]
  show (w.cps.toList ++ [c]).getLast? = some c
  rw [List.getLast?_append]
  rfl
theorem signs_nodup {fr : Bool} {ns : List Str} (h : ∀ (j : Nat) (z : Str), ns[j]? = some z → signOf fr z = some (97 + j)) : ns.Nodup := by
  refine List.pairwise_iff_getElem.mpr fun i j hi hj hij e => ?_
  have h1 := h i _ (List.getElem?_eq_getElem hi)
  have h2 := h j _ (List.getElem?_eq_getElem hj)
  rw [e, h2] at h1
  have := Option.some.inj h1
  omega
theorem strLen_one (c : Nat) : (⟨#[c]⟩ : Str).length = 1 := rfl
def spLNames : Sp := fun vs H Q _ => ∃ (p q : Addr) (n many : Nat), vs = [.ref p, .int (many : Int)] ∧ PoolAt H p q n ∧ n < 900000 ∧ many ≤ 26 ∧
  ∀ (r : Addr) (ns : List Str) (n' : Nat) (H' : Hp), H r = none → ns.length = many → (∀ x ∈ ns, IsWord x) → ns.Nodup → n ≤ n' → n' ≤ n + 2 + 8 * many → PoolAt H' p q n' → Keeps p q H H' → H' r = some (.lst (ns.map V.str)) → Q (.ref r) H'
section
variable {P : Program} {w : World} {K : PySem.W.Frag} {mg : Str → Option Value} {base : Heap}
theorem scLN : FnScope ["pool", "many", "letters", "size", "front", "names", "k", "word", "j"] ["pool", "many"] (defScope sLNames) := ⟨rfl, rfl, rfl, by decide +kernel, rfl, by decide +kernel, by decide +kernel⟩
theorem ok_lnames {f fD : Addr} {fd fdD : FuncData} (F : Fun K "_law_names" "_law_names" sLNames f fd) (GD : FnOk P w K mg base CX0 1 fD fdD ["pool", "many"] spDraw) (mD : mg "_law_draw" = some (.ref fD)) (kD : PySem.W.keepIn K (.ref fD) = true)
    (bD : Binds K fdD ["pool", "many"] []) (mr : mg "range" = none) : FnOk P w K mg base CX0 2 f fd ["pool", "many"] spLNames := by
  refine F.ok scLN (fun vs H Q E h => ?_) (fun cdv A outer s H vs Q E hr h => ?_)
  · obtain ⟨p, q, n, many, rfl, _⟩ := h
    rfl
  · obtain ⟨p, q, n, many, rfl, hP, hn, hm, kk⟩ := h
    refine ⟨_, pss_cons (ps_set (i := 2) scLN.nd rfl (.inr rfl) pe_str)
      (pss_cons (ps_set (i := 3) scLN.nd rfl (.inl rfl) (pe_call GD hr (by rfl) mD kD bD .nil pass0 (pa_cons (pv 0) (pa_cons pe_int pa_nil))))
      (pss_cons (ps_set (i := 4) scLN.nd rfl (.inl rfl) (pe_call GD hr (by rfl) mD kD bD .nil pass0 (pa_cons (pv 0) (pa_cons pe_int pa_nil))))
      (pss_cons (ps_set (i := 5) scLN.nd rfl (.inl rfl) (pe_lst pa_nil))
      (pss_cons (ps_for PassesOwn.never rfl (pi_range1 (by rfl) mr (pa_cons (pv 1) pa_nil)) (pg_name (i := 6) scLN.nd rfl (.inl rfl))
        (pss_cons (ps_set (i := 7) scLN.nd rfl (.inl rfl) (pe_join pe_str (pe_lc (own := [("j", 8)]) (g := gName 8) (tt := tYes) rfl scLN.nd
            (pi_range1 (by rfl) mr (pa_cons (pv 3) pa_nil)) (blkOk_by (N := ["pool", "many", "letters", "size", "front", "names", "k", "word", "j"]) (sc := defScope sLNames) (by decide +kernel))
            (fun _ _ _ _ _ => pg_name (i := 8) scLN.nd rfl (.inl rfl)) (fun _ _ _ _ _ => pts_nil)
            (fun _ _ _ _ _ => pe_ix ix_str (pv 2) (pe_call GD hr (by rfl) mD kD bD .nil pass0 (pa_cons (pv 0) (pa_cons pe_int pa_nil))) (fun _ _ => rfl)))))
        (pss_one (ps_expr (pe_bm PySem.F.plainAttrs_list PySem.F.slot_list_append PySem.F.type_list_append mt_append (pv 5)
          (pa_cons (pe_ifExp (pt_truth (pv 4) (by intro _; rfl)) (pe_op op_add_str (pe_ix ix_str (pv 2) (pv 6) (fun _ _ => rfl)) (pv 7)) (pe_op op_add_str (pv 7) (pe_ix ix_str (pv 2) (pv 6) (fun _ _ => rfl)))) pa_nil))))))
      (pss_one (ps_ret (pv 5))))))), ?_⟩
    refine ⟨.ref p, rfl, p, q, n, 8, rfl, hP, by omega, by decide, by decide, fun d H1 h0 h1 P1 K1 => ?_⟩
    refine ⟨.ref p, rfl, p, q, n + 1, 2, rfl, P1, by omega, by decide, by decide, fun fr H2 f0 f1 P2 K2 => ?_⟩
    refine ⟨by show 0 ≤ sizeLine; decide, fun r nr => ?_⟩
    have K12 : Keeps p q H H2 := K1.trans K2
    have alv : Alive [p, q] H2 := P2.alive
    have nrp : r ≠ p := fun z => alv.not nr (by rw [z]; exact List.mem_cons_self)
    have nrq : r ≠ q := fun z => alv.not nr (by rw [z]; exact List.mem_cons_of_mem _ List.mem_cons_self)
    have nrH : H r = none := K12.free nr nrp nrq
    have er : (upd H2 r (.lst [])) r = some (.lst (([] : List Str).map V.str)) := upd_same
    have P3 : PoolAt (upd H2 r (.lst [])) p q (n + 2) := P2.new nr
    have K3 : Keeps p q H (upd H2 r (.lst [])) := K12.trans (.upd_new nr)
    generalize upd H2 r (.lst []) = H3 at *
    have fb : ∃ fb : Bool, fb = (fr != 0) := ⟨_, rfl⟩
    obtain ⟨fb, efb⟩ := fb
    refine ⟨_, rfl, many, rfl, by omega, by omega, for_range (lo := 0) (n := many) (fun i σ H4 => ∃ (y6 y7 : Option V) (ns : List Str) (m : Nat), σ = [some (.ref p), some (.int (many : Int)), some (.str abc), some (.int d), some (.int fr), some (.ref r), y6, y7, none] ∧
        H4 r = some (.lst (ns.map V.str)) ∧ ns.length = i ∧ (∀ x ∈ ns, IsWord x) ∧ (∀ (j : Nat) (z : Str), ns[j]? = some z → signOf fb z = some (97 + j)) ∧ n ≤ m ∧ m ≤ n + 2 + 8 * i ∧ PoolAt H4 p q m ∧ (∀ x o, x ≠ p → x ≠ q → x ≠ r → H3 x = some o → H4 x = some o))
      ⟨none, none, [], n + 2, rfl, er, rfl, fun x h => (by cases h), fun j z h => (by simp at h), by omega, by omega, P3, fun x o _ _ _ e => e⟩ ?_ ?_⟩
    · rintro i σ H4 hi ⟨y6, y7, ns, m, rfl, eN, el, hw, hsg, hm1, hm2, P4, K4⟩
      refine ⟨⟨_, rfl⟩, .int d, rfl, d, rfl, by omega, by omega, fun D nD => ?_⟩
      obtain ⟨op, ep⟩ := P4.p_some
      obtain ⟨oq, eq⟩ := P4.q_some
      have nDp : D ≠ p := (ne_of_none ep nD).symm
      have nDq : D ≠ q := (ne_of_none eq nD).symm
      have nDr : D ≠ r := (ne_of_none eN nD).symm
      refine lc_range (lo := 0) (n := d.toNat) (fun j H5 => ∃ ys : List Str, H5 D = some (.lst (ys.map V.str)) ∧ ys.length = j ∧ (∀ y ∈ ys, ∃ c, y = ⟨#[c]⟩ ∧ 97 ≤ c ∧ c ≤ 122) ∧ PoolAt H5 p q (m + j) ∧ Keeps p q H4 H5)
        ⟨[], upd_same, rfl, fun y hy => (by cases hy), P4.new nD, .upd_new nD⟩ (fun j H5 hj hI => ?_) (fun H5 hI => ?_)
      · obtain ⟨ys, eD, el2, hy, P5, K5⟩ := hI
        refine ⟨rfl, ?_⟩
        refine ⟨_, rfl, _, rfl, p, q, m + j, 26, rfl, P5, by omega, by decide, by decide, fun d2 H6 h02 h12 P6 K6 => ?_⟩
        obtain ⟨c, ec, hc1, hc2⟩ := abc_at d2 h02 h12
        have eD6 : H6 D = some (.lst (ys.map V.str)) := K6 D _ nDp nDq eD
        refine ⟨abc, d2, c, rfl, rfl, by rw [abc_len]; decide, ec, _, eD6, small1000 (by rw [List.length_map]; omega), ys ++ [⟨#[c]⟩], ?_, by simp [el2], fun y hm => ?_, ?_, ?_⟩
        · rw [upd_same, List.map_append]; rfl
        · rcases List.mem_append.mp hm with hm | hm
          · exact hy y hm
          · exact ⟨c, List.mem_singleton.mp hm, hc1, hc2⟩
        · have e : m + (j + 1) = m + j + 1 := by omega
          rw [e]
          obtain ⟨npq, cs, b, c0, e1, e2, r⟩ := P6
          exact ⟨npq, cs, b, c0, by rw [upd_ne nDp.symm]; exact e1, by rw [upd_ne nDq.symm]; exact e2, r⟩
        · intro x o hx1 hx2 nH
          have ex := K6 x o hx1 hx2 (K5 x o hx1 hx2 nH)
          by_cases hxD : x = D
          · subst hxD
            rw [nH] at nD
            cases nD
          · rw [upd_ne hxD]; exact ex
      · obtain ⟨ys, eD, el2, hy, P5, K5⟩ := hI
        obtain ⟨j1, j2⟩ := join_letters (sep := "") (by decide +kernel) ys hy
        have e1 : ∀ y ∈ ys, y.length = 1 := fun y hm => by
          obtain ⟨c, rfl, _⟩ := hy y hm
          rfl
        have e2 : (ys.map (·.length)).sum = ys.length := sum_ones _ e1
        refine ⟨_, D, ys, rfl, rfl, .inl (SqL.of eD), ?_, ?_⟩
        · rw [e2, show (Str.ofString "").length = 0 by decide +kernel]; omega
        rw [show Txt.join _ ys = Str.join _ ys from StrLaws.glued_eq_join _ _]
        generalize hwd : Str.join _ ys = wd at j1 j2 ⊢
        have eN5 : H5 r = some (.lst (ns.map V.str)) := K5 r _ nrp nrq eN
        have hk : abc.cps.toList[i]? = some (97 + i) := abc_is i (by omega)
        have hat : atI abc.cps.toList (0 + (i : Int)) = some (97 + i) := by rw [Int.zero_add]; exact atI_nat hk
        have fin : ∀ z : Str, IsWord z → signOf fb z = some (97 + i) → ∃ (y6 y7 : Option V) (ns' : List Str) (m' : Nat), [some (V.ref p), some (.int (many : Int)), some (.str abc), some (.int d), some (.int fr), some (.ref r), some (.int (0 + (i : Int))), some (.str wd), none] = [some (V.ref p), some (.int (many : Int)), some (.str abc), some (.int d), some (.int fr), some (.ref r), y6, y7, none] ∧
            (upd H5 r (.lst (ns.map V.str ++ [.str z]))) r = some (.lst (ns'.map V.str)) ∧ ns'.length = i + 1 ∧ (∀ x ∈ ns', IsWord x) ∧ (∀ (j : Nat) (z : Str), ns'[j]? = some z → signOf fb z = some (97 + j)) ∧ n ≤ m' ∧ m' ≤ n + 2 + 8 * (i + 1) ∧ PoolAt (upd H5 r (.lst (ns.map V.str ++ [.str z]))) p q m' ∧ (∀ x o, x ≠ p → x ≠ q → x ≠ r → H3 x = some o → (upd H5 r (.lst (ns.map V.str ++ [.str z]))) x = some o) := fun z hz hs => by
          refine ⟨_, _, ns ++ [z], m + d.toNat, rfl, by rw [upd_same, List.map_append]; rfl, by rw [List.length_append, el]; rfl, fun x hx => ?_, fun j z' ej => ?_, by omega, by omega, ?_, fun x o h1 h2 h3 e => ?_⟩
          · rcases List.mem_append.mp hx with hx | hx
            · exact hw x hx
            · rw [List.mem_singleton.mp hx]; exact hz
          · by_cases q1 : j < ns.length
            · rw [List.getElem?_append_left q1] at ej
              exact hsg j z' ej
            · rw [List.getElem?_append_right (by omega)] at ej
              have ej0 : j = i := by
                have := (List.getElem?_eq_some_iff.mp ej).1
                simp only [List.length_cons, List.length_nil] at this
                omega
              subst ej0
              rw [el, Nat.sub_self] at ej
              cases Option.some.inj ej
              exact hs
          · obtain ⟨npq, cs, b, c0, e1, e2, r'⟩ := P5
            exact ⟨npq, cs, b, c0, by rw [upd_ne nrp.symm]; exact e1, by rw [upd_ne nrq.symm]; exact e2, r'⟩
          · rw [upd_ne h3]
            exact K5 x o h1 h2 (K4 x o h1 h2 h3 e)
        have len1 : ∀ c : Nat, (⟨#[c]⟩ : Str).length = 1 := fun _ => rfl
        have l8 : ys.length = d.toNat := el2
        refine ⟨_, rfl, .inl ⟨rfl, _, SqL.of eN5⟩, _, rfl, fb, ?_, ?_⟩
        · rw [efb]; rfl
        · cases efb2 : fb with
          | true =>
            rw [efb2] at fin
            refine iteT ⟨_, rfl, _, rfl, abc, _, _, rfl, rfl, by rw [abc_len]; decide, hat, _, rfl, _, _, rfl, rfl, ?_, ?_⟩
            · rw [len1]; exact len1000 (by omega)
            · refine ⟨r, _, _, rfl, rfl, eN5, small1000 (by rw [List.length_map]; omega), ?_⟩
              refine fin _ ⟨?_, ?_, fun c hc => ?_⟩ (sign_front _ _)
              · rw [strLen_append, len1]; omega
              · rw [strLen_append, len1]; omega
              · rw [cps_app] at hc
                rcases List.mem_append.mp hc with hc | hc
                · rw [List.mem_singleton.mp hc]; omega
                · exact j2 c hc
          | false =>
            rw [efb2] at fin
            refine iteF ⟨_, rfl, _, rfl, _, rfl, abc, _, _, rfl, rfl, by rw [abc_len]; decide, hat, _, _, rfl, rfl, ?_, ?_⟩
            · rw [len1]; exact len1000 (by omega)
            · refine ⟨r, _, _, rfl, rfl, eN5, small1000 (by rw [List.length_map]; omega), ?_⟩
              refine fin _ ⟨?_, ?_, fun c hc => ?_⟩ (sign_back _ _)
              · rw [strLen_append, len1]; omega
              · rw [strLen_append, len1]; omega
              · rw [cps_app] at hc
                rcases List.mem_append.mp hc with hc | hc
                · exact j2 c hc
                · rw [List.mem_singleton.mp hc]; omega
    · rintro σ H4 ⟨y6, y7, ns, m, rfl, eN, el, hw, hsg, hm1, hm2, P4, K4⟩
      refine ⟨_, rfl, ?_⟩
      exact kk r ns m H4 nrH el hw (signs_nodup hsg) hm1 hm2 P4 (fun x o h1 h2 e => K4 x o h1 h2 (ne_of_none e nrH) (K3 x o h1 h2 e)) eN
end
/-! ### what the laws of worlds call -/
structure WDefs (P : Program) (w : World) (K : PySem.W.Frag) (mg : Str → Option Value) (base : Heap) where
  (C CS CW dP dA : Addr)
  T : ThIn K mg C
  S : StIn K mg CS
  W : WoIn K mg CW
  B : Bts mg
  (fP fD fL fS : Addr)
  (xP xD xL xS : FuncData)
  gP : FnOk P w K mg base CX0 1 fP xP ["script"] (spPool K)
  gD : FnOk P w K mg base CX0 1 fD xD ["pool", "many"] spDraw
  gL : FnOk P w K mg base CX0 2 fL xL ["pool", "many"] spLNames
  gS : FnOk P w K mg base CX0 3 fS xS ["actual", "due"] (spSame K 3)
  bP : Binds K xP ["script"] []
  bD : Binds K xD ["pool", "many"] []
  bL : Binds K xL ["pool", "many"] []
  bS : Binds K xS ["actual", "due"] []
  mP : mg "_law_pool" = some (.ref fP)
  mD : mg "_law_draw" = some (.ref fD)
  mL : mg "_law_names" = some (.ref fL)
  mS : mg "_law_same" = some (.ref fS)
  kP : PySem.W.keepIn K (.ref fP) = true
  kD : PySem.W.keepIn K (.ref fD) = true
  kL : PySem.W.keepIn K (.ref fL) = true
  kS : PySem.W.keepIn K (.ref fS) = true
  td : Tdefs P w K mg base C
  fW : Addr
  MW : Mk K CW fW
  gW : FnR P w K mg base CX0 4 fW (spWInit K C CS CW)
  fDo : Addr
  xDo : FuncData
  mDo : Meth K CW "do" fDo
  gDo : FnOk P w K mg base CX0 12 fDo xDo ["self", "deed"] (spDo P w K mg base C CS CW dP dA)
  bDo : Binds K xDo ["self", "deed"] []
  fIt : Addr
  aIt : PySem.W.findIn K (.ref CW) "__getitem__" = some (some (.ref fIt))
  nIt : PySem.W.fnIn K fIt = true
  hIt : PySem.W.isFn K (.ref fIt) = true
  gIt : FnR P w K mg base CX0 5 fIt (spItem K C CS CW)
theorem smeth_of {P : Program} {w : World} {K : PySem.W.Frag} {mg : Str → Option Value} {base : Heap} (G : WDefs P w K mg base) {m : Str} (h : m ∈ [("feed" : Str), "dice", "source", "flag", "slot"]) : ∃ p g, SMet K G.C m p g ∧ FnR P w K mg base CX0 5 g (spMk K G.C m) := G.td.one m h
/-- a list or tuple of two numbers, and the like -/
theorem look2a {α : Type} {n0 n1 : Str} {a b : α} : look [(n0, a), (n1, b)] n0 = some a := look_pos (p := (n0, a)) rfl
theorem look2b {α : Type} {n0 n1 : Str} {a b : α} (h : n0 ≠ n1) : look [(n0, a), (n1, b)] n1 = some b := by
  rw [look_neg (p := (n0, a)) h]
  exact look_pos (p := (n1, b)) rfl
theorem put2a {α : Type} {n0 n1 : Str} {a b c : α} (h : n0 ≠ n1) : put [(n0, a), (n1, b)] n0 c = [(n0, c), (n1, b)] := by
  simp [put, h.symm]
theorem put2b {α : Type} {n0 n1 : Str} {a b c : α} (h : n0 ≠ n1) : put [(n0, a), (n1, b)] n1 c = [(n0, a), (n1, c)] := by
  simp [put, h]
/-- one more that may change: a new object -/
theorem mask_more {L : List Addr} {H : Hp} {b : Addr} {o : HO} (n : H b = none) : Same (mask L H) (mask (b :: L) (upd H b o)) := (mask_new n).trans (mask_at List.mem_cons_self)
theorem StAt.more {K : PySem.W.Frag} {L : List Addr} {H : Hp} {C CS s ct b : Addr} {o : HO} {W : Ws} (h : StAt K L H C CS s ct W) (n : H b = none) : StAt K (b :: L) (upd H b o) C CS s ct W := by
  obtain ⟨sL, cL, ds, bn, tl, l, h1, h2, h3, h4, h5⟩ := h
  have s2 := mask_more (L := L) (o := o) n
  exact ⟨List.mem_cons_of_mem _ sL, List.mem_cons_of_mem _ cL, ds, bn, tl, l, by rw [upd_ne (ne_of_none h1 n)]; exact h1, s2 _ _ h2, h3.same s2, by rw [upd_ne (ne_of_none h4 n)]; exact h4, h5.same s2⟩
theorem WoAt.more {K : PySem.W.Frag} {L : List Addr} {H : Hp} {CW wo s b : Addr} {o : HO} {tvs : List V} (h : WoAt K L H CW wo s tvs) (n : H b = none) : WoAt K (b :: L) (upd H b o) CW wo s tvs := by
  obtain ⟨dw, t, h1, h2⟩ := h
  have s2 := mask_more (L := L) (o := o) n
  exact ⟨dw, t, s2 _ _ h1, Same.seqT s2 h2⟩
/-- a change of what is neither the state nor its dict -/
theorem StAt.upd {K : PySem.W.Frag} {L : List Addr} {H : Hp} {C CS s ct b : Addr} {o : HO} {W : Ws} (h : StAt K L H C CS s ct W) (m : b ∈ L) (n1 : b ≠ s) (n2 : b ≠ ct) : StAt K L (L2.upd H b o) C CS s ct W :=
  h.keep (mask_at m) (fun u e => by rw [upd_ne n1.symm]; exact e) fun u e => by rw [upd_ne n2.symm]; exact e
theorem PoolAt.upd {H : Hp} {p q b : Addr} {n : Nat} {o : HO} (h : PoolAt H p q n) (n1 : b ≠ p) (n2 : b ≠ q) : PoolAt (L2.upd H b o) p q n := by
  obtain ⟨npq, cs, x, c0, e1, e2, r⟩ := h
  exact ⟨npq, cs, x, c0, by rw [upd_ne n1.symm]; exact e1, by rw [upd_ne n2.symm]; exact e2, r⟩
theorem PoolAt.chg {l : List Addr} {H H' : Hp} {p q : Addr} {n : Nat} (h : PoolAt H p q n) (c : Chg l H H') (n1 : p ∉ l) (n2 : q ∉ l) : PoolAt H' p q n := by
  obtain ⟨npq, cs, x, c0, e1, e2, r⟩ := h
  exact ⟨npq, cs, x, c0, c _ _ n1 e1, c _ _ n2 e2, r⟩
/-- objects of unlike kinds -/
theorem StAt.not_lst {K : PySem.W.Frag} {L : List Addr} {H : Hp} {C CS s ct b : Addr} {W : Ws} {xs : List V} (h : StAt K L H C CS s ct W) (e : H b = some (.lst xs)) : b ∉ [s, ct] := by
  obtain ⟨sL, cL, ds, bn, tl, l, h1, h2, h3, h4, h5⟩ := h
  intro m
  rcases List.mem_cons.mp m with z | m
  · rw [z, h1] at e; cases e
  · rw [List.mem_singleton.mp m, h4] at e; cases e
/-! ### laws over the things of a row -/
inductive Flat : V → PyData → Prop where
  | non : Flat .non .none
  | bl (b : Bool) : Flat (.bl b) (.bool b)
  | int (i : Int) : Flat (.int i) (.int i)
  | str (x : Str) : Flat (.str x) (.str x)
theorem Flat.toDp {K : PySem.W.Frag} {H : Hp} {v : V} {d : PyData} (h : Flat v d) : Dp K H v d := by
  cases h
  · exact .non
  · exact .bl _
  · exact .int _
  · exact .str _
theorem Flat.dp3 {v : V} {d : PyData} (h : Flat v d) (m : Nat) : Qp.dp (m + 1) d := by cases h <;> simp [Qp.dp]
theorem flat_all {K : PySem.W.Frag} {H : Hp} : ∀ {vs : List V} {ds : List PyData}, Paired Flat vs ds → DpAll K H vs ds
  | _, _, .nil => .nil
  | _, _, .cons h t => .cons h.toDp (flat_all t)
theorem paired_get {α β : Type} {R : α → β → Prop} : ∀ {xs : List α} {ys : List β} {i : Nat} {x : α}, Paired R xs ys → xs[i]? = some x → ∃ y, ys[i]? = some y ∧ R x y
  | _, _, _, _, .nil, e => by simp at e
  | _, _, 0, _, .cons h _, e => by
    obtain rfl := Option.some.inj e
    exact ⟨_, rfl, h⟩
  | _, _, i + 1, _, .cons _ t, e => paired_get (i := i) t e
theorem paired_get2 {α β : Type} {R : α → β → Prop} : ∀ {xs : List α} {ys : List β} {i : Nat} {y : β}, Paired R xs ys → ys[i]? = some y → ∃ x, xs[i]? = some x ∧ R x y
  | _, _, _, _, .nil, e => by simp at e
  | _, _, 0, _, .cons h _, e => by
    obtain rfl := Option.some.inj e
    exact ⟨_, rfl, h⟩
  | _, _, i + 1, _, .cons _ t, e => paired_get2 (i := i) t e
theorem paired_set {α β : Type} {R : α → β → Prop} {x : α} {y : β} (h : R x y) : ∀ {xs : List α} {ys : List β} (i : Nat), Paired R xs ys → Paired R (xs.set i x) (ys.set i y)
  | _, _, _, .nil => .nil
  | _, _, 0, .cons _ t => .cons h t
  | _, _, i + 1, .cons a t => .cons a (paired_set h i t)
theorem paired_tail {α β : Type} {R : α → β → Prop} {x : α} {xs : List α} {ys : List β} (h : Paired R (x :: xs) ys) : ∃ y r, ys = y :: r ∧ R x y ∧ Paired R xs r := by
  cases h with
  | cons a t => exact ⟨_, _, rfl, a, t⟩
theorem look_zip {α : Type} {n : Str} : ∀ {ns : List Str} {ds : List α} {i : Nat} {d : α}, ns.Nodup → ns[i]? = some n → ds[i]? = some d → look (ns.zip ds) n = some d
  | [], _, _, _, _, e, _ => by simp at e
  | _ :: _, [], _, _, _, _, e => by simp at e
  | m :: ns, d' :: ds, 0, d, _, e1, e2 => by
    obtain rfl := Option.some.inj e1
    obtain rfl := Option.some.inj e2
    exact look_pos (p := (m, d')) rfl
  | m :: ns, d' :: ds, i + 1, d, hn, e1, e2 => by
    have hm : m ≠ n := fun e => (List.nodup_cons.mp hn).1 (by rw [e]; exact List.mem_of_getElem? (show ns[i]? = some n from e1))
    show look ((m, d') :: ns.zip ds) n = some d
    rw [look_neg (p := (m, d')) hm]
    exact look_zip (i := i) (List.nodup_cons.mp hn).2 e1 e2
theorem map_other {α : Type} {n : Str} {c : α} : ∀ {ns : List Str} {ds : List α}, n ∉ ns → (ns.zip ds).map (fun p => if p.1 = n then (p.1, c) else p) = ns.zip ds
  | [], _, _ => rfl
  | _ :: _, [], _ => rfl
  | m :: ns, d :: ds, h => by
    show (if m = n then (m, c) else (m, d)) :: _ = (m, d) :: ns.zip ds
    rw [if_neg fun e => h (by rw [e]; exact List.mem_cons_self)]
    congr 1
    exact map_other fun q => h (List.mem_cons_of_mem _ q)
theorem map_zip {α : Type} {n : Str} {c : α} : ∀ {ns : List Str} {ds : List α} {i : Nat}, ns.Nodup → ns[i]? = some n → i < ds.length → (ns.zip ds).map (fun p => if p.1 = n then (p.1, c) else p) = ns.zip (ds.set i c)
  | [], _, _, _, e, _ => by simp at e
  | _ :: _, [], _, _, _, e => by simp at e
  | m :: ns, d :: ds, 0, hn, e1, _ => by
    obtain rfl := Option.some.inj e1
    show (if m = m then (m, c) else (m, d)) :: _ = (m, c) :: ns.zip ds
    rw [if_pos rfl]
    congr 1
    exact map_other (List.nodup_cons.mp hn).1
  | m :: ns, d :: ds, i + 1, hn, e1, e2 => by
    have hm : m ≠ n := fun e => (List.nodup_cons.mp hn).1 (by rw [e]; exact List.mem_of_getElem? (show ns[i]? = some n from e1))
    show (if m = n then (m, c) else (m, d)) :: _ = (m, d) :: ns.zip (ds.set i c)
    rw [if_neg hm]
    congr 1
    exact map_zip (i := i) (List.nodup_cons.mp hn).2 e1 (Nat.lt_of_succ_lt_succ e2)
theorem put_zip {α : Type} {n : Str} {c : α} {ns : List Str} {ds : List α} {i : Nat} (hn : ns.Nodup) (e : ns[i]? = some n) (hi : i < ds.length) : put (ns.zip ds) n c = ns.zip (ds.set i c) := by
  unfold put
  rw [if_pos, map_zip hn e hi]
  obtain ⟨d, ed⟩ : ∃ d, ds[i]? = some d := ⟨ds[i], List.getElem?_eq_getElem hi⟩
  have := look_mem (look_zip hn e ed)
  rw [List.any_eq_true]
  exact ⟨_, this, decide_eq_true rfl⟩
/-- the things of a row: their kinds -/
def rowTh (ns : List Str) (ks : List (Str × List Str)) : Ths := ns.zip ks
/-- world.do over any deed that stands -/
theorem do_gen {P : Program} {w : World} {K : PySem.W.Frag} {mg : Str → Option Value} {base : Heap} {C CS CW dP dA x s ct t : Addr} {L : List Addr} {tvs args : List V} {W W' : Ws} {word : Str} {ds : List PyData} {kinds : List Str} {R : Ws → List PyData → Ws → PyData → Prop} {d : PyData} {H : Hp} {Q : VK} {E' : XK}
    (hA : ActK P w K mg base C CS dP dA word kinds R) (hW : WoAt K L H CW x s tvs) (hS : StAt K L H C CS s ct W) (hl : W.cs.length ≤ 100) (al : Alive L H) (ht : SqT K (mask L H) t (.str word :: args)) (hd : DpAll K (mask L H) args ds) (hal : args.length ≤ 100) (hg : Paired GoodArg kinds ds) (hc : Paired (CheckArg W.th (ds.headD .none)) kinds ds) (hR : R W ds W' d)
    (k : ∀ v H', Chg [s, ct] H H' → WoAt K L H' CW x s tvs → StAt K L H' C CS s ct W' → Dp K (mask L H') v d → Q v H') : spDo P w K mg base C CS CW dP dA [.ref x, .ref t] H Q E' :=
  ⟨x, s, ct, t, L, tvs, W, W', word, args, ds, kinds, R, d, rfl, hW, hS, ht, hd, hal, hA, hg, hc, hl, al, hR, fun v H' c hS' hdv => k v H' c (hW.keep (c.inL hS.sL hS.cL).mask) hS' hdv⟩
theorem ThingAt.pool {K : PySem.W.Frag} {H : Hp} {C p q a : Addr} {n : Nat} {kind nm : Str} {parts : List Str} (P : PoolAt H p q n) (h : ThingAt K H C a kind nm parts) : ThingAt K (mask [p, q] H) C a kind nm parts := by
  obtain ⟨_, cs, b, c, e1, e2, _⟩ := P
  obtain ⟨dx, fs, t, h1, h2, h3, h4, h5⟩ := h
  have na : a ∉ [p, q] := fun m => by
    rcases List.mem_cons.mp m with z | m
    · rw [z, e1] at h1; cases h1
    · rw [List.mem_singleton.mp m, e2] at h1; cases h1
  refine ⟨dx, fs, t, by rw [mask_out na]; exact h1, h2, h3, h4, seqT_mask h5 fun b hb => ?_⟩
  rcases List.mem_cons.mp hb with z | m
  · rw [z]; rintro (h | ⟨o, h⟩) <;> rw [e1] at h <;> cases h
  · rw [List.mem_singleton.mp m]; rintro (h | ⟨o, h⟩) <;> rw [e2] at h <;> cases h
theorem ixN_nat {n j : Nat} (hj : j < n) : ixN n (j : Int) = some j := by
  unfold ixN
  rw [if_pos (by omega), if_pos (by omega)]
  simp
theorem flat_dp3 {vs : List V} {ds : List PyData} (h : Paired Flat vs ds) (hl : ds.length ≤ 1000000) : dp 3 (.list ds) := by
  have : ∀ {vs : List V} {ds : List PyData}, Paired Flat vs ds → ∀ d ∈ ds, dp 2 d := fun {vs ds} h => by
    induction h with
    | nil => intro d hd; cases hd
    | cons a t ih =>
      intro d hd
      rcases List.mem_cons.mp hd with rfl | hd
      · exact a.dp3 1
      · exact ih d hd
  have h2 := this h
  simp only [dp]
  exact ⟨hl, h2⟩
/-! ### things and worlds made of rows -/
def spTableOf (K : PySem.W.Frag) (C : Addr) : Sp := fun vs H Q _ => ∃ (name : Str) (kl : Addr) (keys : List Str), vs = [.str name, .ref kl] ∧ SqT K H kl (keys.map V.str) ∧ IsWord name ∧ (∀ x ∈ keys, IsWord x) ∧ keys.Nodup ∧ keys.length ≤ 4 ∧ ∀ a H', Same H H' → ThingAt K H' C a "table" name keys → Q (.ref a) H'
section
variable {P : Program} {w : World} {K : PySem.W.Frag} {mg : Str → Option Value} {base : Heap}
theorem scTo : FnScope ["name", "keys"] ["name", "keys"] (defScope sTableOf) := ⟨rfl, rfl, rfl, by decide +kernel, rfl, by decide +kernel, by decide +kernel⟩
theorem ok_tableof {f C : Addr} {fd : FuncData} (F : Fun K "_law_table_of" "_law_table_of" sTableOf f fd) (B : Bts mg) (T : ThIn K mg C) (td : ∃ p g, SMet K C "table" p g ∧ FnR P w K mg base CX0 5 g (spTableM K C)) : FnOk P w K mg base CX0 6 f fd ["name", "keys"] (spTableOf K C) := by
  refine F.ok scTo (fun vs H Q E h => ?_) (fun cdv A outer s0 H vs Q E hr h => ?_)
  · obtain ⟨name, kl, keys, rfl, _⟩ := h
    rfl
  · obtain ⟨name, kl, keys, rfl, hk, hw, hws, hnd, hl, kk⟩ := h
    obtain ⟨pm, gm, sm, Fm⟩ := td
    refine ⟨_, pss_cons (ps_if (pt_cmpR op_eq (pe_callB call_len_seq (by rfl) B.len PySem.boot_len (pa_cons (pv 1) pa_nil)) pe_int (nomark _))
        (pss_one (ps_ret (pe_smeth (E := E0) (pe_glob (v := .ref C) (by rfl) T.m rfl) T.rd sm Fm hr pass0 (pa_cons (pv 0) pa_nil))))
        pss_nil)
      (pss_cons (ps_if (pt_cmpR op_eq (pe_callB call_len_seq (by rfl) B.len PySem.boot_len (pa_cons (pv 1) pa_nil)) pe_int (nomark _))
        (pss_one (ps_ret (pe_smeth (E := E0) (pe_glob (v := .ref C) (by rfl) T.m rfl) T.rd sm Fm hr pass0 (pa_cons (pv 0) (pa_cons (pe_ix ix_tup (pv 1) pe_int (fun _ _ => rfl)) pa_nil)))))
        pss_nil)
      (pss_cons (ps_if (pt_cmpR op_eq (pe_callB call_len_seq (by rfl) B.len PySem.boot_len (pa_cons (pv 1) pa_nil)) pe_int (nomark _))
        (pss_one (ps_ret (pe_smeth (E := E0) (pe_glob (v := .ref C) (by rfl) T.m rfl) T.rd sm Fm hr pass0 (pa_cons (pv 0) (pa_cons (pe_ix ix_tup (pv 1) pe_int (fun _ _ => rfl)) (pa_cons (pe_ix ix_tup (pv 1) pe_int (fun _ _ => rfl)) pa_nil))))))
        pss_nil)
      (pss_cons (ps_if (pt_cmpR op_eq (pe_callB call_len_seq (by rfl) B.len PySem.boot_len (pa_cons (pv 1) pa_nil)) pe_int (nomark _))
        (pss_one (ps_ret (pe_smeth (E := E0) (pe_glob (v := .ref C) (by rfl) T.m rfl) T.rd sm Fm hr pass0 (pa_cons (pv 0) (pa_cons (pe_ix ix_tup (pv 1) pe_int (fun _ _ => rfl)) (pa_cons (pe_ix ix_tup (pv 1) pe_int (fun _ _ => rfl)) (pa_cons (pe_ix ix_tup (pv 1) pe_int (fun _ _ => rfl)) pa_nil)))))))
        pss_nil)
      (pss_one (ps_ret (pe_smeth (E := E0) (pe_glob (v := .ref C) (by rfl) T.m rfl) T.rd sm Fm hr pass0 (pa_cons (pv 0) (pa_cons (pe_ix ix_tup (pv 1) pe_int (fun _ _ => rfl)) (pa_cons (pe_ix ix_tup (pv 1) pe_int (fun _ _ => rfl)) (pa_cons (pe_ix ix_tup (pv 1) pe_int (fun _ _ => rfl)) (pa_cons (pe_ix ix_tup (pv 1) pe_int (fun _ _ => rfl)) pa_nil))))))))))), ?_⟩
    rcases keys with _ | ⟨k0, _ | ⟨k1, _ | ⟨k2, _ | ⟨k3, _ | ⟨k4, r⟩⟩⟩⟩⟩
    · exact ⟨_, rfl, kl, _, rfl, .inr hk, rfl, _, rfl, iteT ⟨rfl, _, rfl, name, [], rfl, hw, hws, hnd, hl, kk⟩⟩
    · exact ⟨_, rfl, kl, _, rfl, .inr hk, rfl, _, rfl, iteF ⟨_, rfl, kl, _, rfl, .inr hk, rfl, _, rfl, iteT ⟨rfl, _, rfl, _, rfl, kl, _, 0, _, rfl, rfl, hk, atI_nat (j := 0) rfl, name, [k0], rfl, hw, hws, hnd, hl, kk⟩⟩⟩
    · exact ⟨_, rfl, kl, _, rfl, .inr hk, rfl, _, rfl, iteF ⟨_, rfl, kl, _, rfl, .inr hk, rfl, _, rfl, iteF ⟨_, rfl, kl, _, rfl, .inr hk, rfl, _, rfl, iteT ⟨rfl, _, rfl, _, rfl, kl, _, 0, _, rfl, rfl, hk, atI_nat (j := 0) rfl, _, rfl, kl, _, 1, _, rfl, rfl, hk, atI_nat (j := 1) rfl, name, [k0, k1], rfl, hw, hws, hnd, hl, kk⟩⟩⟩⟩
    · exact ⟨_, rfl, kl, _, rfl, .inr hk, rfl, _, rfl, iteF ⟨_, rfl, kl, _, rfl, .inr hk, rfl, _, rfl, iteF ⟨_, rfl, kl, _, rfl, .inr hk, rfl, _, rfl, iteF ⟨_, rfl, kl, _, rfl, .inr hk, rfl, _, rfl, iteT ⟨rfl, _, rfl, _, rfl, kl, _, 0, _, rfl, rfl, hk, atI_nat (j := 0) rfl, _, rfl, kl, _, 1, _, rfl, rfl, hk, atI_nat (j := 1) rfl, _, rfl, kl, _, 2, _, rfl, rfl, hk, atI_nat (j := 2) rfl, name, [k0, k1, k2], rfl, hw, hws, hnd, hl, kk⟩⟩⟩⟩⟩
    · exact ⟨_, rfl, kl, _, rfl, .inr hk, rfl, _, rfl, iteF ⟨_, rfl, kl, _, rfl, .inr hk, rfl, _, rfl, iteF ⟨_, rfl, kl, _, rfl, .inr hk, rfl, _, rfl, iteF ⟨_, rfl, kl, _, rfl, .inr hk, rfl, _, rfl, iteF ⟨rfl, _, rfl, _, rfl, kl, _, 0, _, rfl, rfl, hk, atI_nat (j := 0) rfl, _, rfl, kl, _, 1, _, rfl, rfl, hk, atI_nat (j := 1) rfl, _, rfl, kl, _, 2, _, rfl, rfl, hk, atI_nat (j := 2) rfl, _, rfl, kl, _, 3, _, rfl, rfl, hk, atI_nat (j := 3) rfl, name, [k0, k1, k2, k3], rfl, hw, hws, hnd, hl, kk⟩⟩⟩⟩⟩
    · simp at hl
/-- a row of a thing, told -/
abbrev Tr := Str × Str × List Str
def ThTup (K : PySem.W.Frag) (M : Hp) (v : V) (e : Tr) : Prop := ∃ t pt, v = .ref t ∧ SqT K M t [.str e.2.1, .str e.1, .ref pt] ∧ SqT K M pt (e.2.2.map V.str)
theorem ThTup.same {K : PySem.W.Frag} {H H' : Hp} {v : V} {e : Tr} (h : ThTup K H v e) (c : Same H H') : ThTup K H' v e := by
  obtain ⟨t, pt, h1, h2, h3⟩ := h
  exact ⟨t, pt, h1, Same.seqT c h2, Same.seqT c h3⟩
/-- a row that is good by itself -/
inductive TrOk : Tr → Prop where
  | one {k n : Str} (h : k ∈ [("feed" : Str), "dice", "source", "flag", "slot"]) (hw : IsWord n) : TrOk (n, k, [])
  | field {n o : Str} (hw : IsWord n) (ho : IsWord o) : TrOk (n, "field", [o])
  | table {n : Str} {ks : List Str} (hw : IsWord n) (hk : ∀ x ∈ ks, IsWord x) (hn : ks.Nodup) (hl : ks.length ≤ 4) : TrOk (n, "table", ks)
def spThing (K : PySem.W.Frag) (C : Addr) : Sp := fun vs H Q _ => ∃ (v : V) (e : Tr), vs = [v] ∧ ThTup K H v e ∧ TrOk e ∧ e.2.1 ≠ "table" ∧ ∀ a H', Same H H' → ThingAt K H' C a e.2.1 e.1 e.2.2 → Q (.ref a) H'
def spThingOf (K : PySem.W.Frag) (C : Addr) : Sp := fun vs H Q _ => ∃ (v : V) (e : Tr), vs = [v] ∧ ThTup K H v e ∧ TrOk e ∧ ∀ a H', Same H H' → ThingAt K H' C a e.2.1 e.1 e.2.2 → Q (.ref a) H'
theorem scTh : FnScope ["thing", "kind", "name", "parts"] ["thing"] (defScope sThing) := ⟨rfl, rfl, rfl, by decide +kernel, rfl, by decide +kernel, by decide +kernel⟩
theorem ok_lthing {f C : Addr} {fd : FuncData} (F : Fun K "_law_thing" "_law_thing" sThing f fd) (T : ThIn K mg C) (td : Tdefs P w K mg base C) : FnOk P w K mg base CX0 6 f fd ["thing"] (spThing K C) := by
  refine F.ok scTh (fun vs H Q E h => ?_) (fun cdv A outer s0 H vs Q E hr h => ?_)
  · obtain ⟨v, e, rfl, _⟩ := h
    rfl
  · obtain ⟨v, e, rfl, ⟨t, pt, rfl, h1, h2⟩, ok, hne, kk⟩ := h
    obtain ⟨p0, g0, m0, G0⟩ := td.one "feed" (by simp)
    obtain ⟨p1, g1, m1, G1⟩ := td.one "dice" (by simp)
    obtain ⟨p2, g2, m2, G2⟩ := td.one "source" (by simp)
    obtain ⟨p3, g3, m3, G3⟩ := td.one "flag" (by simp)
    obtain ⟨p4, g4, m4, G4⟩ := td.one "slot" (by simp)
    obtain ⟨p5, g5, m5, G5⟩ := td.field
    refine ⟨_, pss_cons (ps_asg (pv 0) (pg_tup rfl (pgs_cons (pg_name (i := 1) scTh.nd rfl (.inl rfl)) (pgs_cons (pg_name (i := 2) scTh.nd rfl (.inl rfl)) (pgs_cons (pg_name (i := 3) scTh.nd rfl (.inl rfl)) pgs_nil)))))
      (pss_cons (ps_if (pt_cmpR op_eq (pv 1) pe_str (nomark _)) (pss_one (ps_ret (pe_smeth (E := E0) (pe_glob (v := .ref C) (by rfl) T.m rfl) T.rd m0 G0 hr pass0 (pa_cons (pv 2) pa_nil)))) pss_nil)
      (pss_cons (ps_if (pt_cmpR op_eq (pv 1) pe_str (nomark _)) (pss_one (ps_ret (pe_smeth (E := E0) (pe_glob (v := .ref C) (by rfl) T.m rfl) T.rd m1 G1 hr pass0 (pa_cons (pv 2) pa_nil)))) pss_nil)
      (pss_cons (ps_if (pt_cmpR op_eq (pv 1) pe_str (nomark _)) (pss_one (ps_ret (pe_smeth (E := E0) (pe_glob (v := .ref C) (by rfl) T.m rfl) T.rd m2 G2 hr pass0 (pa_cons (pv 2) pa_nil)))) pss_nil)
      (pss_cons (ps_if (pt_cmpR op_eq (pv 1) pe_str (nomark _)) (pss_one (ps_ret (pe_smeth (E := E0) (pe_glob (v := .ref C) (by rfl) T.m rfl) T.rd m3 G3 hr pass0 (pa_cons (pv 2) pa_nil)))) pss_nil)
      (pss_cons (ps_if (pt_cmpR op_eq (pv 1) pe_str (nomark _)) (pss_one (ps_ret (pe_smeth (E := E0) (pe_glob (v := .ref C) (by rfl) T.m rfl) T.rd m4 G4 hr pass0 (pa_cons (pv 2) pa_nil)))) pss_nil)
      (pss_cons (ps_if (pt_cmpR op_eq (pv 1) pe_str (nomark _)) (pss_one (ps_ret (pe_smeth (E := E0) (pe_glob (v := .ref C) (by rfl) T.m rfl) T.rd m5 G5 hr pass0 (pa_cons (pv 2) (pa_cons (pe_ix ix_tup (pv 3) pe_int (fun _ _ => rfl)) pa_nil))))) pss_nil)
      (pss_cons ps_never (pss_one ps_never)))))))), ?_⟩
    refine ⟨_, rfl, t, _, rfl, h1, rfl, _, _, rfl, _, _, rfl, _, _, rfl, rfl, ?_⟩
    cases ok with
    | table hw hk hn hl => exact absurd rfl hne
    | field hw ho =>
      exact ⟨_, rfl, rfl, _, rfl, iteF ⟨_, rfl, rfl, _, rfl, iteF ⟨_, rfl, rfl, _, rfl, iteF ⟨_, rfl, rfl, _, rfl, iteF ⟨_, rfl, rfl, _, rfl, iteF ⟨_, rfl, rfl, _, rfl, iteT ⟨rfl, _, rfl, _, rfl, pt, _, 0, _, rfl, rfl, h2, atI_nat (j := 0) rfl, _, _, rfl, hw, ho, kk⟩⟩⟩⟩⟩⟩⟩
    | one h hw =>
      simp only [List.mem_cons, List.not_mem_nil, or_false] at h
      rcases h with rfl | rfl | rfl | rfl | rfl
      · exact ⟨_, rfl, rfl, _, rfl, iteT ⟨rfl, _, rfl, _, rfl, hw, kk⟩⟩
      · exact ⟨_, rfl, rfl, _, rfl, iteF ⟨_, rfl, rfl, _, rfl, iteT ⟨rfl, _, rfl, _, rfl, hw, kk⟩⟩⟩
      · exact ⟨_, rfl, rfl, _, rfl, iteF ⟨_, rfl, rfl, _, rfl, iteF ⟨_, rfl, rfl, _, rfl, iteT ⟨rfl, _, rfl, _, rfl, hw, kk⟩⟩⟩⟩
      · exact ⟨_, rfl, rfl, _, rfl, iteF ⟨_, rfl, rfl, _, rfl, iteF ⟨_, rfl, rfl, _, rfl, iteF ⟨_, rfl, rfl, _, rfl, iteT ⟨rfl, _, rfl, _, rfl, hw, kk⟩⟩⟩⟩⟩
      · exact ⟨_, rfl, rfl, _, rfl, iteF ⟨_, rfl, rfl, _, rfl, iteF ⟨_, rfl, rfl, _, rfl, iteF ⟨_, rfl, rfl, _, rfl, iteF ⟨_, rfl, rfl, _, rfl, iteT ⟨rfl, _, rfl, _, rfl, hw, kk⟩⟩⟩⟩⟩⟩
theorem scTf : FnScope ["thing"] ["thing"] (defScope sThingOf) := ⟨rfl, rfl, rfl, by decide +kernel, rfl, by decide +kernel, by decide +kernel⟩
theorem ok_thingof {f fA fB C : Addr} {fd fdA fdB : FuncData} (F : Fun K "_law_thing_of" "_law_thing_of" sThingOf f fd) (GA : FnOk P w K mg base CX0 6 fA fdA ["name", "keys"] (spTableOf K C)) (mA : mg "_law_table_of" = some (.ref fA)) (kA : PySem.W.keepIn K (.ref fA) = true) (bA : Binds K fdA ["name", "keys"] [])
    (GB : FnOk P w K mg base CX0 6 fB fdB ["thing"] (spThing K C)) (mB : mg "_law_thing" = some (.ref fB)) (kB : PySem.W.keepIn K (.ref fB) = true) (bB : Binds K fdB ["thing"] []) : FnOk P w K mg base CX0 7 f fd ["thing"] (spThingOf K C) := by
  refine F.ok scTf (fun vs H Q E h => ?_) (fun cdv A outer s0 H vs Q E hr h => ?_)
  · obtain ⟨v, e, rfl, _⟩ := h
    rfl
  · obtain ⟨v, e, rfl, ht, ok, kk⟩ := h
    refine ⟨_, pss_cons (ps_if (pt_cmpR op_eq (pe_ix ix_tup (pv 0) pe_int (fun _ _ => rfl)) pe_str (nomark _)) (pss_one (ps_ret (pe_call GA hr (by rfl) mA kA bA .nil pass0 (pa_cons (pe_ix ix_tup (pv 0) pe_int (fun _ _ => rfl)) (pa_cons (pe_ix ix_tup (pv 0) pe_int (fun _ _ => rfl)) pa_nil))))) pss_nil)
      (pss_one (ps_ret (pe_call GB hr (by rfl) mB kB bB .nil pass0 (pa_cons (pv 0) pa_nil)))), ?_⟩
    obtain ⟨t, pt, rfl, h1, h2⟩ := ht
    refine ⟨_, rfl, t, _, 0, _, rfl, rfl, h1, atI_nat (j := 0) rfl, rfl, _, rfl, ?_⟩
    show (if decide (V.str e.2.1 = V.str "table") = true then _ else _)
    by_cases q : e.2.1 = "table"
    · rw [decide_eq_true (show V.str e.2.1 = V.str "table" by rw [q])]
      cases ok with
      | @one k n h hw =>
        have q' : k = "table" := q
        subst q'
        exact absurd h (by decide +kernel)
      | field hw ho => exact absurd (show ("field" : Str) = "table" from q) (by decide +kernel)
      | table hw hk hn hl =>
        exact iteT ⟨_, rfl, t, _, 1, _, rfl, rfl, h1, atI_nat (j := 1) rfl, _, rfl, t, _, 2, _, rfl, rfl, h1, atI_nat (j := 2) rfl, _, pt, _, rfl, h2, hw, hk, hn, hl, kk⟩
    · rw [show decide (V.str e.2.1 = V.str "table") = false from decide_eq_false fun z => q (by injection z)]
      exact iteF ⟨_, rfl, _, e, rfl, ⟨t, pt, rfl, h1, h2⟩, ok, q, kk⟩
end
/-! ### a world of rows -/
/-- more that may change: what was not there -/
theorem mask_ext {L L' : List Addr} {H H' : Hp} (sm : Same H H') (h : ∀ z ∈ L', z ∈ L ∨ H z = none) : Same (mask L H) (mask L' H') := fun a o e => by
  have ea := mask_sub _ _ _ _ e
  have naL : a ∉ L := fun m => by rw [mask_in m] at e; cases e
  rw [mask_out fun m => by
    rcases h a m with q | q
    · exact naL q
    · exact ne_of_none ea q rfl]
  exact sm _ _ ea
theorem mask_fewer {L L' : List Addr} {H : Hp} (h : ∀ z ∈ L, z ∈ L') : Same (mask L' H) (mask L H) := fun a o e => by
  have naL : a ∉ L' := fun m => by rw [mask_in m] at e; cases e
  rw [mask_out fun m => naL (h a m)]
  rw [mask_out naL] at e
  exact e
theorem ThingAt.maskL {K : PySem.W.Frag} {H : Hp} {C a : Addr} {L : List Addr} {kind nm : Str} {parts : List Str} (h : ThingAt K H C a kind nm parts) (hL : ∀ b ∈ L, ∃ xs, H b = some (.lst xs)) : ThingAt K (mask L H) C a kind nm parts := by
  obtain ⟨dx, fs, t, h1, h2, h3, h4, h5⟩ := h
  have na : a ∉ L := fun m => by
    obtain ⟨xs, e⟩ := hL a m
    rw [h1] at e; cases e
  refine ⟨dx, fs, t, by rw [mask_out na]; exact h1, h2, h3, h4, seqT_mask h5 fun b hb => ?_⟩
  obtain ⟨xs, e⟩ := hL b hb
  rintro (h | ⟨o, h⟩) <;> rw [e] at h <;> cases h
abbrev ThAs (K : PySem.W.Frag) (M : Hp) (C : Addr) : List Addr → List Tr → Prop := Paired fun a e => ThingAt K M C a e.2.1 e.1 e.2.2
theorem ThAs.thl {K : PySem.W.Frag} {M : Hp} {C : Addr} : ∀ {as : List Addr} {th : List Tr}, ThAs K M C as th → ∃ tl : List (Str × V), tl.map (·.2) = as.map V.ref ∧ ThL K M C tl th
  | _, _, .nil => ⟨[], rfl, .nil⟩
  | _, _, .cons h t => by
    obtain ⟨tl, e, r⟩ := ThAs.thl t
    exact ⟨_ :: tl, by rw [List.map_cons, e]; rfl, .cons h r⟩
theorem ThAs.same {K : PySem.W.Frag} {M M' : Hp} {C : Addr} (c : Same M M') : ∀ {as : List Addr} {th : List Tr}, ThAs K M C as th → ThAs K M' C as th
  | _, _, .nil => .nil
  | _, _, .cons h t => .cons (h.same c) (ThAs.same c t)
theorem paired_app {α β : Type} {R : α → β → Prop} : ∀ {xs xs' : List α} {ys ys' : List β}, Paired R xs ys → Paired R xs' ys' → Paired R (xs ++ xs') (ys ++ ys')
  | _, _, _, _, .nil, h => h
  | _, _, _, _, .cons h t, g => .cons h (paired_app t g)
def spWorldOf (K : PySem.W.Frag) (C CS CW : Addr) : Sp := fun vs H Q _ => ∃ (p q : Addr) (n : Nat) (a : Addr) (xs : List V) (th : Ths), vs = [.ref a] ∧ PoolAt H p q n ∧ SqL K H a xs ∧ Paired (ThTup K H) xs th ∧ (∀ e ∈ th, TrOk e) ∧ (names th).Nodup ∧ th ≠ [] ∧ th.length ≤ 8 ∧ (∀ t ∈ th, t.2.1 ∈ kindsS) ∧ FieldsOk th ∧
  ∀ x s ct (tl : List (Str × V)) H', Same H H' → H s = none → H ct = none → s ∉ [p, q] → ct ∉ [p, q] → WoAt K [s, ct, p, q] H' CW x s (tl.map (·.2)) → StAt K [s, ct, p, q] H' C CS s ct ⟨th, firsts th, 0, 0, 0⟩ → ThL K (mask [s, ct, p, q] H') C tl th → Q (.ref x) H'
section
variable {P : Program} {w : World} {K : PySem.W.Frag} {mg : Str → Option Value} {base : Heap}
theorem scWof : FnScope ["things", "t", "thing"] ["things"] (defScope sWorldOf) := ⟨rfl, rfl, rfl, by decide +kernel, rfl, by decide +kernel, by decide +kernel⟩
theorem ok_worldof {f fT fW C CS CW : Addr} {fd fdT : FuncData} (F : Fun K "_law_world_of" "_law_world_of" sWorldOf f fd) (B : Bts mg) (WI : WoIn K mg CW) (MW : Mk K CW fW) (GW : FnR P w K mg base CX0 4 fW (spWInit K C CS CW))
    (GT : FnOk P w K mg base CX0 7 fT fdT ["thing"] (spThingOf K C)) (mT : mg "_law_thing_of" = some (.ref fT)) (kT : PySem.W.keepIn K (.ref fT) = true) (bT : Binds K fdT ["thing"] []) : FnOk P w K mg base CX0 8 f fd ["things"] (spWorldOf K C CS CW) := by
  refine F.ok scWof (fun vs H Q E h => ?_) (fun cdv A outer s0 H vs Q E hr h => ?_)
  · obtain ⟨p, q, n, a, xs, th, rfl, _⟩ := h
    rfl
  · obtain ⟨p, q, n, a, xs, th, rfl, hP, ha, hx, hok, hnd, hne, hl8, hkd, hff, kk⟩ := h
    have hr5 : Room 5 _ := hr.mono (by decide)
    refine ⟨_, pss_cons (ps_setLc (i := 1) (own := [("thing", 2)]) (g := gName 2) (tt := tYes) rfl scWof.nd rfl rfl (sw_true rfl rfl rfl (by decide +kernel)) (pi_list (pv 0)) (blkOk_by (N := ["things", "t", "thing"]) (sc := defScope sWorldOf) (by decide +kernel)) (fun _ _ _ _ _ => pg_name (i := 2) scWof.nd rfl (.inl rfl)) (fun _ _ _ _ _ => pts_nil) (fun _ _ _ _ _ => pe_call GT hr (by rfl) mT kT bT .nil pass0 (pa_cons (pv 2) pa_nil)))
      (pss_cons (ps_if (pt_cmpR op_eq (pe_callB call_len_seq (by rfl) B.len PySem.boot_len (pa_cons (pv 1) pa_nil)) pe_int (nomark _)) (pss_one ps_never) pss_nil)
      (pss_cons (ps_if (pt_cmpR op_eq (pe_callB call_len_seq (by rfl) B.len PySem.boot_len (pa_cons (pv 1) pa_nil)) pe_int (nomark _)) (pss_one (ps_ret (StX.pe_makeR (E := E0) MW GW hr5 (by rfl) WI.m pass0 (pa_cons (pe_ix ix_list (pv 1) pe_int (fun _ _ => rfl)) pa_nil)))) pss_nil)
      (pss_cons (ps_if (pt_cmpR op_eq (pe_callB call_len_seq (by rfl) B.len PySem.boot_len (pa_cons (pv 1) pa_nil)) pe_int (nomark _)) (pss_one (ps_ret (StX.pe_makeR (E := E0) MW GW hr5 (by rfl) WI.m pass0 (pa_cons (pe_ix ix_list (pv 1) pe_int (fun _ _ => rfl)) (pa_cons (pe_ix ix_list (pv 1) pe_int (fun _ _ => rfl)) pa_nil))))) pss_nil)
      (pss_cons (ps_if (pt_cmpR op_eq (pe_callB call_len_seq (by rfl) B.len PySem.boot_len (pa_cons (pv 1) pa_nil)) pe_int (nomark _)) (pss_one (ps_ret (StX.pe_makeR (E := E0) MW GW hr5 (by rfl) WI.m pass0 (pa_cons (pe_ix ix_list (pv 1) pe_int (fun _ _ => rfl)) (pa_cons (pe_ix ix_list (pv 1) pe_int (fun _ _ => rfl)) (pa_cons (pe_ix ix_list (pv 1) pe_int (fun _ _ => rfl)) pa_nil)))))) pss_nil)
      (pss_cons (ps_if (pt_cmpR op_eq (pe_callB call_len_seq (by rfl) B.len PySem.boot_len (pa_cons (pv 1) pa_nil)) pe_int (nomark _)) (pss_one (ps_ret (StX.pe_makeR (E := E0) MW GW hr5 (by rfl) WI.m pass0 (pa_cons (pe_ix ix_list (pv 1) pe_int (fun _ _ => rfl)) (pa_cons (pe_ix ix_list (pv 1) pe_int (fun _ _ => rfl)) (pa_cons (pe_ix ix_list (pv 1) pe_int (fun _ _ => rfl)) (pa_cons (pe_ix ix_list (pv 1) pe_int (fun _ _ => rfl)) pa_nil))))))) pss_nil)
      (pss_cons (ps_if (pt_cmpR op_eq (pe_callB call_len_seq (by rfl) B.len PySem.boot_len (pa_cons (pv 1) pa_nil)) pe_int (nomark _)) (pss_one (ps_ret (StX.pe_makeR (E := E0) MW GW hr5 (by rfl) WI.m pass0 (pa_cons (pe_ix ix_list (pv 1) pe_int (fun _ _ => rfl)) (pa_cons (pe_ix ix_list (pv 1) pe_int (fun _ _ => rfl)) (pa_cons (pe_ix ix_list (pv 1) pe_int (fun _ _ => rfl)) (pa_cons (pe_ix ix_list (pv 1) pe_int (fun _ _ => rfl)) (pa_cons (pe_ix ix_list (pv 1) pe_int (fun _ _ => rfl)) pa_nil)))))))) pss_nil)
      (pss_cons (ps_if (pt_cmpR op_eq (pe_callB call_len_seq (by rfl) B.len PySem.boot_len (pa_cons (pv 1) pa_nil)) pe_int (nomark _)) (pss_one (ps_ret (StX.pe_makeR (E := E0) MW GW hr5 (by rfl) WI.m pass0 (pa_cons (pe_ix ix_list (pv 1) pe_int (fun _ _ => rfl)) (pa_cons (pe_ix ix_list (pv 1) pe_int (fun _ _ => rfl)) (pa_cons (pe_ix ix_list (pv 1) pe_int (fun _ _ => rfl)) (pa_cons (pe_ix ix_list (pv 1) pe_int (fun _ _ => rfl)) (pa_cons (pe_ix ix_list (pv 1) pe_int (fun _ _ => rfl)) (pa_cons (pe_ix ix_list (pv 1) pe_int (fun _ _ => rfl)) pa_nil))))))))) pss_nil)
      (pss_cons (ps_if (pt_cmpR op_eq (pe_callB call_len_seq (by rfl) B.len PySem.boot_len (pa_cons (pv 1) pa_nil)) pe_int (nomark _)) (pss_one (ps_ret (StX.pe_makeR (E := E0) MW GW hr5 (by rfl) WI.m pass0 (pa_cons (pe_ix ix_list (pv 1) pe_int (fun _ _ => rfl)) (pa_cons (pe_ix ix_list (pv 1) pe_int (fun _ _ => rfl)) (pa_cons (pe_ix ix_list (pv 1) pe_int (fun _ _ => rfl)) (pa_cons (pe_ix ix_list (pv 1) pe_int (fun _ _ => rfl)) (pa_cons (pe_ix ix_list (pv 1) pe_int (fun _ _ => rfl)) (pa_cons (pe_ix ix_list (pv 1) pe_int (fun _ _ => rfl)) (pa_cons (pe_ix ix_list (pv 1) pe_int (fun _ _ => rfl)) pa_nil)))))))))) pss_nil)
      (pss_one (ps_ret (StX.pe_makeR (E := E0) MW GW hr5 (by rfl) WI.m pass0 (pa_cons (pe_ix ix_list (pv 1) pe_int (fun _ _ => rfl)) (pa_cons (pe_ix ix_list (pv 1) pe_int (fun _ _ => rfl)) (pa_cons (pe_ix ix_list (pv 1) pe_int (fun _ _ => rfl)) (pa_cons (pe_ix ix_list (pv 1) pe_int (fun _ _ => rfl)) (pa_cons (pe_ix ix_list (pv 1) pe_int (fun _ _ => rfl)) (pa_cons (pe_ix ix_list (pv 1) pe_int (fun _ _ => rfl)) (pa_cons (pe_ix ix_list (pv 1) pe_int (fun _ _ => rfl)) (pa_cons (pe_ix ix_list (pv 1) pe_int (fun _ _ => rfl)) pa_nil))))))))))))))))))), ?_⟩
    refine ⟨_, rfl, a, rfl, ⟨_, ha⟩, fun D nD => ?_⟩
    have lxt : xs.length = th.length := paired_len hx
    obtain ⟨npq, cs, b0, c0, ep, eq, hcs⟩ := hP
    have hP : PoolAt H p q n := ⟨npq, cs, b0, c0, ep, eq, hcs⟩
    have nDp : D ≠ p := (ne_of_none ep nD).symm
    have nDq : D ≠ q := (ne_of_none eq nD).symm
    refine lc_list (K := K) (a := a) (xs := xs) (fun i H' => ∃ as : List Addr, H' D = some (.lst (as.map V.ref)) ∧ as.length = i ∧ ThAs K (mask [D, p, q] H') C as (th.take i) ∧ Same H H') ⟨[], upd_same, rfl, .nil, same_new nD⟩ (fun i H' _ ⟨_, _, _, _, h⟩ => h.seq ha) (fun i y H' hy hI => ?_) (fun H' hI => ?_)
    · obtain ⟨as, eD, el, hth, ss⟩ := hI
      obtain ⟨e, ee, hty⟩ := paired_get hx hy
      have hi8 : i < 8 := by have := (List.getElem?_eq_some_iff.mp ee).1; omega
      refine ⟨rfl, ?_⟩
      refine ⟨_, rfl, y, e, rfl, hty.same ss, hok _ (List.mem_of_getElem? ee), fun a1 H2 s2 ht => ?_⟩
      have eD2 := s2 _ _ eD
      refine ⟨_, eD2, small1000 (by rw [List.length_map]; omega), as ++ [a1], by rw [upd_same, List.map_append]; rfl, by rw [List.length_append, el]; rfl, ?_, fun b o eb => by rw [upd_ne (ne_of_none eb nD)]; exact s2 _ _ (ss _ _ eb)⟩
      rw [List.take_add_one, ee]
      have m2 : Same (mask [D, p, q] H2) (mask [D, p, q] (upd H2 D (.lst (as.map V.ref ++ [.ref a1])))) := mask_at List.mem_cons_self
      refine paired_app (ThAs.same ((mask_same s2).trans m2) hth) (.cons ((ht.maskL fun b hb => ?_).same m2) .nil)
      simp only [List.mem_cons, List.not_mem_nil, or_false] at hb
      rcases hb with rfl | rfl | rfl
      · exact ⟨_, eD2⟩
      · exact ⟨_, s2 _ _ (ss _ _ ep)⟩
      · exact ⟨_, s2 _ _ (ss _ _ eq)⟩
    · obtain ⟨as, eD, el, hth, ss⟩ := hI
      rw [lxt, List.take_length] at hth
      have hth2 : ThAs K (mask [p, q] H') C as th := ThAs.same mask_less hth
      obtain ⟨tl, etl, htl⟩ := hth2.thl
      have P' := hP.same ss
      have fin : ∀ (x dx : Addr), H' x = none → H' dx = none → ∀ (Q2 : VK), (∀ He s ct, (∀ b o, H' b = some o → He b = some o) → H' s = none → H' ct = none → WoAt K (s :: ct :: [p, q]) He CW x s (tl.map (·.2)) → StAt K (s :: ct :: [p, q]) He C CS s ct ⟨th, firsts th, 0, 0, 0⟩ → Q2 .non He) →
          spWInit K C CS CW (.ref x :: as.map V.ref) (upd (upd H' dx (.own x)) x (.ins CW dx [])) Q2 E0 := by
        intro x dx nx ndx Q2 k2
        have s5 : Same H' (upd (upd H' dx (.own x)) x (.ins CW dx [])) := fun b o e => by
          rw [upd_ne (ne_of_none e nx), upd_ne (ne_of_none e ndx)]; exact e
        have bk : ∀ {z : Addr}, (upd (upd H' dx (.own x)) x (.ins CW dx [])) z = none → H' z = none := fun {z} e => by
          cases h : H' z with
          | none => rfl
          | some o => rw [s5 _ _ h] at e; cases e
        exact ⟨x, dx, [p, q], tl, th, by rw [etl], upd_same, P'.alive.not nx, P'.alive.same s5, htl.same (mask_same s5), hnd, hl8, hkd, hff, fun He s ct k6 ns6 nct6 hW hS => k2 He s ct (fun b o e => k6 b o (ne_of_none e nx) (s5 b o e)) (bk ns6) (bk nct6) hW hS⟩
      have fin2 : ∀ (x : Addr) (He : Hp) (s ct : Addr), (∀ b o, H' b = some o → He b = some o) → H' s = none → H' ct = none → WoAt K (s :: ct :: [p, q]) He CW x s (tl.map (·.2)) → StAt K (s :: ct :: [p, q]) He C CS s ct ⟨th, firsts th, 0, 0, 0⟩ → Q (.ref x) He := by
        intro x He s ct k6 ns nct hW hS
        have bk : ∀ {z : Addr}, H' z = none → H z = none := fun {z} e => by
          cases h : H z with
          | none => rfl
          | some o => rw [ss _ _ h] at e; cases e
        refine kk x s ct tl He (fun b o e => k6 b o (ss b o e)) (bk ns) (bk nct) (P'.alive.not ns) (P'.alive.not nct) hW hS (htl.same (mask_ext (fun b o e => k6 b o e) fun z m => ?_))
        rcases List.mem_cons.mp m with q | m
        · exact .inr (by rw [q]; exact ns)
        · rcases List.mem_cons.mp m with q | m
          · exact .inr (by rw [q]; exact nct)
          · exact .inl m
      have lth : as.length = th.length := paired_len hth2
      have hpos : th.length ≠ 0 := fun h => hne (List.eq_nil_of_length_eq_zero h)
      clear hth hth2 htl etl
      rcases as with _ | ⟨a0, _ | ⟨a1, _ | ⟨a2, _ | ⟨a3, _ | ⟨a4, _ | ⟨a5, _ | ⟨a6, _ | ⟨a7, _ | ⟨a8, r⟩⟩⟩⟩⟩⟩⟩⟩⟩
      · exact absurd lth.symm hpos
      · exact ⟨_, rfl, D, _, rfl, .inl (SqL.of eD), rfl, _, rfl, iteF ⟨_, rfl, D, _, rfl, .inl (SqL.of eD), rfl, _, rfl, iteT ⟨_, rfl, D, _, 0, _, rfl, rfl, SqL.of eD, atI_nat (j := 0) rfl, fun x dx nx ndx _ => fin x dx nx ndx _ fun He s ct k6 ns nct hW hS => ⟨rfl, fin2 x He s ct k6 ns nct hW hS⟩⟩⟩⟩
      · exact ⟨_, rfl, D, _, rfl, .inl (SqL.of eD), rfl, _, rfl, iteF ⟨_, rfl, D, _, rfl, .inl (SqL.of eD), rfl, _, rfl, iteF ⟨_, rfl, D, _, rfl, .inl (SqL.of eD), rfl, _, rfl, iteT ⟨_, rfl, D, _, 0, _, rfl, rfl, SqL.of eD, atI_nat (j := 0) rfl, _, rfl, D, _, 1, _, rfl, rfl, SqL.of eD, atI_nat (j := 1) rfl, fun x dx nx ndx _ => fin x dx nx ndx _ fun He s ct k6 ns nct hW hS => ⟨rfl, fin2 x He s ct k6 ns nct hW hS⟩⟩⟩⟩⟩
      · exact ⟨_, rfl, D, _, rfl, .inl (SqL.of eD), rfl, _, rfl, iteF ⟨_, rfl, D, _, rfl, .inl (SqL.of eD), rfl, _, rfl, iteF ⟨_, rfl, D, _, rfl, .inl (SqL.of eD), rfl, _, rfl, iteF ⟨_, rfl, D, _, rfl, .inl (SqL.of eD), rfl, _, rfl, iteT ⟨_, rfl, D, _, 0, _, rfl, rfl, SqL.of eD, atI_nat (j := 0) rfl, _, rfl, D, _, 1, _, rfl, rfl, SqL.of eD, atI_nat (j := 1) rfl, _, rfl, D, _, 2, _, rfl, rfl, SqL.of eD, atI_nat (j := 2) rfl, fun x dx nx ndx _ => fin x dx nx ndx _ fun He s ct k6 ns nct hW hS => ⟨rfl, fin2 x He s ct k6 ns nct hW hS⟩⟩⟩⟩⟩⟩
      · exact ⟨_, rfl, D, _, rfl, .inl (SqL.of eD), rfl, _, rfl, iteF ⟨_, rfl, D, _, rfl, .inl (SqL.of eD), rfl, _, rfl, iteF ⟨_, rfl, D, _, rfl, .inl (SqL.of eD), rfl, _, rfl, iteF ⟨_, rfl, D, _, rfl, .inl (SqL.of eD), rfl, _, rfl, iteF ⟨_, rfl, D, _, rfl, .inl (SqL.of eD), rfl, _, rfl, iteT ⟨_, rfl, D, _, 0, _, rfl, rfl, SqL.of eD, atI_nat (j := 0) rfl, _, rfl, D, _, 1, _, rfl, rfl, SqL.of eD, atI_nat (j := 1) rfl, _, rfl, D, _, 2, _, rfl, rfl, SqL.of eD, atI_nat (j := 2) rfl, _, rfl, D, _, 3, _, rfl, rfl, SqL.of eD, atI_nat (j := 3) rfl, fun x dx nx ndx _ => fin x dx nx ndx _ fun He s ct k6 ns nct hW hS => ⟨rfl, fin2 x He s ct k6 ns nct hW hS⟩⟩⟩⟩⟩⟩⟩
      · exact ⟨_, rfl, D, _, rfl, .inl (SqL.of eD), rfl, _, rfl, iteF ⟨_, rfl, D, _, rfl, .inl (SqL.of eD), rfl, _, rfl, iteF ⟨_, rfl, D, _, rfl, .inl (SqL.of eD), rfl, _, rfl, iteF ⟨_, rfl, D, _, rfl, .inl (SqL.of eD), rfl, _, rfl, iteF ⟨_, rfl, D, _, rfl, .inl (SqL.of eD), rfl, _, rfl, iteF ⟨_, rfl, D, _, rfl, .inl (SqL.of eD), rfl, _, rfl, iteT ⟨_, rfl, D, _, 0, _, rfl, rfl, SqL.of eD, atI_nat (j := 0) rfl, _, rfl, D, _, 1, _, rfl, rfl, SqL.of eD, atI_nat (j := 1) rfl, _, rfl, D, _, 2, _, rfl, rfl, SqL.of eD, atI_nat (j := 2) rfl, _, rfl, D, _, 3, _, rfl, rfl, SqL.of eD, atI_nat (j := 3) rfl, _, rfl, D, _, 4, _, rfl, rfl, SqL.of eD, atI_nat (j := 4) rfl, fun x dx nx ndx _ => fin x dx nx ndx _ fun He s ct k6 ns nct hW hS => ⟨rfl, fin2 x He s ct k6 ns nct hW hS⟩⟩⟩⟩⟩⟩⟩⟩
      · exact ⟨_, rfl, D, _, rfl, .inl (SqL.of eD), rfl, _, rfl, iteF ⟨_, rfl, D, _, rfl, .inl (SqL.of eD), rfl, _, rfl, iteF ⟨_, rfl, D, _, rfl, .inl (SqL.of eD), rfl, _, rfl, iteF ⟨_, rfl, D, _, rfl, .inl (SqL.of eD), rfl, _, rfl, iteF ⟨_, rfl, D, _, rfl, .inl (SqL.of eD), rfl, _, rfl, iteF ⟨_, rfl, D, _, rfl, .inl (SqL.of eD), rfl, _, rfl, iteF ⟨_, rfl, D, _, rfl, .inl (SqL.of eD), rfl, _, rfl, iteT ⟨_, rfl, D, _, 0, _, rfl, rfl, SqL.of eD, atI_nat (j := 0) rfl, _, rfl, D, _, 1, _, rfl, rfl, SqL.of eD, atI_nat (j := 1) rfl, _, rfl, D, _, 2, _, rfl, rfl, SqL.of eD, atI_nat (j := 2) rfl, _, rfl, D, _, 3, _, rfl, rfl, SqL.of eD, atI_nat (j := 3) rfl, _, rfl, D, _, 4, _, rfl, rfl, SqL.of eD, atI_nat (j := 4) rfl, _, rfl, D, _, 5, _, rfl, rfl, SqL.of eD, atI_nat (j := 5) rfl, fun x dx nx ndx _ => fin x dx nx ndx _ fun He s ct k6 ns nct hW hS => ⟨rfl, fin2 x He s ct k6 ns nct hW hS⟩⟩⟩⟩⟩⟩⟩⟩⟩
      · exact ⟨_, rfl, D, _, rfl, .inl (SqL.of eD), rfl, _, rfl, iteF ⟨_, rfl, D, _, rfl, .inl (SqL.of eD), rfl, _, rfl, iteF ⟨_, rfl, D, _, rfl, .inl (SqL.of eD), rfl, _, rfl, iteF ⟨_, rfl, D, _, rfl, .inl (SqL.of eD), rfl, _, rfl, iteF ⟨_, rfl, D, _, rfl, .inl (SqL.of eD), rfl, _, rfl, iteF ⟨_, rfl, D, _, rfl, .inl (SqL.of eD), rfl, _, rfl, iteF ⟨_, rfl, D, _, rfl, .inl (SqL.of eD), rfl, _, rfl, iteF ⟨_, rfl, D, _, rfl, .inl (SqL.of eD), rfl, _, rfl, iteT ⟨_, rfl, D, _, 0, _, rfl, rfl, SqL.of eD, atI_nat (j := 0) rfl, _, rfl, D, _, 1, _, rfl, rfl, SqL.of eD, atI_nat (j := 1) rfl, _, rfl, D, _, 2, _, rfl, rfl, SqL.of eD, atI_nat (j := 2) rfl, _, rfl, D, _, 3, _, rfl, rfl, SqL.of eD, atI_nat (j := 3) rfl, _, rfl, D, _, 4, _, rfl, rfl, SqL.of eD, atI_nat (j := 4) rfl, _, rfl, D, _, 5, _, rfl, rfl, SqL.of eD, atI_nat (j := 5) rfl, _, rfl, D, _, 6, _, rfl, rfl, SqL.of eD, atI_nat (j := 6) rfl, fun x dx nx ndx _ => fin x dx nx ndx _ fun He s ct k6 ns nct hW hS => ⟨rfl, fin2 x He s ct k6 ns nct hW hS⟩⟩⟩⟩⟩⟩⟩⟩⟩⟩
      · exact ⟨_, rfl, D, _, rfl, .inl (SqL.of eD), rfl, _, rfl, iteF ⟨_, rfl, D, _, rfl, .inl (SqL.of eD), rfl, _, rfl, iteF ⟨_, rfl, D, _, rfl, .inl (SqL.of eD), rfl, _, rfl, iteF ⟨_, rfl, D, _, rfl, .inl (SqL.of eD), rfl, _, rfl, iteF ⟨_, rfl, D, _, rfl, .inl (SqL.of eD), rfl, _, rfl, iteF ⟨_, rfl, D, _, rfl, .inl (SqL.of eD), rfl, _, rfl, iteF ⟨_, rfl, D, _, rfl, .inl (SqL.of eD), rfl, _, rfl, iteF ⟨_, rfl, D, _, rfl, .inl (SqL.of eD), rfl, _, rfl, iteF ⟨_, rfl, D, _, 0, _, rfl, rfl, SqL.of eD, atI_nat (j := 0) rfl, _, rfl, D, _, 1, _, rfl, rfl, SqL.of eD, atI_nat (j := 1) rfl, _, rfl, D, _, 2, _, rfl, rfl, SqL.of eD, atI_nat (j := 2) rfl, _, rfl, D, _, 3, _, rfl, rfl, SqL.of eD, atI_nat (j := 3) rfl, _, rfl, D, _, 4, _, rfl, rfl, SqL.of eD, atI_nat (j := 4) rfl, _, rfl, D, _, 5, _, rfl, rfl, SqL.of eD, atI_nat (j := 5) rfl, _, rfl, D, _, 6, _, rfl, rfl, SqL.of eD, atI_nat (j := 6) rfl, _, rfl, D, _, 7, _, rfl, rfl, SqL.of eD, atI_nat (j := 7) rfl, fun x dx nx ndx _ => fin x dx nx ndx _ fun He s ct k6 ns nct hW hS => ⟨rfl, fin2 x He s ct k6 ns nct hW hS⟩⟩⟩⟩⟩⟩⟩⟩⟩⟩
      · exfalso
        simp only [List.length_cons] at lth
        omega
end
/-! ### rows of things, drawn -/
theorem strsL_shaped {xs : List Str} (h : ∀ x ∈ xs, IsWord x) : SeqAt.shaped (.list (xs.map .str)) = true := by
  have h1 : PyData.canLayAll0 (xs.map .str) = true := by
    induction xs with
    | nil => rfl
    | cons x r ih =>
      simp only [List.map_cons, PyData.canLayAll0, PyData.canLay0, Bool.and_eq_true]
      exact ⟨word_str (h x List.mem_cons_self), ih fun y hy => h y (List.mem_cons_of_mem _ hy)⟩
  have h2 : PyData.depthAll (xs.map .str) ≤ 1 := by
    induction xs with
    | nil => simp [PyData.depthAll]
    | cons x r ih =>
      simp only [List.map_cons, PyData.depthAll, PyData.depth]
      have := ih (fun y hy => h y (List.mem_cons_of_mem _ hy)) (by
        simp only [List.map_cons, PyData.canLayAll0, Bool.and_eq_true] at h1
        exact h1.2)
      omega
  unfold SeqAt.shaped
  simp only [PyData.canLay0, h1, PyData.depth, Bool.true_and]
  exact decide_eq_true (by omega)
theorem eqvL_nil (xs : List Str) : PyData.eqv (.list (xs.map .str)) (.list []) = decide (xs = []) := by
  cases xs with
  | nil => rfl
  | cons x r => rfl
def k7 : List Str := ["feed", "table", "dice", "source", "field", "flag", "slot"]
def belowOf (th : Ths) : List Str := (th.filter fun e => decide (e.2.1 ∈ (["source", "field"] : List Str))).map (·.1)
theorem below_snoc {th : Ths} {i : Nat} {e : Tr} (h : th[i]? = some e) : belowOf (th.take (i + 1)) = belowOf (th.take i) ++ (if decide (e.2.1 ∈ (["source", "field"] : List Str)) = true then [e.1] else []) := by
  unfold belowOf
  rw [List.take_add_one, h, List.filter_append, List.map_append]
  congr 1
  show (List.filter _ [e]).map _ = _
  rw [List.filter_cons, List.filter_nil]
  split <;> rfl
structure WB (K : PySem.W.Frag) (p q tl nl : Addr) (ns : List Str) (H0 : Hp) (xs : List V) (th : Ths) (m : Nat) (H : Hp) : Prop where
  Po : PoolAt H p q m
  Ke : Keeps p q H0 H
  eT : H tl = some (.lst xs)
  eN : H nl = some (.lst (ns.map V.str))
  pr : Paired (ThTup K (mask [tl, p, q] H)) xs th
theorem paired_imp {α β : Type} {R S : α → β → Prop} (h : ∀ x y, R x y → S x y) : ∀ {xs : List α} {ys : List β}, Paired R xs ys → Paired S xs ys
  | _, _, .nil => .nil
  | _, _, .cons r t => .cons (h _ _ r) (paired_imp h t)
theorem WB.same {K : PySem.W.Frag} {p q tl nl : Addr} {ns : List Str} {H0 H H' : Hp} {xs : List V} {th : Ths} {m : Nat} (h : WB K p q tl nl ns H0 xs th m H) (c : Same H H') : WB K p q tl nl ns H0 xs th m H' :=
  ⟨h.Po.same c, h.Ke.trans (.of_same c), c _ _ h.eT, c _ _ h.eN, paired_imp (fun _ _ r => r.same (mask_same c)) h.pr⟩
theorem WB.pool {K : PySem.W.Frag} {p q tl nl : Addr} {ns : List Str} {H0 H H' : Hp} {xs : List V} {th : Ths} {m m' : Nat} (h : WB K p q tl nl ns H0 xs th m H) (P : PoolAt H' p q m') (k : Keeps p q H H') (n1 : tl ∉ [p, q]) (n2 : nl ∉ [p, q]) : WB K p q tl nl ns H0 xs th m' H' := by
  have two : ∀ {z : Addr}, z ∉ [p, q] → z ≠ p ∧ z ≠ q := fun {z} h => ⟨fun e => h (by rw [e]; exact List.mem_cons_self), fun e => h (by rw [e]; exact List.mem_cons_of_mem _ List.mem_cons_self)⟩
  exact ⟨P, h.Ke.trans k, k _ _ (two n1).1 (two n1).2 h.eT, k _ _ (two n2).1 (two n2).2 h.eN, paired_imp (fun _ _ r => r.same (k.maskL (by simp) (by simp))) h.pr⟩
theorem WB.alive {K : PySem.W.Frag} {p q tl nl : Addr} {ns : List Str} {H0 H : Hp} {xs : List V} {th : Ths} {m : Nat} (h : WB K p q tl nl ns H0 xs th m H) : Alive [tl, p, q] H := fun z hz => by
  rcases List.mem_cons.mp hz with rfl | hz
  · exact ⟨_, h.eT⟩
  · exact h.Po.alive z hz
theorem inW {x : Str} {xs : List Str} {vs : List V} (h : vs = xs.map V.str) : inV (.str x) vs = decide (x ∈ xs) := by rw [h]; exact inV_strT
theorem below_ok {th : Ths} {o : Str} (h : o ∈ belowOf th) : ∃ (j : Nat) (k : Str) (ps : List Str), th[j]? = some (o, k, ps) ∧ (k = "source" ∨ k = "field") := by
  obtain ⟨⟨n, k, ps⟩, he, rfl⟩ := List.mem_map.mp h
  obtain ⟨h1, h2⟩ := List.mem_filter.mp he
  obtain ⟨j, hj⟩ := List.getElem?_of_mem h1
  refine ⟨j, k, ps, hj, ?_⟩
  have := of_decide_eq_true h2
  simp only [List.mem_cons, List.not_mem_nil, or_false] at this
  exact this
theorem fields_snoc {th : Ths} {e : Tr} (h : FieldsOk th) (he : e.2.1 = "field" → ∃ o ∈ belowOf th, e.2.2 = [o]) : FieldsOk (th ++ [e]) := by
  intro i n parts hi
  rcases Nat.lt_or_ge i th.length with q | q
  · rw [List.getElem?_append_left q] at hi
    obtain ⟨o, r, h1, j, k, ps, h2, h3, h4⟩ := h i n parts hi
    exact ⟨o, r, h1, j, k, ps, h2, by rw [List.getElem?_append_left (by omega)]; exact h3, h4⟩
  · rw [List.getElem?_append_right q] at hi
    have z : i - th.length = 0 := by
      rcases Nat.eq_zero_or_pos (i - th.length) with z | z
      · exact z
      · rw [List.getElem?_eq_none (by simp; omega)] at hi; cases hi
    rw [z] at hi
    obtain rfl := Option.some.inj hi
    obtain ⟨o, ho, e2⟩ := he rfl
    obtain ⟨j, k, ps, h3, h4⟩ := below_ok ho
    have hj := (List.getElem?_eq_some_iff.mp h3).1
    exact ⟨o, [], e2, j, k, ps, by omega, by rw [List.getElem?_append_left hj]; exact h3, h4⟩
/-- rows that go together -/
structure ThsOk (ns : List Str) (th : Ths) : Prop where
  nm : names th = ns
  ok : ∀ e ∈ th, TrOk e
  kd : ∀ e ∈ th, e.2.1 ∈ kindsS
  ff : FieldsOk th
def spWide (K : PySem.W.Frag) : Sp := fun vs H Q _ => ∃ (p q : Addr) (n least most : Nat), vs = [.ref p, .int (least : Int), .int (most : Int)] ∧ PoolAt H p q n ∧ n ≤ 10000 ∧ 1 ≤ least ∧ least ≤ most ∧ most ≤ 8 ∧
  ∀ a xs ns th n' H', H a = none → least ≤ ns.length → ns.length ≤ most → ns.Nodup → ThsOk ns th → PoolAt H' p q n' → n' ≤ n + 600 → Keeps p q H H' → H' a = some (.lst xs) → Paired (ThTup K (mask [a, p, q] H')) xs th → Q (.ref a) H'
section
variable {P : Program} {w : World} {K : PySem.W.Frag} {mg : Str → Option Value} {base : Heap}
theorem scWt : FnScope ["pool", "least", "most", "many", "names", "things", "name", "kind", "below", "thing", "parts"] ["pool", "least", "most"] (defScope sWide) := ⟨rfl, rfl, rfl, by decide +kernel, rfl, by decide +kernel, by decide +kernel⟩
theorem ok_wide {f fD fL : Addr} {fd fdD fdL : FuncData} (F : Fun K "_law_wide_things" "_law_wide_things" sWide f fd) (B : Bts mg) (GD : FnOk P w K mg base CX0 1 fD fdD ["pool", "many"] spDraw) (mD : mg "_law_draw" = some (.ref fD)) (kD : PySem.W.keepIn K (.ref fD) = true) (bD : Binds K fdD ["pool", "many"] [])
    (GL : FnOk P w K mg base CX0 2 fL fdL ["pool", "many"] spLNames) (mL : mg "_law_names" = some (.ref fL)) (kL : PySem.W.keepIn K (.ref fL) = true) (bL : Binds K fdL ["pool", "many"] []) : FnOk P w K mg base CX0 3 f fd ["pool", "least", "most"] (spWide K) := by
  refine F.ok scWt (fun vs H Q E h => ?_) (fun cdv A outer s0 H vs Q E hr h => ?_)
  · obtain ⟨p, q, n, least, most, rfl, _⟩ := h
    rfl
  · obtain ⟨p, q, n, least, most, rfl, hP, hn, h1, h2, h8, kk⟩ := h
    have hr1 : Room 1 _ := hr.mono (by decide)
    have hr2 : Room 2 _ := hr.mono (by decide)
    refine ⟨_, pss_cons (ps_set (i := 3) scWt.nd rfl (.inl rfl) (pe_op op_add (pv 1) (pe_call GD hr1 (by rfl) mD kD bD .nil pass0 (pa_cons (pv 0) (pa_cons (pe_op op_sub (pe_op op_add (pv 2) pe_int) (pv 1)) pa_nil)))))
      (pss_cons (ps_set (i := 4) scWt.nd rfl (.inl rfl) (pe_call GL hr2 (by rfl) mL kL bL .nil pass0 (pa_cons (pv 0) (pa_cons (pv 3) pa_nil))))
      (pss_cons (ps_set (i := 5) scWt.nd rfl (.inl rfl) (pe_lst pa_nil))
      (pss_cons (ps_for PassesOwn.never rfl (pi_list (pv 4)) (pg_name (i := 6) scWt.nd rfl (.inl rfl))
        (pss_cons (ps_set (i := 7) scWt.nd rfl (.inl rfl) (pe_ix ix_list (pe_lst (pa_cons pe_str (pa_cons pe_str (pa_cons pe_str (pa_cons pe_str (pa_cons pe_str (pa_cons pe_str (pa_cons pe_str pa_nil)))))))) (pe_call GD hr1 (by rfl) mD kD bD .nil pass0 (pa_cons (pv 0) (pa_cons pe_int pa_nil))) (fun _ _ => rfl)))
          (pss_cons (ps_setLc (i := 8) (own := [("thing", 9)]) (g := gName 9) rfl scWt.nd rfl rfl (sw_true rfl rfl rfl (by decide +kernel)) (pi_list (pv 5)) (blkOk_by (N := ["pool", "least", "most", "many", "names", "things", "name", "kind", "below", "thing", "parts"]) (sc := defScope sWide) (by decide +kernel)) (fun _ _ _ _ _ => (pg_name (i := 9) scWt.nd rfl (.inl rfl))) (fun _ _ _ _ _ => pts_one (pt_cmpR (opK (K := K) (r := fun K => rIn K false) op_in_seq) (pe_ix (ixK (K := K) (r := rIxT) ix_tup) (pv 9) pe_int (fun _ _ => rfl)) (pe_tup (pa_cons pe_str (pa_cons pe_str pa_nil))) (by rfl))) (fun _ _ _ _ _ => (pe_ix (ixK (K := K) (r := rIxT) ix_tup) (pv 9) pe_int (fun _ _ => rfl))))
          (C8.pss_cut (ps_if (PW.pt (pw_and (pt_cmpR op_eq (pv 7) pe_str (nomark _)) (pw_and1 (pt_cmpR (op_eqD hr.units) (pv 8) (pe_lst pa_nil) (nomark _)))))
            (pss_one (ps_set (i := 7) scWt.nd rfl (.inl rfl) pe_str))
            pss_nil)
          (pss_cons (ps_set (i := 10) scWt.nd rfl (.inl rfl) pe_tup0Q)
          (C8.pss_cut (ps_if (pt_cmpR op_eq (pv 7) pe_str (nomark _))
            (pss_one (ps_set (i := 10) scWt.nd rfl (.inl rfl) (pe_tup (pa_cons (pe_ix ix_list (pv 8) (pe_call GD hr1 (by rfl) mD kD bD .nil pass0 (pa_cons (pv 0) (pa_cons (pe_callB call_len_seq (by rfl) B.len PySem.boot_len (pa_cons (pv 8) pa_nil)) pa_nil))) (fun _ _ => rfl)) pa_nil))))
            pss_nil)
          (C8.pss_cut (ps_if (pt_cmpR op_eq (pv 7) pe_str (nomark _))
            (pss_one (ps_set (i := 10) scWt.nd rfl (.inl rfl) (pe_callTy call_tupS (by rfl) B.tuple (by decide +kernel) (pa_cons (pe_call GL hr2 (by rfl) mL kL bL .nil pass0 (pa_cons (pv 0) (pa_cons (pe_call GD hr1 (by rfl) mD kD bD .nil pass0 (pa_cons (pv 0) (pa_cons pe_int pa_nil))) pa_nil))) pa_nil))))
            pss_nil)
          (pss_one (ps_expr (pe_bm PySem.F.plainAttrs_list PySem.F.slot_list_append PySem.F.type_list_append mt_append (pv 5) (pa_cons (pe_tup (pa_cons (pv 7) (pa_cons (pv 6) (pa_cons (pv 10) pa_nil)))) pa_nil)))))))))))
      (pss_one (ps_ret (pv 5)))))), ?_⟩
    refine ⟨_, rfl, _, rfl, _, rfl, _, _, rfl, rfl, _, rfl, _, _, rfl, rfl, p, q, n, _, rfl, hP, by omega, by omega, ?_, fun d H1 d0 d1 P1 K1 => ?_⟩
    · have : ((most : Int) + 1 - least) ≤ 8 := by omega
      exact Int.le_trans this (by decide)
    obtain ⟨dn, rfl⟩ : ∃ k : Nat, d = (k : Int) := ⟨d.toNat, by omega⟩
    refine ⟨_, _, rfl, rfl, _, rfl, _, rfl, p, q, n + 1, least + dn, by rw [Int.natCast_add]; rfl, P1, by omega, by omega, fun nl ns n2 H2 nnl hl2 hw hnd _ hn2 P2 K2 enl => ?_⟩
    refine ⟨by show 0 ≤ sizeLine; decide, fun tl ntl => ?_⟩
    have two : ∀ {z : Addr}, z ∉ [p, q] → z ≠ p ∧ z ≠ q := fun {z} h => ⟨fun e => h (by rw [e]; exact List.mem_cons_self), fun e => h (by rw [e]; exact List.mem_cons_of_mem _ List.mem_cons_self)⟩
    have nlp := P1.alive.not nnl
    have tlp := P2.alive.not ntl
    have K12 := K1.trans K2
    have tlH : H tl = none := K12.free ntl (two tlp).1 (two tlp).2
    have tlnl : tl ≠ nl := (ne_of_none enl ntl).symm
    have wb0 : WB K p q tl nl ns H [] [] n2 (upd H2 tl (.lst [])) :=
      ⟨P2.new ntl, K12.trans (.of_same (same_new ntl)), upd_same, same_new ntl _ _ enl, .nil⟩
    clear enl K12 K2 K1 P1 P2
    generalize upd H2 tl (.lst []) = H3 at *
    have hlen : ns.length ≤ 8 := by omega
    refine ⟨_, rfl, nl, rfl, ⟨_, SqL.of wb0.eN⟩, for_list (K := K) (a := nl) (xs := ns.map V.str) (fun i σ H' => ∃ (xs : List V) (th : Ths) (m : Nat) (y6 y7 y8 y10 : Option V), σ = [some (.ref p), some (.int (least : Int)), some (.int (most : Int)), some (.int ((least : Int) + (dn : Int))), some (.ref nl), some (.ref tl), y6, y7, y8, none, y10] ∧
        WB K p q tl nl ns H xs th m H' ∧ ThsOk (ns.take i) th ∧ m ≤ n2 + 45 * i) ⟨[], [], n2, none, none, none, none, rfl, wb0, ⟨rfl, fun _ h => (by cases h), fun _ h => (by cases h), fun i n ps h => (by simp at h)⟩, by omega⟩ (fun j σ H' _ ⟨_, _, _, _, _, _, _, _, h, _⟩ => SqL.of h.eN) (fun j y σ H'0 hy hI => ?_) (fun σ H' hI => ?_)⟩
    · obtain ⟨xs, th, m, y6, y7, y8, y10, rfl, wb, ok, hm⟩ := hI
      rw [List.getElem?_map] at hy
      obtain ⟨nm, en, rfl⟩ := Option.map_eq_some_iff.mp hy
      have hj : j < 8 := by have := (List.getElem?_eq_some_iff.mp en).1; omega
      have hwn : IsWord nm := hw _ (List.mem_of_getElem? en)
      have lth : th.length = j := by
        have := congrArg List.length ok.nm
        unfold names at this
        rw [List.length_map, List.length_take] at this
        have h9 := (List.getElem?_eq_some_iff.mp en).1
        omega
      have lxs := paired_len wb.pr
      refine ⟨by show 7 ≤ sizeLine; decide, fun l7 n7 => ?_⟩
      have wb1 := wb.same (same_new (o := .lst [.str "feed", .str "table", .str "dice", .str "source", .str "field", .str "flag", .str "slot"]) n7)
      have e7 : (upd H'0 l7 (.lst [.str "feed", .str "table", .str "dice", .str "source", .str "field", .str "flag", .str "slot"])) l7 = some (.lst (k7.map V.str)) := upd_same
      have l7p := wb.Po.alive.not n7
      generalize upd H'0 l7 (.lst [.str "feed", .str "table", .str "dice", .str "source", .str "field", .str "flag", .str "slot"]) = Ha at *
      refine ⟨_, rfl, p, q, m, 7, rfl, wb1.Po, by omega, by decide, by decide, fun d Hb d0 d1 Pb Kb => ?_⟩
      have wb2 := wb1.pool Pb Kb tlp nlp
      have e72 := Kb _ _ (two l7p).1 (two l7p).2 e7
      obtain ⟨i, rfl⟩ : ∃ i : Nat, d = (i : Int) := ⟨d.toNat, by omega⟩
      have e1 : k7[i]? = some (k7[i]'(by show i < 7; omega)) := List.getElem?_eq_getElem _
      generalize k7[i]'(by show i < 7; omega) = kind at e1
      refine ⟨l7, _, _, _, rfl, rfl, SqL.of e72, atI_nat (by rw [List.getElem?_map, e1]; rfl), ?_⟩
      have hkind : kind ∈ k7 := List.mem_of_getElem? e1
      clear wb wb1 e7 e72 Pb Kb
      refine ⟨_, rfl, tl, rfl, ⟨_, SqL.of wb2.eT⟩, fun bl nb => ?_⟩
      refine lc_list (K := K) (a := tl) (xs := xs) (fun i H' => H' bl = some (.lst ((belowOf (th.take i)).map V.str)) ∧ Same Hb H') ⟨upd_same, same_new nb⟩ (fun i H' _ hI => SqL.of (hI.2 _ _ wb2.eT)) (fun i y H' hy hI => ?_) (fun H' hI => ?_)
      · obtain ⟨eb, sb⟩ := hI
        obtain ⟨e, ee, t, pt, rfl, ht, _⟩ := paired_get wb2.pr hy
        have ht0 := Same.seqT (mask_sub _ _) ht
        have hi8 : i < 8 := by have := (List.getElem?_eq_some_iff.mp ee).1; omega
        refine ⟨rfl, ?_⟩
        refine ⟨_, rfl, t, _, 0, _, rfl, rfl, Same.seqT sb ht0, atI_nat (j := 0) rfl, by show 2 ≤ sizeLine; decide, fun t2 nt2 => ?_⟩
        have s2 := sb.trans (same_new (o := .tup [.str "source", .str "field"]) nt2)
        have eb2 := same_new (o := .tup [.str "source", .str "field"]) nt2 _ _ eb
        have et2 : SqT K (upd H' t2 (.tup [.str "source", .str "field"])) t2 [.str "source", .str "field"] := SqT.of upd_same
        generalize upd H' t2 (.tup [.str "source", .str "field"]) = Hc at *
        refine ⟨t2, _, rfl, .inr et2, rfl, rfl, _, rfl, ?_⟩
        show (if inV (V.str e.2.1) [.str "source", .str "field"] = true then _ else _)
        rw [inW (xs := ["source", "field"]) (vs := [V.str "source", V.str "field"]) rfl]
        have hs := below_snoc ee
        have lb : (belowOf (th.take i)).length ≤ 8 := by
          unfold belowOf
          rw [List.length_map]
          have h2 : (th.take i).length ≤ i := by rw [List.length_take]; omega
          exact Nat.le_trans (List.length_filter_le _ _) (by omega)
        cases hc : decide (e.2.1 ∈ (["source", "field"] : List Str)) with
        | false =>
          rw [hc, if_neg (by decide), List.append_nil] at hs
          exact iteF ⟨by rw [hs]; exact eb2, s2⟩
        | true =>
          rw [hc, if_pos rfl] at hs
          refine iteT ⟨_, rfl, t, _, 1, _, rfl, rfl, Same.seqT s2 ht0, atI_nat (j := 1) rfl, _, eb2, small1000 (by rw [List.length_map]; omega), by rw [upd_same, hs, List.map_append]; rfl, fun b o eo => ?_⟩
          rw [upd_ne (ne_of_none eo nb)]; exact s2 b o eo
      obtain ⟨eb, sb⟩ := hI
      rw [lxs, List.take_length] at eb
      have wb3 := wb2.same sb
      have hbw : ∀ o ∈ belowOf th, IsWord o := fun o ho => by
        obtain ⟨jj, k, ps, h3, _⟩ := below_ok ho
        have hm := List.mem_of_getElem? h3
        have hn : o ∈ names th := List.mem_map.mpr ⟨_, hm, rfl⟩
        rw [ok.nm] at hn
        exact hw _ (List.mem_of_mem_take hn)
      have blp : bl ∉ [p, q] := wb2.Po.alive.not nb
      clear wb2 sb nb
      refine ⟨fun σ H' => ∃ kind' : Str, σ = [some (.ref p), some (.int (least : Int)), some (.int (most : Int)), some (.int ((least : Int) + (dn : Int))), some (.ref nl), some (.ref tl), some (.str nm), some (.str kind'), some (.ref bl), none, y10] ∧ kind' ∈ k7 ∧ (kind' = "field" → belowOf th ≠ []) ∧ WB K p q tl nl ns H xs th (m + 1) H' ∧ H' bl = some (.lst ((belowOf th).map V.str)), ?_, ?_⟩
      · refine ⟨_, rfl, rfl, _, rfl, ?_⟩
        show (if decide (V.str kind = V.str "field") = true then _ else _)
        by_cases hf : kind = "field"
        · subst hf
          rw [decide_eq_true (rfl : V.str "field" = V.str "field")]
          refine iteT ⟨_, rfl, by show 0 ≤ sizeLine; decide, fun e0 ne0 => ?_⟩
          have s0 := same_new (o := .lst []) ne0
          have ee0 : (upd H' e0 (.lst [])) e0 = some (.lst []) := upd_same
          have wb4 := wb3.same s0
          have eb4 := s0 _ _ eb
          generalize upd H' e0 (.lst []) = Hd at *
          refine ⟨.list ((belowOf th).map .str), .list [], .lst (SqL.of eb4) (strs_dp _), .lst (SqL.of ee0) .nil, strsL_shaped hbw, rfl, _, rfl, ?_⟩
          rw [eqvL_nil]
          by_cases hb : belowOf th = []
          · rw [decide_eq_true hb]
            exact iteT ⟨"source", rfl, by decide +kernel, fun h => absurd h (by decide +kernel), wb4, eb4⟩
          · rw [decide_eq_false hb]
            exact iteF ⟨"field", rfl, hkind, fun _ => hb, wb4, eb4⟩
        · rw [show decide (V.str kind = V.str "field") = false from decide_eq_false fun z => hf (by injection z)]
          exact iteF ⟨kind, rfl, hkind, fun h => absurd h hf, wb3, eb⟩
      clear hkind e1 wb3 eb
      rintro σ H4 ⟨kd, rfl, hkd, hfb, wb4, eb4⟩
      refine fun t0 nt0 => ?_
      have wb5 := wb4.same (same_new (o := .frz { cls := .type "tuple", data := .seq #[] } (.tup [])) nt0)
      have eb5 := same_new (o := .frz { cls := .type "tuple", data := .seq #[] } (.tup [])) nt0 _ _ eb4
      have t0L := wb4.alive.not nt0
      have et0 : SqT K (mask [tl, p, q] (upd H4 t0 (.frz { cls := .type "tuple", data := .seq #[] } (.tup [])))) t0 (([] : List Str).map V.str) := .inl (.inr ⟨_, by rw [mask_out t0L]; exact upd_same⟩)
      generalize upd H4 t0 (.frz { cls := .type "tuple", data := .seq #[] } (.tup [])) = H5 at *
      refine ⟨fun σ H' => ∃ (ps : List Str) (pt : Addr) (m' : Nat), σ = [some (.ref p), some (.int (least : Int)), some (.int (most : Int)), some (.int ((least : Int) + (dn : Int))), some (.ref nl), some (.ref tl), some (.str nm), some (.str kd), some (.ref bl), none, some (.ref pt)] ∧ WB K p q tl nl ns H xs th m' H' ∧ m' ≤ m + 2 ∧ SqT K (mask [tl, p, q] H') pt (ps.map V.str) ∧ (kd = "field" → ∃ o ∈ belowOf th, ps = [o]) ∧ (kd ≠ "field" → ps = []), ?_, ?_⟩
      · refine ⟨_, rfl, rfl, _, rfl, ?_⟩
        show (if decide (V.str kd = V.str "field") = true then _ else _)
        by_cases hf : kd = "field"
        · rw [decide_eq_true (show V.str kd = V.str "field" by rw [hf])]
          have hne := hfb hf
          have hpos : 0 < (belowOf th).length := List.length_pos_iff.mpr hne
          have hbl8 : (belowOf th).length ≤ 8 := by
            unfold belowOf
            rw [List.length_map]
            exact Nat.le_trans (List.length_filter_le _ _) (by omega)
          have h40 : (((belowOf th).map V.str).length : Int) ≤ 10 ^ 40 := Int.le_trans (show (((belowOf th).map V.str).length : Int) ≤ 8 by rw [List.length_map]; omega) (by decide)
          refine iteT ⟨_, rfl, _, rfl, _, rfl, bl, _, rfl, .inl (SqL.of eb5), p, q, m + 1, _, rfl, wb5.Po, by omega, by rw [List.length_map]; omega, h40, fun d H6 d0 d1 P6 K6 => ?_⟩
          have wb6 := wb5.pool P6 K6 tlp nlp
          have eb6 := K6 _ _ (two blp).1 (two blp).2 eb5
          rw [List.length_map] at d1
          obtain ⟨i, rfl⟩ : ∃ i : Nat, d = (i : Int) := ⟨d.toNat, by omega⟩
          have e1 : (belowOf th)[i]? = some ((belowOf th)[i]'(by omega)) := List.getElem?_eq_getElem _
          generalize (belowOf th)[i]'(by omega) = o at e1
          refine ⟨bl, _, _, _, rfl, rfl, SqL.of eb6, atI_nat (by rw [List.getElem?_map, e1]; rfl), by show 1 ≤ sizeLine; decide, fun pt npt => ?_⟩
          have s7 := same_new (o := .tup [.str o]) npt
          exact ⟨[o], pt, m + 2, rfl, wb6.same s7, Nat.le_refl _, SqT.of (mask_upd (wb6.alive.not npt)), fun _ => ⟨o, List.mem_of_getElem? e1, rfl⟩, fun h => absurd hf h⟩
        · rw [show decide (V.str kd = V.str "field") = false from decide_eq_false fun z => hf (by injection z)]
          exact iteF ⟨[], t0, m + 1, rfl, wb5, Nat.le_succ _, et0, fun h => absurd h hf, fun _ => rfl⟩
      clear et0 wb5 eb5 hfb wb4 eb4 t0L nt0
      rintro σ H6 ⟨ps, pt, m1, rfl, wb6, hm1, hpt, hfo, hnf⟩
      refine ⟨fun σ H' => ∃ (ps : List Str) (pt : Addr) (m' : Nat), σ = [some (.ref p), some (.int (least : Int)), some (.int (most : Int)), some (.int ((least : Int) + (dn : Int))), some (.ref nl), some (.ref tl), some (.str nm), some (.str kd), some (.ref bl), none, some (.ref pt)] ∧ WB K p q tl nl ns H xs th m' H' ∧ m' ≤ m + 45 ∧ SqT K (mask [tl, p, q] H') pt (ps.map V.str) ∧ (kd = "field" → ∃ o ∈ belowOf th, ps = [o]) ∧ (kd = "table" → (∀ x ∈ ps, IsWord x) ∧ ps.Nodup ∧ ps.length ≤ 4) ∧ (kd ≠ "field" → kd ≠ "table" → ps = []), ?_, ?_⟩
      · refine ⟨_, rfl, rfl, _, rfl, ?_⟩
        show (if decide (V.str kd = V.str "table") = true then _ else _)
        by_cases hf : kd = "table"
        · rw [decide_eq_true (show V.str kd = V.str "table" by rw [hf])]
          refine iteT ⟨_, rfl, _, rfl, p, q, m1, 5, rfl, wb6.Po, by omega, by decide, by decide, fun d H7 d0 d1 P7 K7 => ?_⟩
          have wb7 := wb6.pool P7 K7 tlp nlp
          obtain ⟨k, rfl⟩ : ∃ k : Nat, d = (k : Int) := ⟨d.toNat, by omega⟩
          refine ⟨p, q, m1 + 1, k, rfl, P7, by omega, by omega, fun kl ks n8 H8 nkl hl4 hkw hkn _ hn8 P8 K8 ekl => ?_⟩
          have wb8 := wb7.pool P8 K8 tlp nlp
          refine ⟨⟨kl, _, rfl, .inl ⟨SqL.of ekl, fun c nc => ?_⟩⟩⟩
          have sc := same_new (o := .tup (ks.map V.str)) nc
          exact ⟨ks, c, n8, rfl, wb8.same sc, by omega, SqT.of (mask_upd (wb8.alive.not nc)), fun h => absurd (hf.symm.trans h) (by decide +kernel), fun _ => ⟨hkw, hkn, by omega⟩, fun _ h => absurd hf h⟩
        · rw [show decide (V.str kd = V.str "table") = false from decide_eq_false fun z => hf (by injection z)]
          exact iteF ⟨ps, pt, m1, rfl, wb6, by omega, hpt, hfo, fun h => absurd h hf, fun h _ => hnf h⟩
      clear hnf hfo hpt wb6
      rintro σ H7 ⟨ps, pt, m2, rfl, wb7, hm2, hpt, hfo, htb, hot⟩
      refine ⟨_, rfl, .inl ⟨rfl, _, SqL.of wb7.eT⟩, _, rfl, _, rfl, _, rfl, by show 3 ≤ sizeLine; decide, fun t nt => ?_⟩
      have st := same_new (o := .tup [.str kd, .str nm, .ref pt]) nt
      have et : (upd H7 t (.tup [.str kd, .str nm, .ref pt])) t = some (.tup [.str kd, .str nm, .ref pt]) := upd_same
      have tL := wb7.alive.not nt
      have wb8 := wb7.same st
      have hpt8 := Same.seqT (mask_same st) hpt
      generalize upd H7 t (.tup [.str kd, .str nm, .ref pt]) = H8 at *
      refine ⟨tl, _, .ref t, rfl, rfl, wb8.eT, small1000 (by omega), ?_⟩
      have mt : Same (mask [tl, p, q] H8) (mask [tl, p, q] (upd H8 tl (.lst (xs ++ [.ref t])))) := mask_at List.mem_cons_self
      have w9 : WB K p q tl nl ns H (xs ++ [.ref t]) (th ++ [(nm, kd, ps)]) m2 (upd H8 tl (.lst (xs ++ [.ref t]))) := by
        refine ⟨wb8.Po.upd (two tlp).1 (two tlp).2, fun b o h1 h2 e => ?_, upd_same, by rw [upd_ne tlnl.symm]; exact wb8.eN, paired_app (paired_imp (fun _ _ r => r.same mt) wb8.pr) (.cons (ThTup.same ⟨t, pt, rfl, SqT.of (by rw [mask_out tL]; exact et), hpt8⟩ mt) .nil)⟩
        rw [upd_ne (ne_of_none e tlH)]
        exact wb8.Ke b o h1 h2 e
      refine ⟨_, _, m2, _, _, _, _, rfl, w9, ?_, by omega⟩
      refine ⟨?_, fun e he => ?_, fun e he => ?_, fields_snoc ok.ff fun h => hfo h⟩
      · rw [List.take_add_one, en, ← ok.nm]
        unfold names
        rw [List.map_append]
        rfl
      · rcases List.mem_append.mp he with he | he
        · exact ok.ok e he
        · rw [List.mem_singleton.mp he]
          simp only [k7, List.mem_cons, List.not_mem_nil, or_false] at hkd
          by_cases q1 : kd = "field"
          · obtain ⟨o, ho, rfl⟩ := hfo q1
            subst q1
            exact .field hwn (hbw o ho)
          · by_cases q2 : kd = "table"
            · obtain ⟨a1, a2, a3⟩ := htb q2
              subst q2
              exact .table hwn a1 a2 a3
            · obtain rfl := hot q1 q2
              refine .one ?_ hwn
              rcases hkd with h | h | h | h | h | h | h
              · rw [h]; decide +kernel
              · exact absurd h q2
              · rw [h]; decide +kernel
              · rw [h]; decide +kernel
              · exact absurd h q1
              · rw [h]; decide +kernel
              · rw [h]; decide +kernel
      · rcases List.mem_append.mp he with he | he
        · exact ok.kd e he
        · rw [List.mem_singleton.mp he]
          have all : ∀ z ∈ k7, z ∈ kindsS := by decide +kernel
          exact all _ hkd
    · obtain ⟨xs, th, m, y6, y7, y8, y10, rfl, wb, ok, hm⟩ := hI
      rw [List.length_map] at hm ok
      rw [List.take_length] at ok
      exact ⟨_, rfl, kk tl xs ns th m _ tlH (by omega) (by omega) hnd ok wb.Po (by omega) wb.Ke wb.eT wb.pr⟩
end
section
variable {P : Program} {w : World} {K : PySem.W.Frag} {mg : Str → Option Value} {base : Heap}
theorem scW : FnScope ["pool", "letters", "k"] ["pool"] (defScope sWord) := ⟨rfl, rfl, rfl, by decide +kernel, rfl, by decide +kernel, by decide +kernel⟩
theorem ok_word {f fD : Addr} {fd fdD : FuncData} (F : Fun K "_law_word" "_law_word" sWord f fd) (GD : FnOk P w K mg base CX0 1 fD fdD ["pool", "many"] spDraw) (mD : mg "_law_draw" = some (.ref fD)) (kD : PySem.W.keepIn K (.ref fD) = true)
    (bD : Binds K fdD ["pool", "many"] []) (mr : mg "range" = none) : FnOk P w K mg base CX0 2 f fd ["pool"] spWord := by
  refine F.ok scW (fun vs H Q E h => ?_) (fun cdv A outer s H vs Q E hr h => ?_)
  · obtain ⟨p, q, n, rfl, _⟩ := h
    rfl
  · obtain ⟨p, q, n, rfl, hP, hn, kk⟩ := h
    refine ⟨_, pss_cons (ps_set (i := 1) scW.nd rfl (.inr rfl) pe_str)
      (pss_one (ps_ret (pe_join pe_str (pe_lc (own := [("k", 2)]) (g := gName 2) (tt := tYes) rfl scW.nd
        (pi_range1 (by rfl) mr (pa_cons (pe_op op_add pe_int (pe_call GD hr (by rfl) mD kD bD .nil pass0 (pa_cons (pv 0) (pa_cons pe_int pa_nil)))) pa_nil))
        (blkOk_by (N := ["pool", "letters", "k"]) (sc := defScope sWord) (by decide +kernel))
        (fun _ _ _ _ _ => pg_name (i := 2) scW.nd rfl (.inl rfl)) (fun _ _ _ _ _ => pts_nil)
        (fun _ _ _ _ _ => pe_ix ix_str (pv 1) (pe_call GD hr (by rfl) mD kD bD .nil pass0 (pa_cons (pv 0) (pa_cons pe_int pa_nil))) (fun _ _ => rfl)))))), ?_⟩
    refine ⟨⟨_, rfl⟩, .ref p, rfl, p, q, n, 8, rfl, hP, by omega, by decide, by decide, fun d H1 h0 h1 P1 K1 => ?_⟩
    refine ⟨1, d, rfl, rfl, 1 + d, rfl, (by omega), (by omega), fun D nD => ?_⟩
    obtain ⟨op, ep⟩ := P1.p_some
    obtain ⟨oq, eq⟩ := P1.q_some
    have nDp : D ≠ p := (ne_of_none ep nD).symm
    have nDq : D ≠ q := (ne_of_none eq nD).symm
    have em : (1 + d).toNat ≤ 8 := by omega
    refine lc_range (lo := 0) (n := (1 + d).toNat) (fun i H2 => ∃ ys : List Str, H2 D = some (.lst (ys.map V.str)) ∧ ys.length = i ∧ (∀ y ∈ ys, ∃ c, y = ⟨#[c]⟩ ∧ 97 ≤ c ∧ c ≤ 122) ∧ PoolAt H2 p q (n + 1 + i) ∧ Keeps p q H H2)
      ⟨[], upd_same, rfl, fun y hy => (by cases hy), P1.new nD, K1.trans (.upd_new nD)⟩ (fun i H2 hi hI => ?_) (fun H2 hI => ?_)
    · obtain ⟨ys, eD, el, hy, P2, K2⟩ := hI
      refine ⟨rfl, ?_⟩
      refine ⟨_, rfl, _, rfl, p, q, n + 1 + i, 26, rfl, P2, by omega, by decide, by decide, fun d2 H3 h02 h12 P3 K3 => ?_⟩
      obtain ⟨c, ec, hc1, hc2⟩ := abc_at d2 h02 h12
      have eD3 : H3 D = some (.lst (ys.map V.str)) := K3 D _ nDp nDq eD
      refine ⟨abc, d2, c, rfl, rfl, by rw [abc_len]; decide, ec, _, eD3, small1000 (by rw [List.length_map]; omega), ys ++ [⟨#[c]⟩], ?_, by simp [el], fun y hm => ?_, ?_, ?_⟩
      · rw [upd_same, List.map_append]; rfl
      · rcases List.mem_append.mp hm with hm | hm
        · exact hy y hm
        · exact ⟨c, List.mem_singleton.mp hm, hc1, hc2⟩
      · have e : n + 1 + (i + 1) = n + 1 + i + 1 := by omega
        rw [e]
        obtain ⟨npq, cs, b, c0, e1, e2, r⟩ := P3
        exact ⟨npq, cs, b, c0, by rw [upd_ne nDp.symm]; exact e1, by rw [upd_ne nDq.symm]; exact e2, r⟩
      · intro x o hx1 hx2 nH
        have ex := K3 x o hx1 hx2 (K2 x o hx1 hx2 nH)
        by_cases hxD : x = D
        · subst hxD
          rw [K1.free nD nDp nDq] at nH
          cases nH
        · rw [upd_ne hxD]; exact ex
    · obtain ⟨ys, eD, el, hy, P2, K2⟩ := hI
      obtain ⟨j1, j2⟩ := join_letters (sep := "") (by decide +kernel) ys hy
      have e1 : ∀ y ∈ ys, y.length = 1 := fun y hm => by
        obtain ⟨c, rfl, _⟩ := hy y hm
        rfl
      have e2 : (ys.map (·.length)).sum = ys.length := sum_ones _ e1
      refine ⟨_, D, ys, rfl, rfl, .inl (SqL.of eD), ?_, ?_⟩
      · rw [e2, show (Str.ofString "").length = 0 by decide +kernel]; omega
      · rw [show Txt.join _ ys = Str.join _ ys from StrLaws.glued_eq_join _ _]
        exact kk _ (n + 1 + (1 + d).toNat) H2 ⟨by rw [j1]; omega, by rw [j1]; omega, j2⟩ (by omega) (by omega) P2 K2
end
/-! ### deeds drawn at things of all kinds -/
def sixT : List Str := ["get", "peek", "has", "put", "fill", "drop"]
def wordsOf (kind : Str) : List Str := (look ([("feed", ["take", "skip", "drain", "fetch", "bind", "spy"]), ("dice", ["roll", "seed", "spy"]), ("table", ["size", "keys", "load", "wipe", "spy", "get", "peek", "has", "put", "fill", "drop"]), ("source", ["change", "spy"]), ("field", ["look", "glance", "renew", "spy"]), ("flag", ["lift", "read", "watch", "spy"]), ("slot", ["keep", "copy", "tell", "bound", "mark", "spy"])] : List (Str × List Str)) kind).getD []
def likeOf (kd : Str) (th : Ths) : List Str := (th.filter fun e => decide (e.2.1 = kd)).map (·.1)
theorem like_snoc {kd : Str} {th : Ths} {i : Nat} {e : Tr} (h : th[i]? = some e) : likeOf kd (th.take (i + 1)) = likeOf kd (th.take i) ++ (if decide (e.2.1 = kd) = true then [e.1] else []) := by
  unfold likeOf
  rw [List.take_add_one, h, List.filter_append, List.map_append]
  congr 1
  show (List.filter _ [e]).map _ = _
  rw [List.filter_cons, List.filter_nil]
  split <;> rfl
inductive DeedW (th : Ths) : Tr → Str → List PyData → Prop where
  | one {e : Tr} {word : Str} (h : word ∈ wordsOf e.2.1) (h1 : word ∉ sixT) (h2 : word ∉ (["bind", "copy"] : List Str)) (h3 : word ≠ "fetch") (h4 : word ≠ "load") (h5 : word ≠ "mark") : DeedW th e word []
  | key {n word k : Str} {ks : List Str} (h : word ∈ sixT) (hk : k ∈ ks) : DeedW th (n, "table", ks) word [.str k]
  | load {n : Str} {ks ls : List Str} (h : ∀ z ∈ ls, IsWord z) (hl : ls.length ≤ 5) : DeedW th (n, "table", ks) "load" [.tuple (ls.map .str)]
  | like {e e2 : Tr} {word : Str} (h : word ∈ wordsOf e.2.1) (h1 : word ∈ (["bind", "copy"] : List Str)) (h2 : e2 ∈ th) (h3 : e2.2.1 = e.2.1) : DeedW th e word [.str e2.1]
  | fetch {n : Str} {ps : List Str} {z : Int} (h0 : 0 ≤ z) (h1 : z ≤ longest) : DeedW th (n, "feed", ps) "fetch" [.int z]
  | mark {n m : Str} {ps : List Str} (h : IsWord m) : DeedW th (n, "slot", ps) "mark" [.str m]
def spAnyW (K : PySem.W.Frag) : Sp := fun vs H Q _ => ∃ (L : List Addr) (p q : Addr) (n : Nat) (a : Addr) (xs : List V) (th : Ths) (ns : List Str), vs = [.ref p, .ref a] ∧ PoolAt H p q n ∧ n ≤ 800000 ∧ p ∈ L ∧ q ∈ L ∧ Alive L H ∧ SqL K (mask L H) a xs ∧ Paired (ThTup K (mask L H)) xs th ∧ ThsOk ns th ∧ th ≠ [] ∧ th.length ≤ 8 ∧
  ∀ b (e : Tr) word args rest n' H', e ∈ th → PoolAt H' p q n' → n' ≤ n + 20 → Keeps p q H H' → SqT K (mask L H') b (.str word :: .str e.1 :: args) → DpAll K (mask L H') args rest → DeedW th e word rest → Q (.ref b) H'
section
variable {P : Program} {w : World} {K : PySem.W.Frag} {mg : Str → Option Value} {base : Heap}
theorem scAd : FnScope ["pool", "things", "thing", "kind", "x", "parts", "words", "word", "like", "other", "keys", "key"] ["pool", "things"] (defScope sAnyDeed) := ⟨rfl, rfl, rfl, by decide +kernel, rfl, by decide +kernel, by decide +kernel⟩
theorem ok_any {f fD fW : Addr} {fd fdD fdW : FuncData} (F : Fun K "_law_any_deed" "_law_any_deed" sAnyDeed f fd) (B : Bts mg) (GD : FnOk P w K mg base CX0 1 fD fdD ["pool", "many"] spDraw) (mD : mg "_law_draw" = some (.ref fD)) (kD : PySem.W.keepIn K (.ref fD) = true) (bD : Binds K fdD ["pool", "many"] [])
    (GW : FnOk P w K mg base CX0 2 fW fdW ["pool"] spWord) (mW : mg "_law_word" = some (.ref fW)) (kW : PySem.W.keepIn K (.ref fW) = true) (bW : Binds K fdW ["pool"] []) : FnOk P w K mg base CX0 3 f fd ["pool", "things"] (spAnyW K) := by
  refine F.ok scAd (fun vs H Q E h => ?_) (fun cdv A outer s0 H vs Q E hr h => ?_)
  · obtain ⟨L, p, q, n, a, xs, th, ns, rfl, _⟩ := h
    rfl
  · obtain ⟨L, p, q, n, a, xs, th, ns, rfl, hP, hn, mp, mq, al, ha, hpr, ok, hne, hl8, kk⟩ := h
    have hu := hu_of hr
    have hr1 : Room 1 _ := hr.mono (by decide)
    have hr2 : Room 2 _ := hr.mono (by decide)
    refine ⟨_, pss_cons (ps_set (i := 2) scAd.nd rfl (.inl rfl) (pe_ix ix_list (pv 1) (pe_call GD hr1 (by rfl) mD kD bD .nil pass0 (pa_cons (pv 0) (pa_cons (pe_callB call_len_seq (by rfl) B.len PySem.boot_len (pa_cons (pv 1) pa_nil)) pa_nil))) (fun _ _ => rfl)))
      (pss_cons (ps_asg (pv 2) (pg_tup rfl (pgs_cons (pg_name (i := 3) scAd.nd rfl (.inr rfl)) (pgs_cons (pg_name (i := 4) scAd.nd rfl (.inl rfl)) (pgs_cons (pg_name (i := 5) scAd.nd rfl (.inl rfl)) pgs_nil)))))
      (pss_cons (ps_set (i := 6) scAd.nd rfl (.inl rfl) (pe_disp (pps_cons pe_str (pe_lst (pa_cons pe_str (pa_cons pe_str (pa_cons pe_str (pa_cons pe_str (pa_cons pe_str (pa_cons pe_str pa_nil))))))) (pps_cons pe_str (pe_lst (pa_cons pe_str (pa_cons pe_str (pa_cons pe_str pa_nil)))) (pps_cons pe_str (pe_lst (pa_cons pe_str (pa_cons pe_str (pa_cons pe_str (pa_cons pe_str (pa_cons pe_str (pa_cons pe_str (pa_cons pe_str (pa_cons pe_str (pa_cons pe_str (pa_cons pe_str (pa_cons pe_str pa_nil)))))))))))) (pps_cons pe_str (pe_lst (pa_cons pe_str (pa_cons pe_str pa_nil))) (pps_cons pe_str (pe_lst (pa_cons pe_str (pa_cons pe_str (pa_cons pe_str (pa_cons pe_str pa_nil))))) (pps_cons pe_str (pe_lst (pa_cons pe_str (pa_cons pe_str (pa_cons pe_str (pa_cons pe_str pa_nil))))) (pps_cons pe_str (pe_lst (pa_cons pe_str (pa_cons pe_str (pa_cons pe_str (pa_cons pe_str (pa_cons pe_str (pa_cons pe_str pa_nil))))))) pps_nil))))))) rfl rfl (by decide) (by decide)))
      (C8.pss_cut (ps_set (i := 7) scAd.nd rfl (.inl rfl) (pe_ix ix_list (pe_dget hu (pv 6) (pv 3) (fun _ _ => rfl)) (pe_call GD hr1 (by rfl) mD kD bD .nil pass0 (pa_cons (pv 0) (pa_cons (pe_ifExp (PW.pt (pw_or (pt_cmpR op_ne (pv 3) pe_str (nomark _)) (pw_or1 (pt_truth (pv 5) (by intro _; rfl))))) (pe_callB call_len_seq (by rfl) B.len PySem.boot_len (pa_cons (pe_dget hu (pv 6) (pv 3) (fun _ _ => rfl)) pa_nil)) pe_int) pa_nil))) (fun _ _ => rfl)))
      (pss_cons (ps_if (pt_cmpR op_in_seq (pv 7) (pe_tup (pa_cons pe_str (pa_cons pe_str (pa_cons pe_str (pa_cons pe_str (pa_cons pe_str (pa_cons pe_str pa_nil))))))) (by rfl))
        (pss_one (ps_ret (pe_tup (pa_cons (pv 7) (pa_cons (pv 4) (pa_cons (pe_ix ix_tup (pv 5) (pe_call GD hr1 (by rfl) mD kD bD .nil pass0 (pa_cons (pv 0) (pa_cons (pe_callB call_len_seq (by rfl) B.len PySem.boot_len (pa_cons (pv 5) pa_nil)) pa_nil))) (fun _ _ => rfl)) pa_nil))))))
        pss_nil)
      (pss_cons (ps_if (pt_cmpR op_in_seq (pv 7) (pe_tup (pa_cons pe_str (pa_cons pe_str pa_nil))) (by rfl))
        (pss_cons (ps_setLc (i := 8) (own := [("other", 9)]) (g := gName 9) rfl scAd.nd rfl rfl (sw_true rfl rfl rfl (by decide +kernel)) (pi_list (pv 1)) (blkOk_by (N := ["pool", "things", "thing", "kind", "x", "parts", "words", "word", "like", "other", "keys", "key"]) (sc := defScope sAnyDeed) (by decide +kernel)) (fun _ _ _ _ _ => (pg_name (i := 9) scAd.nd rfl (.inl rfl))) (fun _ _ _ _ _ => pts_one (pt_cmpR op_eq (pe_ix (ixK (K := K) (r := rIxT) ix_tup) (pv 9) pe_int (fun _ _ => rfl)) (pv 3) (nomark _))) (fun _ _ _ _ _ => (pe_ix (ixK (K := K) (r := rIxT) ix_tup) (pv 9) pe_int (fun _ _ => rfl))))
          (pss_one (ps_ret (pe_tup (pa_cons (pv 7) (pa_cons (pv 4) (pa_cons (pe_ix ix_list (pv 8) (pe_call GD hr1 (by rfl) mD kD bD .nil pass0 (pa_cons (pv 0) (pa_cons (pe_callB call_len_seq (by rfl) B.len PySem.boot_len (pa_cons (pv 8) pa_nil)) pa_nil))) (fun _ _ => rfl)) pa_nil)))))))
        pss_nil)
      (pss_cons (ps_if (pt_cmpR op_eq (pv 7) pe_str (nomark _))
        (pss_one (ps_ret (pe_tup (pa_cons (pv 7) (pa_cons (pv 4) (pa_cons (pe_ix ix_list (pe_lst (pa_cons pe_int (pa_cons pe_int (pa_cons pe_int (pa_cons pe_int (pa_cons (pe_call GD hr1 (by rfl) mD kD bD .nil pass0 (pa_cons (pv 0) (pa_cons (pe_op op_add (pe_op op_pow pe_int pe_int) pe_int) pa_nil))) (pa_cons (pe_op op_pow pe_int pe_int) pa_nil))))))) (pe_call GD hr1 (by rfl) mD kD bD .nil pass0 (pa_cons (pv 0) (pa_cons pe_int pa_nil))) (fun _ _ => rfl)) pa_nil))))))
        pss_nil)
      (pss_cons (ps_if (pt_cmpR op_eq (pv 7) pe_str (nomark _))
        (pss_cons (ps_set (i := 10) scAd.nd rfl (.inl rfl) (pe_lst (pa_cons (pe_call GW hr2 (by rfl) mW kW bW .nil pass0 (pa_cons (pv 0) pa_nil)) pa_nil)))
          (pss_cons (ps_for PassesOwn.never rfl (pi_tup (pv 5)) (pg_name (i := 11) scAd.nd rfl (.inl rfl))
            (pss_one (ps_if (pt_cmpR op_eq (pe_call GD hr1 (by rfl) mD kD bD .nil pass0 (pa_cons (pv 0) (pa_cons pe_int pa_nil))) pe_int (nomark _))
                (pss_one (ps_expr (pe_bm PySem.F.plainAttrs_list PySem.F.slot_list_append PySem.F.type_list_append mt_append (pv 10) (pa_cons (pv 11) pa_nil))))
                pss_nil)))
          (pss_one (ps_ret (pe_tup (pa_cons (pv 7) (pa_cons (pv 4) (pa_cons (pe_callTy call_tupS (by rfl) B.tuple (by decide +kernel) (pa_cons (pe_ifExp (pt_cmpR op_eq (pe_call GD hr1 (by rfl) mD kD bD .nil pass0 (pa_cons (pv 0) (pa_cons pe_int pa_nil))) pe_int (nomark _)) (pe_revL (pv 10)) (pv 10)) pa_nil)) pa_nil))))))))
        pss_nil)
      (pss_cons (ps_if (pt_cmpR op_eq (pv 7) pe_str (nomark _)) (pss_one (ps_ret (pe_tup (pa_cons (pv 7) (pa_cons (pv 4) (pa_cons (pe_call GW hr2 (by rfl) mW kW bW .nil pass0 (pa_cons (pv 0) pa_nil)) pa_nil)))))) pss_nil)
      (pss_one (ps_ret (pe_tup (pa_cons (pv 7) (pa_cons (pv 4) pa_nil))))))))))))), ?_⟩
    have lxs := paired_len hpr
    have hpos : 0 < th.length := List.length_pos_iff.mpr hne
    have h40 : (xs.length : Int) ≤ 10 ^ 40 := Int.le_trans (show (xs.length : Int) ≤ 8 by omega) (by decide)
    refine ⟨_, rfl, _, rfl, _, rfl, a, _, rfl, .inl ((mask_sub _ _).seq ha), p, q, n, _, rfl, hP, by omega, by omega, h40, fun d H1 d0 d1 P1 K1 => ?_⟩
    obtain ⟨ix, rfl⟩ : ∃ i : Nat, d = (i : Int) := ⟨d.toNat, by omega⟩
    have ms1 : Same (mask L H) (mask L H1) := K1.maskL mp mq
    obtain ⟨v, ev⟩ : ∃ v, xs[ix]? = some v := ⟨xs[ix]'(by omega), List.getElem?_eq_getElem _⟩
    obtain ⟨e, ee, htt⟩ := paired_get hpr ev
    have hmem := List.mem_of_getElem? ee
    obtain ⟨t, kp, rfl, ht, hk⟩ := htt
    refine ⟨a, _, _, _, rfl, rfl, (mask_sub _ _).seq (ms1.seq ha), atI_nat ev, ?_⟩
    refine ⟨_, rfl, t, _, rfl, Same.seqT (mask_sub _ _) (Same.seqT ms1 ht), rfl, _, _, rfl, _, _, rfl, _, _, rfl, rfl, ?_⟩
    refine fun W nW => ?_
    have s1 := same_new (o := .dK []) nW
    have eW : (upd H1 W (.dK [])) W = some (.dK []) := upd_same
    generalize upd H1 W (.dK []) = D0 at *
    refine ⟨by show 6 ≤ sizeLine; decide, fun l0 n0 => ?_⟩
    have t0 := same_new (o := .lst [.str "take", .str "skip", .str "drain", .str "fetch", .str "bind", .str "spy"]) n0
    have eT0 : (upd D0 l0 (.lst [.str "take", .str "skip", .str "drain", .str "fetch", .str "bind", .str "spy"])) l0 = some (.lst [.str "take", .str "skip", .str "drain", .str "fetch", .str "bind", .str "spy"]) := upd_same
    have lp0 : l0 ∉ [p, q] := (P1.same s1).alive.not n0
    generalize upd D0 l0 (.lst [.str "take", .str "skip", .str "drain", .str "fetch", .str "bind", .str "spy"]) = D1 at *
    refine ⟨by show 3 ≤ sizeLine; decide, fun l1 n1 => ?_⟩
    have t1 := same_new (o := .lst [.str "roll", .str "seed", .str "spy"]) n1
    have eT1 : (upd D1 l1 (.lst [.str "roll", .str "seed", .str "spy"])) l1 = some (.lst [.str "roll", .str "seed", .str "spy"]) := upd_same
    have lp1 : l1 ∉ [p, q] := (P1.same (s1.trans t0)).alive.not n1
    generalize upd D1 l1 (.lst [.str "roll", .str "seed", .str "spy"]) = D2 at *
    refine ⟨by show 11 ≤ sizeLine; decide, fun l2 n2 => ?_⟩
    have t2 := same_new (o := .lst [.str "size", .str "keys", .str "load", .str "wipe", .str "spy", .str "get", .str "peek", .str "has", .str "put", .str "fill", .str "drop"]) n2
    have eT2 : (upd D2 l2 (.lst [.str "size", .str "keys", .str "load", .str "wipe", .str "spy", .str "get", .str "peek", .str "has", .str "put", .str "fill", .str "drop"])) l2 = some (.lst [.str "size", .str "keys", .str "load", .str "wipe", .str "spy", .str "get", .str "peek", .str "has", .str "put", .str "fill", .str "drop"]) := upd_same
    have lp2 : l2 ∉ [p, q] := (P1.same ((s1.trans t0).trans t1)).alive.not n2
    generalize upd D2 l2 (.lst [.str "size", .str "keys", .str "load", .str "wipe", .str "spy", .str "get", .str "peek", .str "has", .str "put", .str "fill", .str "drop"]) = D3 at *
    refine ⟨by show 2 ≤ sizeLine; decide, fun l3 n3 => ?_⟩
    have t3 := same_new (o := .lst [.str "change", .str "spy"]) n3
    have eT3 : (upd D3 l3 (.lst [.str "change", .str "spy"])) l3 = some (.lst [.str "change", .str "spy"]) := upd_same
    have lp3 : l3 ∉ [p, q] := (P1.same (((s1.trans t0).trans t1).trans t2)).alive.not n3
    generalize upd D3 l3 (.lst [.str "change", .str "spy"]) = D4 at *
    refine ⟨by show 4 ≤ sizeLine; decide, fun l4 n4 => ?_⟩
    have t4 := same_new (o := .lst [.str "look", .str "glance", .str "renew", .str "spy"]) n4
    have eT4 : (upd D4 l4 (.lst [.str "look", .str "glance", .str "renew", .str "spy"])) l4 = some (.lst [.str "look", .str "glance", .str "renew", .str "spy"]) := upd_same
    have lp4 : l4 ∉ [p, q] := (P1.same ((((s1.trans t0).trans t1).trans t2).trans t3)).alive.not n4
    generalize upd D4 l4 (.lst [.str "look", .str "glance", .str "renew", .str "spy"]) = D5 at *
    refine ⟨by show 4 ≤ sizeLine; decide, fun l5 n5 => ?_⟩
    have t5 := same_new (o := .lst [.str "lift", .str "read", .str "watch", .str "spy"]) n5
    have eT5 : (upd D5 l5 (.lst [.str "lift", .str "read", .str "watch", .str "spy"])) l5 = some (.lst [.str "lift", .str "read", .str "watch", .str "spy"]) := upd_same
    have lp5 : l5 ∉ [p, q] := (P1.same (((((s1.trans t0).trans t1).trans t2).trans t3).trans t4)).alive.not n5
    generalize upd D5 l5 (.lst [.str "lift", .str "read", .str "watch", .str "spy"]) = D6 at *
    refine ⟨by show 6 ≤ sizeLine; decide, fun l6 n6 => ?_⟩
    have t6 := same_new (o := .lst [.str "keep", .str "copy", .str "tell", .str "bound", .str "mark", .str "spy"]) n6
    have eT6 : (upd D6 l6 (.lst [.str "keep", .str "copy", .str "tell", .str "bound", .str "mark", .str "spy"])) l6 = some (.lst [.str "keep", .str "copy", .str "tell", .str "bound", .str "mark", .str "spy"]) := upd_same
    have lp6 : l6 ∉ [p, q] := (P1.same ((((((s1.trans t0).trans t1).trans t2).trans t3).trans t4).trans t5)).alive.not n6
    generalize upd D6 l6 (.lst [.str "keep", .str "copy", .str "tell", .str "bound", .str "mark", .str "spy"]) = D7 at *
    have s8 := (((((((s1.trans t0).trans t1).trans t2).trans t3).trans t4).trans t5).trans t6)
    have eW8 := (t6 _ _ (t5 _ _ (t4 _ _ (t3 _ _ (t2 _ _ (t1 _ _ (t0 _ _ eW)))))))
    have eU0 := (t6 _ _ (t5 _ _ (t4 _ _ (t3 _ _ (t2 _ _ (t1 _ _ eT0))))))
    have eU1 := (t6 _ _ (t5 _ _ (t4 _ _ (t3 _ _ (t2 _ _ eT1)))))
    have eU2 := (t6 _ _ (t5 _ _ (t4 _ _ (t3 _ _ eT2))))
    have eU3 := (t6 _ _ (t5 _ _ (t4 _ _ eT3)))
    have eU4 := (t6 _ _ (t5 _ _ eT4))
    have eU5 := (t6 _ _ eT5)
    have eU6 := eT6
    refine ⟨eW8, kvs [("feed", V.ref l0), ("dice", V.ref l1), ("table", V.ref l2), ("source", V.ref l3), ("field", V.ref l4), ("flag", V.ref l5), ("slot", V.ref l6)], rfl, by show 7 ≤ 15; decide, ?_⟩
    rw [show mergeK [] (kvs [("feed", V.ref l0), ("dice", V.ref l1), ("table", V.ref l2), ("source", V.ref l3), ("field", V.ref l4), ("flag", V.ref l5), ("slot", V.ref l6)]) = kvs [("feed", V.ref l0), ("dice", V.ref l1), ("table", V.ref l2), ("source", V.ref l3), ("field", V.ref l4), ("flag", V.ref l5), ("slot", V.ref l6)] from mergeK_kvs (a := []) (by show (["feed", "dice", "table", "source", "field", "flag", "slot"] : List Str).Nodup; decide +kernel)]
    have P8 := P1.same s8
    have K8 : Keeps p q H D7 := K1.trans (.of_same s8)
    have two : ∀ {z : Addr}, z ∉ [p, q] → z ≠ p ∧ z ≠ q := fun {z} h => ⟨fun e => h (by rw [e]; exact List.mem_cons_self), fun e => h (by rw [e]; exact List.mem_cons_of_mem _ List.mem_cons_self)⟩
    have nWp := two (P1.alive.not nW)
    have nWH : H W = none := K1.free nW nWp.1 nWp.2
    have hkd : e.2.1 ∈ k7 := (by decide +kernel : ∀ z ∈ kindsS, z ∈ k7) _ (ok.kd e hmem)
    obtain ⟨lK, gL, eK, lpK⟩ : ∃ lK, look [("feed", V.ref l0), ("dice", V.ref l1), ("table", V.ref l2), ("source", V.ref l3), ("field", V.ref l4), ("flag", V.ref l5), ("slot", V.ref l6)] e.2.1 = some (V.ref lK) ∧ D7 lK = some (.lst ((wordsOf e.2.1).map V.str)) ∧ lK ∉ [p, q] := by
      have all : ∀ kind ∈ k7, ∃ lK, look [("feed", V.ref l0), ("dice", V.ref l1), ("table", V.ref l2), ("source", V.ref l3), ("field", V.ref l4), ("flag", V.ref l5), ("slot", V.ref l6)] kind = some (V.ref lK) ∧ D7 lK = some (.lst ((wordsOf kind).map V.str)) ∧ lK ∉ [p, q] := by
        intro kind hk
        simp only [k7, List.mem_cons, List.not_mem_nil, or_false] at hk
        rcases hk with rfl | rfl | rfl | rfl | rfl | rfl | rfl
        · exact ⟨l0, by rfl, eU0, lp0⟩
        · exact ⟨l2, by rfl, eU2, lp2⟩
        · exact ⟨l1, by rfl, eU1, lp1⟩
        · exact ⟨l3, by rfl, eU3, lp3⟩
        · exact ⟨l4, by rfl, eU4, lp4⟩
        · exact ⟨l5, by rfl, eU5, lp5⟩
        · exact ⟨l6, by rfl, eU6, lp6⟩
      exact all _ hkd
    have lW : lK ≠ W := fun z => by rw [z, eW8] at eK; cases eK
    obtain ⟨w0, w11⟩ := (by decide +kernel : ∀ z ∈ k7, 0 < (wordsOf z).length ∧ (wordsOf z).length ≤ 11) _ hkd
    have w40 : ((wordsOf e.2.1).length : Int) ≤ 10 ^ 40 := Int.le_trans (show ((wordsOf e.2.1).length : Int) ≤ 11 by omega) (by decide)
    clear s1 eW t0 t1 t2 t3 t4 t5 t6 eT0 eT1 eT2 eT3 eT4 eT5 eT6 n0 n1 n2 n3 n4 n5 n6 nW eW8 eU0 eU1 eU2 eU3 eU4 eU5 eU6 lp0 lp1 lp2 lp3 lp4 lp5 lp6
    have eU : (upd D7 W (.dK (kvs [("feed", V.ref l0), ("dice", V.ref l1), ("table", V.ref l2), ("source", V.ref l3), ("field", V.ref l4), ("flag", V.ref l5), ("slot", V.ref l6)]))) W = some (.dK (kvs [("feed", V.ref l0), ("dice", V.ref l1), ("table", V.ref l2), ("source", V.ref l3), ("field", V.ref l4), ("flag", V.ref l5), ("slot", V.ref l6)])) := upd_same
    have eK9 : (upd D7 W (.dK (kvs [("feed", V.ref l0), ("dice", V.ref l1), ("table", V.ref l2), ("source", V.ref l3), ("field", V.ref l4), ("flag", V.ref l5), ("slot", V.ref l6)]))) lK = some (.lst ((wordsOf e.2.1).map V.str)) := by rw [upd_ne lW]; exact eK
    have P9 : PoolAt (upd D7 W (.dK (kvs [("feed", V.ref l0), ("dice", V.ref l1), ("table", V.ref l2), ("source", V.ref l3), ("field", V.ref l4), ("flag", V.ref l5), ("slot", V.ref l6)]))) p q (n + 1) := P8.upd nWp.1 nWp.2
    have K9 : Keeps p q H (upd D7 W (.dK (kvs [("feed", V.ref l0), ("dice", V.ref l1), ("table", V.ref l2), ("source", V.ref l3), ("field", V.ref l4), ("flag", V.ref l5), ("slot", V.ref l6)]))) := fun b o h1 h2 e => by rw [upd_ne (ne_of_none e nWH)]; exact K8 b o h1 h2 e
    have gK : DGet (upd D7 W (.dK (kvs [("feed", V.ref l0), ("dice", V.ref l1), ("table", V.ref l2), ("source", V.ref l3), ("field", V.ref l4), ("flag", V.ref l5), ("slot", V.ref l6)]))) W (.str e.2.1) (some (.ref lK)) := by
      have := DGet.k (k := Sum.inr e.2.1) eU
      rw [valV_kvs, gL] at this
      exact this
    clear eU eK P8 K8 gL s8
    generalize upd D7 W (.dK (kvs [("feed", V.ref l0), ("dice", V.ref l1), ("table", V.ref l2), ("source", V.ref l3), ("field", V.ref l4), ("flag", V.ref l5), ("slot", V.ref l6)])) = D8 at *
    have hkH : ∀ {H' : Hp}, Keeps p q H H' → SqT K H' kp (e.2.2.map V.str) := fun K' => Same.seqT (mask_sub _ _) (Same.seqT (K'.maskL mp mq) hk)
    refine ⟨fun σ H' => ∃ word, σ = [some (.ref p), some (.ref a), some (.ref t), some (.str e.2.1), some (.str e.1), some (.ref kp), some (.ref W), some (.str word), none, none, none, none] ∧ word ∈ wordsOf e.2.1 ∧ (e.2.1 = "table" → e.2.2 = [] → word ∉ sixT) ∧ PoolAt H' p q (n + 2) ∧ Keeps p q H H', ?_, ?_⟩
    · refine ⟨_, rfl, _, rfl, W, _, rfl, gK, _, rfl, _, rfl, rfl, _, rfl, ?_⟩
      show (if (!decide (V.str e.2.1 = V.str "table")) = true then _ else _)
      by_cases hq : e.2.1 = "table"
      · rw [decide_eq_true (show V.str e.2.1 = V.str "table" by rw [hq])]
        refine iteF ⟨_, rfl, !(e.2.2.map V.str).isEmpty, .inr (.inl ⟨_, hkH K9, rfl⟩), ?_⟩
        by_cases he : e.2.2 = []
        · rw [he]
          refine iteF ⟨p, q, n + 1, 5, rfl, P9, by omega, by decide, by decide, fun d H2 d0 d1 P2 K2 => ?_⟩
          obtain ⟨i, rfl⟩ : ∃ i : Nat, d = (i : Int) := ⟨d.toNat, by omega⟩
          have wl : (wordsOf e.2.1) = wordsOf "table" := by rw [hq]
          have hi : i < ((wordsOf "table").take 5).length := by show i < 5; omega
          have e0 : ((wordsOf "table").take 5)[i]? = some (((wordsOf "table").take 5)[i]) := List.getElem?_eq_getElem hi
          generalize ((wordsOf "table").take 5)[i] = word at e0
          have m5 := List.mem_of_getElem? e0
          have e1 : (wordsOf e.2.1)[i]? = some word := by rw [wl]; rw [List.getElem?_take] at e0; rw [if_pos (by omega)] at e0; exact e0
          exact ⟨lK, _, _, _, rfl, rfl, SqL.of (K2 _ _ (two lpK).1 (two lpK).2 eK9), atI_nat (by rw [List.getElem?_map, e1]; rfl), word, rfl, List.mem_of_getElem? e1, fun _ _ => (by decide +kernel : ∀ z ∈ (wordsOf "table").take 5, z ∉ sixT) _ m5, P2, K9.trans K2⟩
        · have eb : (!(e.2.2.map V.str).isEmpty) = true := by
            cases h : e.2.2 with
            | nil => exact absurd h he
            | cons _ _ => rfl
          rw [eb]
          refine iteT ⟨_, rfl, _, rfl, W, _, rfl, gK, lK, _, rfl, .inl (SqL.of eK9), p, q, n + 1, _, rfl, P9, by omega, by rw [List.length_map]; omega, by rw [List.length_map]; exact w40, fun d H2 d0 d1 P2 K2 => ?_⟩
          rw [List.length_map] at d1
          obtain ⟨i, rfl⟩ : ∃ i : Nat, d = (i : Int) := ⟨d.toNat, by omega⟩
          have e1 : (wordsOf e.2.1)[i]? = some ((wordsOf e.2.1)[i]'(by omega)) := List.getElem?_eq_getElem _
          generalize (wordsOf e.2.1)[i]'(by omega) = word at e1
          exact ⟨lK, _, _, _, rfl, rfl, SqL.of (K2 _ _ (two lpK).1 (two lpK).2 eK9), atI_nat (by rw [List.getElem?_map, e1]; rfl), word, rfl, List.mem_of_getElem? e1, fun _ h => absurd h he, P2, K9.trans K2⟩
      · rw [show decide (V.str e.2.1 = V.str "table") = false from decide_eq_false fun z => hq (by injection z)]
        refine iteT ⟨_, rfl, _, rfl, W, _, rfl, gK, lK, _, rfl, .inl (SqL.of eK9), p, q, n + 1, _, rfl, P9, by omega, by rw [List.length_map]; omega, by rw [List.length_map]; exact w40, fun d H2 d0 d1 P2 K2 => ?_⟩
        rw [List.length_map] at d1
        obtain ⟨i, rfl⟩ : ∃ i : Nat, d = (i : Int) := ⟨d.toNat, by omega⟩
        have e1 : (wordsOf e.2.1)[i]? = some ((wordsOf e.2.1)[i]'(by omega)) := List.getElem?_eq_getElem _
        generalize (wordsOf e.2.1)[i]'(by omega) = word at e1
        exact ⟨lK, _, _, _, rfl, rfl, SqL.of (K2 _ _ (two lpK).1 (two lpK).2 eK9), atI_nat (by rw [List.getElem?_map, e1]; rfl), word, rfl, List.mem_of_getElem? e1, fun h => absurd h hq, P2, K9.trans K2⟩
    · clear gK eK9 P9 K9 lpK lW nWp nWH
      rintro σ H3 ⟨word, rfl, hw, hno, P3, K3⟩
      have alK : ∀ {H' : Hp} {n' : Nat}, PoolAt H' p q n' → Keeps p q H H' → Alive L H' := fun P' K' z hz => by
        by_cases zp : z = p
        · rw [zp]; exact P'.p_some
        by_cases zq : z = q
        · rw [zq]; exact P'.q_some
        obtain ⟨o, eo⟩ := al z hz
        exact ⟨o, K' _ _ zp zq eo⟩
      have hok := ok.ok e hmem
      obtain ⟨nm, kd, ks⟩ := e
      have hw : word ∈ wordsOf kd := hw
      have hkd : kd ∈ k7 := hkd
      have tk : kd = "table" → (∀ x ∈ ks, IsWord x) ∧ ks.length ≤ 4 := fun h => by
        subst h
        cases hok with
        | one h _ => exact absurd h (by decide +kernel)
        | table _ h1 _ h2 => exact ⟨h1, h2⟩
      have no : kd = "table" → ks = [] → word ∉ sixT := hno
      have hkH : ∀ {H' : Hp}, Keeps p q H H' → SqT K H' kp (ks.map V.str) := hkH
      refine ⟨_, rfl, by show 6 ≤ sizeLine; decide, fun t1 nt1 => ?_⟩
      have P4 := P3.same (same_new (o := .tup [.str "get", .str "peek", .str "has", .str "put", .str "fill", .str "drop"]) nt1)
      have K4 : Keeps p q H (upd H3 t1 (.tup [.str "get", .str "peek", .str "has", .str "put", .str "fill", .str "drop"])) := K3.trans (.of_same (same_new nt1))
      have et1 : SqT K (upd H3 t1 (.tup [.str "get", .str "peek", .str "has", .str "put", .str "fill", .str "drop"])) t1 [.str "get", .str "peek", .str "has", .str "put", .str "fill", .str "drop"] := SqT.of upd_same
      generalize upd H3 t1 (.tup [.str "get", .str "peek", .str "has", .str "put", .str "fill", .str "drop"]) = H4 at *
      refine ⟨t1, _, rfl, .inr et1, rfl, rfl, _, rfl, ?_⟩
      show (if inV (V.str word) [.str "get", .str "peek", .str "has", .str "put", .str "fill", .str "drop"] = true then _ else _)
      rw [inW (xs := sixT) (vs := [.str "get", .str "peek", .str "has", .str "put", .str "fill", .str "drop"]) rfl]
      by_cases w1 : word ∈ sixT
      · rw [decide_eq_true w1]
        obtain rfl : kd = "table" := by
          refine Classical.byContradiction fun h => ?_
          exact (by decide +kernel : ∀ z ∈ k7, z ≠ "table" → ∀ w ∈ wordsOf z, w ∉ sixT) _ hkd h _ hw w1
        have hne : ks ≠ [] := fun h => no rfl h w1
        have hkl := (tk rfl).2
        have hpos : 0 < ks.length := List.length_pos_iff.mpr hne
        have h4 : ((ks.length : Nat) : Int) ≤ 10 ^ 40 := Int.le_trans (show ((ks.length : Nat) : Int) ≤ 4 by omega) (by decide)
        refine iteT ⟨_, rfl, _, rfl, _, rfl, _, rfl, _, rfl, kp, _, rfl, .inr (hkH K4), p, q, n + 2, _, rfl, P4, by omega, by show (0 : Int) < ((ks.map V.str).length : Int); rw [List.length_map]; omega, by show ((ks.map V.str).length : Int) ≤ 10 ^ 40; rw [List.length_map]; exact h4, fun d H5 d0 d1 P5 K5 => ?_⟩
        have d1 : d < ((ks.map V.str).length : Int) := d1
        rw [List.length_map] at d1
        obtain ⟨i, rfl⟩ : ∃ i : Nat, d = (i : Int) := ⟨d.toNat, by omega⟩
        have K45 := K4.trans K5
        have e1 : ks[i]? = some (ks[i]'(by omega)) := List.getElem?_eq_getElem _
        generalize ks[i]'(by omega) = k at e1
        refine ⟨kp, _, _, _, rfl, rfl, hkH K45, atI_nat (by rw [List.getElem?_map, e1]; rfl), by show 3 ≤ sizeLine; decide, fun b nb => ?_⟩
        have s6 := same_new (o := .tup [.str word, .str nm, .str k]) nb
        exact kk b _ word [.str k] [.str k] (n + 3) _ hmem (P5.same s6) (by omega) (K45.trans (.of_same s6)) (SqT.of (mask_upd ((alK P5 K45).not nb))) (.cons (.str _) .nil) (.key w1 (List.mem_of_getElem? e1))
      rw [decide_eq_false w1]
      refine iteF ?_
      refine ⟨_, rfl, by show 2 ≤ sizeLine; decide, fun t2 nt2 => ?_⟩
      have P5 := P4.same (same_new (o := .tup [.str "bind", .str "copy"]) nt2)
      have K5 : Keeps p q H (upd H4 t2 (.tup [.str "bind", .str "copy"])) := K4.trans (.of_same (same_new nt2))
      have et2 : SqT K (upd H4 t2 (.tup [.str "bind", .str "copy"])) t2 [.str "bind", .str "copy"] := SqT.of upd_same
      generalize upd H4 t2 (.tup [.str "bind", .str "copy"]) = H5 at *
      refine ⟨t2, _, rfl, .inr et2, rfl, rfl, _, rfl, ?_⟩
      show (if inV (V.str word) [.str "bind", .str "copy"] = true then _ else _)
      rw [inW (xs := ["bind", "copy"]) (vs := [V.str "bind", V.str "copy"]) rfl]
      by_cases w2 : word ∈ (["bind", "copy"] : List Str)
      · rw [decide_eq_true w2]
        refine iteT ?_
        refine ⟨_, rfl, a, rfl, ⟨_, (mask_sub _ _).seq ((K5.maskL mp mq).seq ha)⟩, fun ll nll => ?_⟩
        refine lc_list (K := K) (a := a) (xs := xs) (fun i H' => H' ll = some (.lst ((likeOf kd (th.take i)).map V.str)) ∧ Same H5 H') ⟨upd_same, same_new nll⟩ (fun i H' _ hI => hI.2.seq ((mask_sub _ _).seq ((K5.maskL mp mq).seq ha))) (fun i y H' hy hI => ?_) (fun H' hI => ?_)
        · obtain ⟨el, sl⟩ := hI
          obtain ⟨e2, ee2, t9, pt9, rfl, ht9, _⟩ := paired_get hpr hy
          have ht0 := Same.seqT (mask_sub _ _) (Same.seqT (K5.maskL mp mq) ht9)
          have hi8 : i < 8 := by have := (List.getElem?_eq_some_iff.mp ee2).1; omega
          have hs := like_snoc (kd := kd) ee2
          have lb : (likeOf kd (th.take i)).length ≤ 8 := by
            unfold likeOf
            rw [List.length_map]
            have h2 : (th.take i).length ≤ i := by rw [List.length_take]; omega
            exact Nat.le_trans (List.length_filter_le _ _) (by omega)
          refine ⟨rfl, ?_⟩
          refine ⟨_, rfl, t9, _, 0, _, rfl, rfl, Same.seqT sl ht0, atI_nat (j := 0) rfl, _, rfl, rfl, _, rfl, ?_⟩
          show (if decide (V.str e2.2.1 = V.str kd) = true then _ else _)
          by_cases hc : e2.2.1 = kd
          · rw [decide_eq_true (show V.str e2.2.1 = V.str kd by rw [hc])]
            rw [if_pos (decide_eq_true hc)] at hs
            refine iteT ⟨_, rfl, t9, _, 1, _, rfl, rfl, Same.seqT sl ht0, atI_nat (j := 1) rfl, _, el, small1000 (by rw [List.length_map]; omega), by rw [upd_same, hs, List.map_append]; rfl, fun b o eo => ?_⟩
            rw [upd_ne (ne_of_none eo nll)]; exact sl b o eo
          · rw [show decide (V.str e2.2.1 = V.str kd) = false from decide_eq_false fun z => hc (by injection z)]
            rw [if_neg (by rw [decide_eq_false hc]; decide), List.append_nil] at hs
            exact iteF ⟨by rw [hs]; exact el, sl⟩
        obtain ⟨el, sl⟩ := hI
        rw [lxs, List.take_length] at el
        have hlm : nm ∈ likeOf kd th := List.mem_map.mpr ⟨_, List.mem_filter.mpr ⟨hmem, decide_eq_true rfl⟩, rfl⟩
        have hpl : 0 < (likeOf kd th).length := List.length_pos_of_mem hlm
        have hl8' : (likeOf kd th).length ≤ 8 := by
          unfold likeOf
          rw [List.length_map]
          exact Nat.le_trans (List.length_filter_le _ _) (by omega)
        have l40 : (((likeOf kd th).map V.str).length : Int) ≤ 10 ^ 40 := Int.le_trans (show (((likeOf kd th).map V.str).length : Int) ≤ 8 by rw [List.length_map]; omega) (by decide)
        have P6 := P5.same sl
        have K6 := K5.trans (.of_same sl)
        have llp := P5.alive.not nll
        refine ⟨_, rfl, _, rfl, _, rfl, _, rfl, _, rfl, ll, _, rfl, .inl (SqL.of el), p, q, n + 2, _, rfl, P6, by omega, by rw [List.length_map]; omega, l40, fun d H7 d0 d1 P7 K7 => ?_⟩
        rw [List.length_map] at d1
        obtain ⟨i, rfl⟩ : ∃ i : Nat, d = (i : Int) := ⟨d.toNat, by omega⟩
        have e1 : (likeOf kd th)[i]? = some ((likeOf kd th)[i]'(by omega)) := List.getElem?_eq_getElem _
        generalize (likeOf kd th)[i]'(by omega) = o at e1
        have K67 := K6.trans K7
        refine ⟨ll, _, _, _, rfl, rfl, SqL.of (K7 _ _ (two llp).1 (two llp).2 el), atI_nat (by rw [List.getElem?_map, e1]; rfl), by show 3 ≤ sizeLine; decide, fun b nb => ?_⟩
        have s8 := same_new (o := .tup [.str word, .str nm, .str o]) nb
        obtain ⟨e2, he2, rfl⟩ := List.mem_map.mp (List.mem_of_getElem? e1)
        obtain ⟨m1, m2⟩ := List.mem_filter.mp he2
        exact kk b _ word [.str e2.1] [.str e2.1] (n + 3) _ hmem (P7.same s8) (by omega) (K67.trans (.of_same s8)) (SqT.of (mask_upd ((alK P7 K67).not nb))) (.cons (.str _) .nil) (.like hw w2 m1 (of_decide_eq_true m2))
      rw [decide_eq_false w2]
      refine iteF ⟨_, rfl, rfl, _, rfl, ?_⟩
      show (if decide (V.str word = V.str "fetch") = true then _ else _)
      by_cases w3 : word = "fetch"
      · rw [decide_eq_true (show V.str word = V.str "fetch" by rw [w3])]
        refine iteT ?_
        obtain rfl : kd = "feed" := by
          refine Classical.byContradiction fun h => ?_
          exact (by decide +kernel : ∀ z ∈ k7, z ≠ "feed" → ("fetch" : Str) ∉ wordsOf z) _ hkd h (by rw [← w3]; exact hw)
        refine ⟨_, rfl, _, rfl, _, rfl, _, _, rfl, rfl, ⟨by decide, by decide, by decide⟩, _, _, rfl, rfl, p, q, n + 2, _, rfl, P5, by omega, by decide, by decide, fun e10 H10 e0 e1 P10 K10 => ?_⟩
        refine ⟨_, _, rfl, rfl, ⟨by decide, by decide, by decide⟩, by show 6 ≤ sizeLine; decide, fun pl npl => ?_⟩
        obtain ⟨ys, eys⟩ : ∃ ys : List V, ys = [.int 0, .int 1, .int 2, .int 3, .int e10, .int ((10 : Int) ^ (30 : Int).toNat)] := ⟨_, rfl⟩
        have epl : (upd H10 pl (.lst ys)) pl = some (.lst ys) := upd_same
        have plp := P10.alive.not npl
        have P11 := P10.same (same_new (o := .lst ys) npl)
        have K11 := (K5.trans K10).trans (.of_same (same_new (o := .lst ys) npl))
        rw [← eys]
        have eat : ∀ d7 : Int, 0 ≤ d7 → d7 < 6 → ∃ lv : Int, atI ys d7 = some (.int lv) ∧ 0 ≤ lv ∧ lv ≤ longest := by
          intro d7 h0 h1
          have h10 : ((10 : Int) ^ (30 : Int).toNat) = longest := by unfold longest; decide
          have he : e10 ≤ longest := by rw [← h10]; omega
          have hd : d7 = 0 ∨ d7 = 1 ∨ d7 = 2 ∨ d7 = 3 ∨ d7 = 4 ∨ d7 = 5 := by omega
          rw [eys]
          rcases hd with rfl | rfl | rfl | rfl | rfl | rfl
          · exact ⟨0, atI_nat (j := 0) rfl, by decide, by decide⟩
          · exact ⟨1, atI_nat (j := 1) rfl, by decide, by decide⟩
          · exact ⟨2, atI_nat (j := 2) rfl, by decide, by decide⟩
          · exact ⟨3, atI_nat (j := 3) rfl, by decide, by decide⟩
          · exact ⟨e10, atI_nat (j := 4) rfl, e0, he⟩
          · exact ⟨_, atI_nat (j := 5) rfl, by decide, by decide⟩
        generalize upd H10 pl (.lst ys) = H11 at *
        refine ⟨_, rfl, p, q, n + 3, 6, rfl, P11, by omega, by decide, by decide, fun d7 H12 d70 d71 P12 K12 => ?_⟩
        obtain ⟨lv, elv, l0, l1⟩ := eat d7 d70 d71
        have K112 := K11.trans K12
        refine ⟨pl, _, _, _, rfl, rfl, SqL.of (K12 _ _ (two plp).1 (two plp).2 epl), elv, by show 3 ≤ sizeLine; decide, fun b nb => ?_⟩
        have s8 := same_new (o := .tup [.str word, .str nm, .int lv]) nb
        exact kk b _ word [.int lv] [.int lv] (n + 4) _ hmem (P12.same s8) (by omega) (K112.trans (.of_same s8)) (SqT.of (mask_upd ((alK P12 K112).not nb))) (.cons (.int _) .nil) (by rw [w3]; exact .fetch l0 l1)
      rw [show decide (V.str word = V.str "fetch") = false from decide_eq_false fun h => w3 (by injection h)]
      refine iteF ⟨_, rfl, rfl, _, rfl, ?_⟩
      show (if decide (V.str word = V.str "load") = true then _ else _)
      by_cases w5 : word = "load"
      · rw [decide_eq_true (show V.str word = V.str "load" by rw [w5])]
        refine iteT ?_
        obtain rfl : kd = "table" := by
          refine Classical.byContradiction fun h => ?_
          exact (by decide +kernel : ∀ z ∈ k7, z ≠ "table" → ("load" : Str) ∉ wordsOf z) _ hkd h (by rw [← w5]; exact hw)
        obtain ⟨hkw, hkl⟩ := tk rfl
        refine ⟨_, rfl, p, q, n + 2, rfl, P5, by omega, fun z n6 H6 hz hn1 hn2 P6 K6 => ⟨by show 1 ≤ sizeLine; decide, fun kl nkl => ?_⟩⟩
        have K56 := K5.trans K6
        have klp : kl ≠ p := fun h => by obtain ⟨o, e⟩ := P6.p_some; rw [h, e] at nkl; cases nkl
        have klq : kl ≠ q := fun h => by obtain ⟨o, e⟩ := P6.q_some; rw [h, e] at nkl; cases nkl
        have nklH : H kl = none := K56.free nkl klp klq
        have upK : ∀ {H' : Hp} {o : HO}, Keeps p q H H' → Keeps p q H (upd H' kl o) := fun K' b o h1 h2 e => by rw [upd_ne (ne_of_none e nklH)]; exact K' b o h1 h2 e
        refine ⟨_, rfl, kp, rfl, ⟨_, hkH (upK K56)⟩, for_tup (K := K) (a := kp) (xs := ks.map V.str) (fun j σ H' => ∃ ls y11 m, σ = [some (.ref p), some (.ref a), some (.ref t), some (.str "table"), some (.str nm), some (.ref kp), some (.ref W), some (.str word), none, none, some (.ref kl), y11] ∧ H' kl = some (.lst (ls.map V.str)) ∧ ls.length ≤ 1 + j ∧ (∀ z ∈ ls, IsWord z) ∧ PoolAt H' p q m ∧ m ≤ n + 11 + j ∧ Keeps p q H H')
          ⟨[z], none, n6, rfl, upd_same, Nat.le_refl _, fun y hy => by rw [List.mem_singleton.mp hy]; exact hz, P6.upd klp klq, by omega, upK K56⟩ (fun j σ H' _ ⟨_, _, _, _, _, _, _, _, _, h⟩ => hkH h) (fun j y σ H' hy hI => ?_) (fun σ H' hI => ?_)⟩
        · obtain ⟨ls, y11, m, rfl, ekl, hll, hlw, P7, hm, K7⟩ := hI
          rw [List.getElem?_map] at hy
          obtain ⟨k, ek, rfl⟩ := Option.map_eq_some_iff.mp hy
          have hj : j < 4 := by have := (List.getElem?_eq_some_iff.mp ek).1; omega
          refine ⟨_, rfl, p, q, m, 2, rfl, P7, by omega, by decide, by decide, fun d H8 d0 d1 P8 K8 => ?_⟩
          have K78 := K7.trans K8
          have ekl8 := K8 _ _ klp klq ekl
          refine ⟨rfl, _, rfl, ?_⟩
          show (if decide (V.int d = V.int 1) = true then _ else _)
          by_cases hd : d = 1
          · rw [decide_eq_true (show V.int d = V.int 1 by rw [hd])]
            refine iteT ⟨_, rfl, .inl ⟨rfl, _, SqL.of ekl8⟩, _, rfl, kl, _, _, rfl, rfl, ekl8, small1000 (by rw [List.length_map]; omega), ls ++ [k], _, m + 1, rfl, by rw [upd_same, List.map_append]; rfl, by rw [List.length_append]; show ls.length + 1 ≤ _; omega, fun y hy => ?_, P8.upd klp klq, by omega, upK K78⟩
            rcases List.mem_append.mp hy with hy | hy
            · exact hlw y hy
            · rw [List.mem_singleton.mp hy]; exact hkw _ (List.mem_of_getElem? ek)
          · rw [show decide (V.int d = V.int 1) = false from decide_eq_false fun h => hd (by injection h)]
            exact iteF ⟨ls, _, m + 1, rfl, ekl8, by omega, hlw, P8, by omega, K78⟩
        · obtain ⟨ls, y11, m, rfl, ekl, hll, hlw, P7, hm, K7⟩ := hI
          rw [List.length_map] at hll hm
          have done : ∀ (ls' : List Str) (c : Addr) (H9 : Hp), ls'.length ≤ 5 → (∀ z ∈ ls', IsWord z) → PoolAt H9 p q (m + 1) → Keeps p q H H9 → H9 c = none → ∀ b, (upd H9 c (.tup (ls'.map V.str))) b = none → Q (.ref b) (upd (upd H9 c (.tup (ls'.map V.str))) b (.tup [.str word, .str nm, .ref c])) := by
            intro ls' c H9 hl9 hw9 P9 K9 nc b nb
            have sc := same_new (o := .tup (ls'.map V.str)) nc
            have cL := (alK P9 K9).not nc
            have ec : (upd H9 c (.tup (ls'.map V.str))) c = some (.tup (ls'.map V.str)) := upd_same
            have P10 := P9.same sc
            have K10 := K9.trans (.of_same sc)
            generalize upd H9 c (.tup (ls'.map V.str)) = H10 at *
            have sb := same_new (o := .tup [.str word, .str nm, .ref c]) nb
            have all : ∀ (M : Hp) (r : List Str), DpAll K M (r.map V.str) (r.map PyData.str) := fun M r => by
              induction r with
              | nil => exact .nil
              | cons e r ih => exact .cons (.str _) ih
            exact kk b _ word [.ref c] [.tuple (ls'.map .str)] (m + 1) _ hmem (P10.same sb) (by omega) (K10.trans (.of_same sb)) (SqT.of (mask_upd ((alK P10 K10).not nb))) (.cons (.tup (SqT.of (by rw [mask_out cL]; exact sb _ _ ec)) (all _ _)) .nil) (by rw [w5]; exact .load hw9 hl9)
          refine ⟨_, rfl, _, rfl, _, rfl, p, q, m, 2, rfl, P7, by omega, by decide, by decide, fun d H8 d0 d1 P8 K8 => ?_⟩
          have K78 := K7.trans K8
          have ekl8 := K8 _ _ klp klq ekl
          refine ⟨rfl, _, rfl, ?_⟩
          show (if decide (V.int d = V.int 1) = true then _ else _)
          by_cases hd : d = 1
          · rw [decide_eq_true (show V.int d = V.int 1 by rw [hd])]
            refine iteT ⟨_, rfl, kl, _, rfl, SqL.of ekl8, fun l nl => ?_⟩
            have sl := same_new (o := .lst (ls.map V.str).reverse) nl
            rw [← List.map_reverse] at *
            refine ⟨⟨l, _, rfl, .inl ⟨SqL.of upd_same, fun c nc => ⟨by show 3 ≤ sizeLine; decide, fun b nb => ?_⟩⟩⟩⟩
            exact done ls.reverse c _ (by rw [List.length_reverse]; omega) (fun y hy => hlw y (List.mem_reverse.mp hy)) (P8.same sl) (K78.trans (.of_same sl)) nc b nb
          · rw [show decide (V.int d = V.int 1) = false from decide_eq_false fun h => hd (by injection h)]
            refine iteF ⟨_, rfl, ⟨kl, _, rfl, .inl ⟨SqL.of ekl8, fun c nc => ⟨by show 3 ≤ sizeLine; decide, fun b nb => ?_⟩⟩⟩⟩
            exact done ls c _ (by omega) hlw P8 K78 nc b nb
      rw [show decide (V.str word = V.str "load") = false from decide_eq_false fun h => w5 (by injection h)]
      refine iteF ⟨_, rfl, rfl, _, rfl, ?_⟩
      show (if decide (V.str word = V.str "mark") = true then _ else _)
      by_cases w4 : word = "mark"
      · rw [decide_eq_true (show V.str word = V.str "mark" by rw [w4])]
        obtain rfl : kd = "slot" := by
          refine Classical.byContradiction fun h => ?_
          exact (by decide +kernel : ∀ z ∈ k7, z ≠ "slot" → ("mark" : Str) ∉ wordsOf z) _ hkd h (by rw [← w4]; exact hw)
        refine iteT ⟨_, rfl, _, rfl, _, rfl, p, q, n + 2, rfl, P5, by omega, fun z n6 H6 hz hn1 hn2 P6 K6 => ⟨by show 3 ≤ sizeLine; decide, fun b nb => ?_⟩⟩
        have s6 := same_new (o := .tup [.str word, .str nm, .str z]) nb
        have K56 := K5.trans K6
        exact kk b _ word [.str z] [.str z] n6 _ hmem (P6.same s6) (by omega) (K56.trans (.of_same s6)) (SqT.of (mask_upd ((alK P6 K56).not nb))) (.cons (.str _) .nil) (by rw [w4]; exact .mark hz)
      rw [show decide (V.str word = V.str "mark") = false from decide_eq_false fun h => w4 (by injection h)]
      refine iteF ⟨_, rfl, _, rfl, by show 2 ≤ sizeLine; decide, fun b nb => ?_⟩
      have s6 := same_new (o := .tup [.str word, .str nm]) nb
      exact kk b _ word [] [] (n + 2) _ hmem (P5.same s6) (by omega) (K5.trans (.of_same s6)) (SqT.of (mask_upd ((alK P5 K5).not nb))) .nil (.one hw w1 w2 w3 w5 w4)
end

/-! ### what things of all kinds hold -/
/-- a table's entries: unlike keys of the table -/
structure EsOk (ks : List Str) (es : List (Str × Int)) : Prop where
  nd : (names es).Nodup
  sub : ∀ x ∈ names es, x ∈ ks
theorem nd_len {α : Type} [DecidableEq α] : ∀ {a b : List α}, a.Nodup → (∀ x ∈ a, x ∈ b) → a.length ≤ b.length
  | [], _, _, _ => Nat.zero_le _
  | x :: r, b, hn, h => by
    have hx := h x List.mem_cons_self
    have hr := nd_len (a := r) (b := b.erase x) (List.nodup_cons.mp hn).2 fun y hy => (List.mem_erase_of_ne (fun q => (List.nodup_cons.mp hn).1 (by rw [← q]; exact hy))).mpr (h y (List.mem_cons_of_mem _ hy))
    rw [List.length_erase_of_mem hx] at hr
    have := List.length_pos_of_mem hx
    rw [List.length_cons]
    omega
theorem EsOk.len {ks : List Str} {es : List (Str × Int)} (h : EsOk ks es) (hk : ks.length ≤ 4) : es.length ≤ 4 := by
  have := nd_len h.nd h.sub
  unfold names at this
  rw [List.length_map] at this
  omega
theorem EsOk.tab {ks : List Str} {es : List (Str × Int)} (h : EsOk ks es) (hk : ks.length ≤ 4) : TabOk es := ⟨h.nd, by have := h.len hk; omega⟩
theorem EsOk.snoc {ks : List Str} {es : List (Str × Int)} {k : Str} {v : Int} (h : EsOk ks es) (m : k ∈ ks) (hn : look es k = none) : EsOk ks (es ++ [(k, v)]) := by
  have nm : k ∉ names es := fun q => by
    obtain ⟨w, e⟩ := look_some q
    rw [hn] at e; cases e
  have en : names (es ++ [(k, v)]) = names es ++ [k] := by unfold names; rw [List.map_append]; rfl
  refine ⟨?_, fun x hx => ?_⟩
  · rw [en]
    refine List.nodup_append.mpr ⟨h.nd, by simp, fun a ha b hb q => nm ?_⟩
    rw [List.mem_singleton.mp hb] at q
    rw [← q]; exact ha
  · rw [en] at hx
    rcases List.mem_append.mp hx with hx | hx
    · exact h.sub x hx
    · rw [List.mem_singleton.mp hx]; exact m
theorem EsOk.setD {ks : List Str} {es : List (Str × Int)} {k : Str} {v : Int} (h : EsOk ks es) (m : k ∈ ks) : EsOk ks (setD es k v) := by
  cases e : look es k with
  | some w => rw [setD_some e]; exact h
  | none => rw [(setD_none e).1]; exact h.snoc m e
theorem EsOk.put {ks : List Str} {es : List (Str × Int)} {k : Str} {v : Int} (h : EsOk ks es) (m : k ∈ ks) : EsOk ks (put es k v) := by
  cases e : look es k with
  | some w =>
    have en : names (Qp.put es k v) = names es := put_names e
    exact ⟨by rw [en]; exact h.nd, by rw [en]; exact h.sub⟩
  | none => rw [(setD_none (v := v) e).2]; exact h.snoc m e
theorem EsOk.drop {ks : List Str} {es : List (Str × Int)} {k : Str} (h : EsOk ks es) : EsOk ks (dropE es k) := by
  have s : (names (dropE es k)).Sublist (names es) := List.Sublist.map _ List.filter_sublist
  exact ⟨h.nd.sublist s, fun x hx => h.sub x (s.subset hx)⟩
theorem names_loadE : ∀ (n : Nat) (l : List Str), names (loadE n l) = l
  | _, [] => rfl
  | n, x :: r => by
    show x :: names (loadE (n + 1) r) = _
    rw [names_loadE]
theorem EsOk.load {ks ls : List Str} (n : Nat) (hk : ks.Nodup) : EsOk ks (loadE n (ks.filter fun k => decide (k ∈ ls))) := by
  refine ⟨?_, fun x hx => ?_⟩
  · rw [names_loadE]; exact hk.sublist List.filter_sublist
  · rw [names_loadE] at hx; exact (List.mem_filter.mp hx).1
theorem EsOk.nil {ks : List Str} : EsOk ks [] := ⟨.nil, fun _ h => (by cases h)⟩
inductive CtOk : Tr → PyData → Prop where
  | feed {n : Str} {ps : List Str} (f t len : Int) : CtOk (n, "feed", ps) (triple f t len)
  | dice {n : Str} {ps : List Str} (a b : Int) : CtOk (n, "dice", ps) (pair a b)
  | table {n : Str} {ks : List Str} {es : List (Str × Int)} (h : EsOk ks es) : CtOk (n, "table", ks) (TbD es)
  | source {n : Str} {ps : List Str} (z : Int) : CtOk (n, "source", ps) (.int z)
  | field0 {n : Str} {ps : List Str} : CtOk (n, "field", ps) .none
  | field {n : Str} {ps : List Str} (z : Int) : CtOk (n, "field", ps) (.int z)
  | flag {n : Str} {ps : List Str} (b : Bool) : CtOk (n, "flag", ps) (.bool b)
  | slot0 {n : Str} {ps : List Str} : CtOk (n, "slot", ps) .none
  | slot {n : Str} {ps : List Str} (z : Int) : CtOk (n, "slot", ps) (.int z)
  | slotS {n x : Str} {ps : List Str} (h : IsWord x) : CtOk (n, "slot", ps) (.str x)
/-- all contents, each of its thing's kind -/
structure CsOk (th : Ths) (cs : List (Str × PyData)) : Prop where
  nm : names cs = names th
  ok : ∀ e ∈ th, ∃ d, look cs e.1 = some d ∧ CtOk e d
theorem th_one {th : Ths} (hn : (names th).Nodup) {e e' : Tr} (h : e ∈ th) (h' : e' ∈ th) (q : e'.1 = e.1) : e' = e := by
  induction th with
  | nil => cases h
  | cons a r ih =>
    have hn' : (a.1 :: names r).Nodup := hn
    obtain ⟨n1, n2⟩ := List.nodup_cons.mp hn'
    rcases List.mem_cons.mp h with z | h
    · rcases List.mem_cons.mp h' with z' | h'
      · rw [z, z']
      · exact absurd (List.mem_map.mpr ⟨e', h', by rw [q, z]⟩) n1
    · rcases List.mem_cons.mp h' with z' | h'
      · exact absurd (List.mem_map.mpr ⟨e, h, by rw [← q, z']⟩) n1
      · exact ih n2 h h'
theorem CsOk.put {th : Ths} {cs : List (Str × PyData)} {e : Tr} {d : PyData} (h : CsOk th cs) (hn : (names th).Nodup) (he : e ∈ th) (hd : CtOk e d) : CsOk th (Qp.put cs e.1 d) := by
  obtain ⟨d0, e0, _⟩ := h.ok e he
  refine ⟨by rw [put_names e0]; exact h.nm, fun e' he' => ?_⟩
  rw [look_put]
  by_cases q : e'.1 = e.1
  · rw [if_pos q]
    obtain rfl := th_one hn he he' q
    exact ⟨d, rfl, hd⟩
  · rw [if_neg q]; exact h.ok e' he'
theorem CsOk.feeds {th : Ths} {cs : List (Str × PyData)} (h : CsOk th cs) : FeedsOk th cs := by
  intro e he hk
  obtain ⟨d, e1, hd⟩ := h.ok e he
  obtain ⟨n, kd, ps⟩ := e
  have hk : kd = "feed" := hk
  subst hk
  cases hd with
  | feed f t len => exact ⟨f, t, len, e1⟩
theorem CsOk.step {th : Ths} {cs : List (Str × PyData)} {e : Tr} {f t len : Int} (h : CsOk th cs) (hn : (names th).Nodup) (he : e ∈ th) : CsOk th (tkStep f t len cs e) := by
  unfold tkStep
  split
  case isTrue q =>
    obtain ⟨n, kd, ps⟩ := e
    have hk : kd = "feed" := q.1
    subst hk
    exact h.put hn he (.feed f t len)
  case isFalse => exact h
theorem CsOk.until {th : Ths} {f t len : Int} (hn : (names th).Nodup) : ∀ {l : Ths} {cs : List (Str × PyData)}, (∀ e ∈ l, e ∈ th) → CsOk th cs → CsOk th (tkU l f t len cs)
  | [], _, _, h => h
  | e :: r, _, hl, h => CsOk.until hn (l := r) (fun x m => hl x (List.mem_cons_of_mem _ m)) (h.step hn (hl e List.mem_cons_self))
theorem look_firsts {th : Ths} (hn : (names th).Nodup) {e : Tr} (he : e ∈ th) : look (firsts th) e.1 = some (firstD e.2.1) := by
  induction th with
  | nil => cases he
  | cons a r ih =>
    have hn' : (a.1 :: names r).Nodup := hn
    obtain ⟨n1, n2⟩ := List.nodup_cons.mp hn'
    show look ((a.1, firstD a.2.1) :: firsts r) e.1 = _
    rcases List.mem_cons.mp he with z | h
    · rw [z]; exact look_pos (p := (a.1, firstD a.2.1)) rfl
    · rw [look_neg (p := (a.1, firstD a.2.1)) (fun q => n1 (by rw [show a.1 = e.1 from q]; exact List.mem_map.mpr ⟨e, h, rfl⟩))]
      exact ih n2 h
theorem first_ok {e : Tr} (h : TrOk e) : CtOk e (firstD e.2.1) := by
  cases h with
  | @one k n h hw =>
    simp only [List.mem_cons, List.not_mem_nil, or_false] at h
    rcases h with rfl | rfl | rfl | rfl | rfl
    · exact .feed 0 0 0
    · exact .dice 0 0
    · exact .source 0
    · exact .flag false
    · exact .slot0
  | field hw ho => exact .field0
  | table hw hk hn hl => exact .table (es := []) .nil
theorem firsts_ok {ns : List Str} {th : Ths} (h : ThsOk ns th) (hn : (names th).Nodup) : CsOk th (firsts th) := by
  refine ⟨?_, fun e he => ⟨_, look_firsts hn he, first_ok (h.ok e he)⟩⟩
  unfold names firsts
  rw [List.map_map]; rfl
/-- the look of a thing's kind -/
theorem look_th {th : Ths} (hn : (names th).Nodup) {i : Nat} {n k : Str} {ps : List Str} (e : th[i]? = some (n, k, ps)) : look th n = some (k, ps) := by
  have : th = (names th).zip (th.map (·.2)) := by
    unfold names
    rw [List.zip_map']
    exact (List.map_id th).symm
  rw [this]
  exact look_zip (i := i) hn (by unfold names; rw [List.getElem?_map, e]; rfl) (by rw [List.getElem?_map, e]; rfl)
/-- a look at a field comes to a number -/
theorem look_all {th : Ths} (hn : (names th).Nodup) (hf : FieldsOk th) : ∀ (n i : Nat) (e : Tr) (cs : List (Str × PyData)), i ≤ n → th[i]? = some e → (e.2.1 = "source" ∨ e.2.1 = "field") → CsOk th cs → ∃ cs' z, LookR th n cs e.1 cs' (.int z) ∧ CsOk th cs' := by
  intro n
  induction n with
  | zero =>
    intro i e cs hi ei hk hc
    obtain rfl : i = 0 := by omega
    obtain ⟨d, e1, hd⟩ := hc.ok e (List.mem_of_getElem? ei)
    obtain ⟨nm, kd, ps⟩ := e
    rcases hk with hk | hk
    · have hk : kd = "source" := hk
      subst hk
      cases hd with
      | source z => exact ⟨cs, z, .full e1 (by intro q; cases q) rfl, hc⟩
    · have hk : kd = "field" := hk
      subst hk
      obtain ⟨o, r, _, j, k, ps', hj, _⟩ := hf 0 nm ps ei
      omega
  | succ n ih =>
    intro i e cs hi ei hk hc
    have he := List.mem_of_getElem? ei
    obtain ⟨d, e1, hd⟩ := hc.ok e he
    obtain ⟨nm, kd, ps⟩ := e
    rcases hk with hk | hk
    · have hk : kd = "source" := hk
      subst hk
      cases hd with
      | source z => exact ⟨cs, z, .full e1 (by intro q; cases q) rfl, hc⟩
    · have hk : kd = "field" := hk
      subst hk
      cases hd with
      | field z => exact ⟨cs, z, .full e1 (by intro q; cases q) rfl, hc⟩
      | field0 =>
        obtain ⟨o, r, rfl, j, k, ps', hj, ej, hk'⟩ := hf i nm ps ei
        obtain ⟨cs', z, h1, h2⟩ := ih j (o, k, ps') cs (by omega) ej hk' hc
        exact ⟨Qp.put cs' nm (.int z), z, .down e1 (look_th hn ei) h1, h2.put hn he (.field z)⟩
/-! ### what a deed may change -/
def TrKeys (e : Tr) : Prop := e.2.1 = "table" → (∀ x ∈ e.2.2, IsWord x) ∧ e.2.2.Nodup ∧ e.2.2.length ≤ 4
theorem TrOk.keys {e : Tr} (h : TrOk e) : TrKeys e := by
  intro q
  cases h with
  | one h _ => subst q; exact absurd h (by decide +kernel)
  | field _ _ => exact absurd (show ("field" : Str) = "table" from q) (by decide +kernel)
  | table _ a b c => exact ⟨a, b, c⟩
theorem eqv_int {i j : Int} : PyData.eqv (.int i) (.int j) = (i == j) := by simp only [PyData.eqv]
theorem eqv_str {i j : Str} : PyData.eqv (.str i) (.str j) = (i == j) := by simp only [PyData.eqv]
theorem eqvAll_ent : ∀ (es es' : List (Str × Int)), PyData.eqvAll (es.map entD) (es'.map entD) = true ↔ es = es'
  | [], [] => by simp [PyData.eqvAll]
  | [], _ :: _ => by simp [PyData.eqvAll]
  | _ :: _, [] => by simp [PyData.eqvAll]
  | (k, v) :: r, (k', v') :: r' => by
    have ih := eqvAll_ent r r'
    simp only [List.map_cons, PyData.eqvAll, entD, PyData.eqv, Bool.and_eq_true, Bool.and_true, beq_iff_eq, ih, List.cons.injEq, Prod.mk.injEq]
theorem ct_eqv {e : Tr} {d d' : PyData} (h : CtOk e d) (h' : CtOk e d') : PyData.eqv d d' = true ↔ d = d' := by
  cases h with
  | feed a b c =>
    cases h' with
    | feed a' b' c' => simp [triple, PyData.eqv, PyData.eqvAll]
  | dice a b =>
    cases h' with
    | dice a' b' => simp [pair, PyData.eqv, PyData.eqvAll]
  | @table _ _ es h =>
    cases h' with
    | @table _ _ es' h' =>
      unfold TbD
      simp only [PyData.eqv, PyData.tuple.injEq]
      rw [eqvAll_ent]
      constructor
      · intro q; rw [q]
      · intro q
        have inj : ∀ x y : Str × Int, entD x = entD y → x = y := by
          rintro ⟨a, b⟩ ⟨a', b'⟩ q
          unfold entD at q
          injection q with q
          injection q with q1 q2
          injection q2 with q2 _
          injection q1 with q1
          injection q2 with q2
          exact Prod.ext q1 q2
        exact List.map_inj_right inj |>.mp q
  | source z => cases h' with | source z' => simp [PyData.eqv]
  | field0 => cases h' <;> simp [PyData.eqv]
  | field z => cases h' <;> simp [PyData.eqv]
  | flag b => cases h' with | flag b' => simp [PyData.eqv]
  | slot0 => cases h' <;> simp [PyData.eqv]
  | slot z => cases h' <;> simp [PyData.eqv]
  | slotS h => cases h' <;> simp [PyData.eqv]
theorem ct_shaped {e : Tr} {d : PyData} (t : TrKeys e) (h : CtOk e d) : SeqAt.shaped d = true := by
  cases h with
  | feed a b c => rfl
  | dice a b => rfl
  | @table n ks es h =>
    obtain ⟨hw, _, _⟩ := t rfl
    have hes : ∀ x ∈ names es, IsWord x := fun x hx => hw x (h.sub x hx)
    have h1 : PyData.canLayAll0 (es.map entD) = true ∧ PyData.depthAll (es.map entD) ≤ 2 := by
      clear h
      induction es with
      | nil => exact ⟨rfl, by simp [PyData.depthAll]⟩
      | cons x r ih =>
        obtain ⟨i1, i2⟩ := ih fun y hy => hes y (List.mem_cons_of_mem _ hy)
        have hx : PyData.strOk x.1 = true := word_str (hes x.1 List.mem_cons_self)
        simp only [List.map_cons, PyData.canLayAll0, PyData.canLay0, entD, PyData.depthAll, PyData.depth, hx, i1]
        exact ⟨rfl, by omega⟩
    unfold SeqAt.shaped TbD
    simp only [PyData.canLay0, h1.1, PyData.depth, Bool.true_and]
    exact decide_eq_true (by have := h1.2; omega)
  | source z => rfl
  | field0 => rfl
  | field z => rfl
  | flag b => rfl
  | slot0 => rfl
  | slot z => rfl
  | slotS h =>
    unfold SeqAt.shaped
    simp only [PyData.canLay0, word_str h, PyData.depth, Bool.true_and]
    rfl
theorem ct_dp {e : Tr} {d : PyData} (t : TrKeys e) (h : CtOk e d) : dp 3 d := by
  cases h with
  | feed a b c => simp [triple, dp]
  | dice a b => simp [pair, dp]
  | @table n ks es h =>
    have hl := h.len (t rfl).2.2
    simp only [TbD, dp, List.length_map]
    refine ⟨by omega, fun x hx => ?_⟩
    obtain ⟨y, _, rfl⟩ := List.mem_map.mp hx
    simp [entD, dp]
  | source z => simp [dp]
  | field0 => simp [dp]
  | field z => simp [dp]
  | flag b => simp [dp]
  | slot0 => simp [dp]
  | slot z => simp [dp]
  | slotS h => simp [dp]
/-- feeds of one row have one content -/
def FtOk (W : Ws) : Prop := ∀ e ∈ W.th, e.2.1 = "feed" → ∀ f t len, look W.cs e.1 = some (triple f t len) → f ≤ W.ft ∧ ∀ e2 ∈ W.th, e2.2.1 = "feed" → ∀ t2 len2, look W.cs e2.1 = some (triple f t2 len2) → t2 = t ∧ len2 = len
def pathE (th : Ths) (cs : List (Str × PyData)) : Nat → Str → List Str
  | 0, _ => []
  | n + 1, x => if isSomeD ((look cs x).getD .none) = true then [] else match look th x with
    | some (_, o :: _) => x :: pathE th cs n o
    | _ => [x]
def quietW : List Str := ["peek", "has", "size", "keys", "glance", "watch", "tell", "bound", "spy"]
def rowW : List Str := ["take", "skip", "drain"]
def likeB (cs : List (Str × PyData)) (x : Str) (e : Tr) : Bool := decide (e.2.1 = "feed") && PyData.eqv ((look cs e.1).getD .none) ((look cs x).getD .none)
def mayOf (th : Ths) (cs : List (Str × PyData)) (word x : Str) : List Str := if word ∈ quietW then [] else if word ∈ rowW then (th.filter (likeB cs x)).map (·.1) else if word ≠ "look" then [x] else pathE th cs 9 x
theorem isSome_ne {d : PyData} : isSomeD d = true ↔ d ≠ .none := by
  cases d <;> simp [isSomeD]
theorem LookR.path {th : Ths} {n : Nat} {cs cs' : List (Str × PyData)} {x : Str} {d : PyData} (h : LookR th n cs x cs' d) : ∀ z, look cs' z ≠ look cs z → z ∈ pathE th cs (n + 1) x := by
  induction h with
  | full e h => intro z q; exact absurd rfl q
  | @down n cs cs' x o k r d e t h ih =>
    intro z q
    rw [look_put] at q
    show z ∈ (if _ then _ else _)
    rw [e]
    show z ∈ (if isSomeD .none = true then _ else _)
    rw [if_neg (by simp [isSomeD]), t]
    show z ∈ x :: pathE th cs (n + 1) o
    by_cases zx : z = x
    · rw [zx]; exact List.mem_cons_self
    · rw [if_neg zx] at q
      exact List.mem_cons_of_mem _ (ih z q)
theorem LookR.more {th : Ths} {n : Nat} {cs cs' : List (Str × PyData)} {x : Str} {d : PyData} (h : LookR th n cs x cs' d) : ∀ {m : Nat}, n ≤ m → LookR th m cs x cs' d := by
  induction h with
  | full e h ht => intro m _; exact .full e h ht
  | @down n cs cs' x o k r d e t h ih =>
    intro m hm
    obtain ⟨m', rfl⟩ : ∃ m', m = m' + 1 := ⟨m - 1, by omega⟩
    exact .down e t (ih (by omega))
theorem LookR.keep {th : Ths} {n : Nat} {cs cs' : List (Str × PyData)} {x : Str} {d : PyData} (h : LookR th n cs x cs' d) : ∀ z d0, look cs z = some d0 → d0 ≠ .none → look cs' z = some d0 := by
  induction h with
  | full e h => intro z d0 q _; exact q
  | @down n cs cs' x o k r d e t h ih =>
    intro z d0 q hd
    rw [look_put]
    by_cases zx : z = x
    · rw [zx, e] at q
      exact absurd (Option.some.inj q).symm hd
    · rw [if_neg zx]; exact ih z d0 q hd
theorem tkU_other {f t len : Int} {n : Str} : ∀ {l : Ths} {cs : List (Str × PyData)}, n ∉ names l → look (tkU l f t len cs) n = look cs n
  | [], _, _ => rfl
  | e :: r, cs, h => by
    have h1 : n ≠ e.1 := fun q => h (by rw [q]; exact List.mem_cons_self)
    show look (tkU r f t len (tkStep f t len cs e)) n = _
    rw [tkU_other (l := r) fun q => h (List.mem_cons_of_mem _ q)]
    unfold tkStep
    split
    · rw [look_put, if_neg h1]
    · rfl
theorem tkU_look {f t len : Int} : ∀ {l : Ths} {cs : List (Str × PyData)} {e : Tr}, (names l).Nodup → e ∈ l → look (tkU l f t len cs) e.1 = if e.2.1 = "feed" ∧ fstIs f (look cs e.1) = true then some (triple f t len) else look cs e.1
  | [], _, _, _, h => by cases h
  | a :: r, cs, e, hn, he => by
    have hn' : (a.1 :: names r).Nodup := hn
    obtain ⟨n1, n2⟩ := List.nodup_cons.mp hn'
    show look (tkU r f t len (tkStep f t len cs a)) e.1 = _
    rcases List.mem_cons.mp he with rfl | he
    · rw [tkU_other n1]
      unfold tkStep
      split
      · rw [look_put, if_pos rfl]
      · rfl
    · have hne : e.1 ≠ a.1 := fun q => n1 (by rw [← q]; exact List.mem_map.mpr ⟨e, he, rfl⟩)
      rw [tkU_look n2 he]
      have : look (tkStep f t len cs a) e.1 = look cs e.1 := by
        unfold tkStep
        split
        · rw [look_put, if_neg hne]
        · rfl
      rw [this]
theorem fstIs_tri {f a b c : Int} : fstIs f (some (triple a b c)) = true ↔ a = f := by
  show (a == f) = true ↔ _
  exact beq_iff_eq
/-- behind a deed -/
structure After (W W' : Ws) (word x : Str) : Prop where
  cs : CsOk W.th W'.cs
  ft : FtOk W'
  may : ∀ n ∈ names W.th, look W'.cs n ≠ look W.cs n → n ∈ mayOf W.th W.cs word x
theorem After.refl {W : Ws} {word x : Str} (h : CsOk W.th W.cs) (f : FtOk W) : After W W word x := ⟨h, f, fun _ _ q => absurd rfl q⟩
theorem may_one {th : Ths} {cs : List (Str × PyData)} {word x : Str} (h : (decide (word ∈ quietW) || decide (word ∈ rowW) || decide (word = "look")) = false) : mayOf th cs word x = [x] := by
  simp only [Bool.or_eq_false_iff, decide_eq_false_iff_not] at h
  unfold mayOf
  rw [if_neg h.1.1, if_neg h.1.2, if_pos h.2]
/-- one content is put, which is no feed's -/
theorem After.put {W W' : Ws} {word : Str} {e : Tr} {d : PyData} (h : CsOk W.th W.cs) (f : FtOk W) (hn : (names W.th).Nodup) (he : e ∈ W.th) (hd : CtOk e d) (hk : e.2.1 ≠ "feed") (e1 : W'.th = W.th) (e2 : W'.cs = Qp.put W.cs e.1 d) (e3 : W'.ft = W.ft) (hw : (decide (word ∈ quietW) || decide (word ∈ rowW) || decide (word = "look")) = false) : After W W' word e.1 := by
  refine ⟨by rw [e2]; exact h.put hn he hd, ?_, fun n _ q => ?_⟩
  · intro a ha hka ff tt ll hl
    have other : ∀ {b : Tr}, b ∈ W.th → b.2.1 = "feed" → look W'.cs b.1 = look W.cs b.1 := fun {b} hb hkb => by
      rw [e2, look_put, if_neg fun q => hk (by rw [← th_one hn he hb q]; exact hkb)]
    rw [e1] at ha
    rw [other ha hka] at hl
    obtain ⟨f1, f2⟩ := f a ha hka ff tt ll hl
    refine ⟨by rw [e3]; exact f1, fun b hb hkb t2 l2 hl2 => ?_⟩
    rw [e1] at hb
    rw [other hb hkb] at hl2
    exact f2 b hb hkb t2 l2 hl2
  · rw [may_one hw]
    rw [e2, look_put] at q
    by_cases z : n = e.1
    · rw [z]; exact List.mem_singleton.mpr rfl
    · rw [if_neg z] at q; exact absurd rfl q
/-- a new row -/
theorem After.fetch {W : Ws} {e : Tr} {len : Int} (h : CsOk W.th W.cs) (f : FtOk W) (hn : (names W.th).Nodup) (he : e ∈ W.th) (hk : e.2.1 = "feed") : After W { W with cs := Qp.put W.cs e.1 (triple ((W.ft + 1 : Nat) : Int) 0 len), ft := W.ft + 1 } "fetch" e.1 := by
  have hd : CtOk e (triple ((W.ft + 1 : Nat) : Int) 0 len) := by
    obtain ⟨n, k, ps⟩ := e
    have hk : k = "feed" := hk
    subst hk
    exact .feed _ _ _
  refine ⟨h.put hn he hd, ?_, fun n _ q => ?_⟩
  · intro a ha hka ff tt ll hl
    have hl : look (Qp.put W.cs e.1 (triple ((W.ft + 1 : Nat) : Int) 0 len)) a.1 = some (triple ff tt ll) := hl
    show ff ≤ ((W.ft + 1 : Nat) : Int) ∧ _
    rw [look_put] at hl
    by_cases z : a.1 = e.1
    · rw [if_pos z] at hl
      obtain ⟨rfl, rfl, rfl⟩ := triple_inj (Option.some.inj hl)
      refine ⟨Int.le_refl _, fun b hb hkb t2 l2 hl2 => ?_⟩
      have hl2 : look (Qp.put W.cs e.1 (triple ((W.ft + 1 : Nat) : Int) 0 len)) b.1 = _ := hl2
      rw [look_put] at hl2
      by_cases z2 : b.1 = e.1
      · rw [if_pos z2] at hl2
        obtain ⟨_, q1, q2⟩ := triple_inj (Option.some.inj hl2)
        exact ⟨q1.symm, q2.symm⟩
      · rw [if_neg z2] at hl2
        have := (f b hb hkb _ _ _ hl2).1
        omega
    · rw [if_neg z] at hl
      obtain ⟨f1, f2⟩ := f a ha hka ff tt ll hl
      refine ⟨by omega, fun b hb hkb t2 l2 hl2 => ?_⟩
      have hl2 : look (Qp.put W.cs e.1 (triple ((W.ft + 1 : Nat) : Int) 0 len)) b.1 = _ := hl2
      rw [look_put] at hl2
      by_cases z2 : b.1 = e.1
      · rw [if_pos z2] at hl2
        obtain ⟨q1, _, _⟩ := triple_inj (Option.some.inj hl2)
        omega
      · rw [if_neg z2] at hl2
        exact f2 b hb hkb t2 l2 hl2
  · rw [may_one (by decide +kernel)]
    have q : look (Qp.put W.cs e.1 (triple ((W.ft + 1 : Nat) : Int) 0 len)) n ≠ _ := q
    rw [look_put] at q
    by_cases z : n = e.1
    · rw [z]; exact List.mem_singleton.mpr rfl
    · rw [if_neg z] at q; exact absurd rfl q
/-- another's row -/
theorem After.bind {W : Ws} {e e2 : Tr} {d : PyData} (h : CsOk W.th W.cs) (f : FtOk W) (hn : (names W.th).Nodup) (he : e ∈ W.th) (he2 : e2 ∈ W.th) (hk : e.2.1 = "feed") (hk2 : e2.2.1 = "feed") (hl : look W.cs e2.1 = some d) : After W { W with cs := Qp.put W.cs e.1 d } "bind" e.1 := by
  obtain ⟨a0, b0, c0, h0⟩ := h.feeds e2 he2 hk2
  rw [hl] at h0
  obtain rfl := Option.some.inj h0
  have hd : CtOk e (triple a0 b0 c0) := by
    obtain ⟨n, k, ps⟩ := e
    have hk : k = "feed" := hk
    subst hk
    exact .feed _ _ _
  refine ⟨h.put hn he hd, ?_, fun n _ q => ?_⟩
  · have at_ : ∀ {b : Tr} {ff tt ll : Int}, b ∈ W.th → b.2.1 = "feed" → look (Qp.put W.cs e.1 (triple a0 b0 c0)) b.1 = some (triple ff tt ll) → ∃ c ∈ W.th, c.2.1 = "feed" ∧ look W.cs c.1 = some (triple ff tt ll) := fun {b ff tt ll} hb hkb q => by
      rw [look_put] at q
      by_cases z : b.1 = e.1
      · rw [if_pos z] at q
        exact ⟨e2, he2, hk2, by rw [hl]; exact q⟩
      · rw [if_neg z] at q
        exact ⟨b, hb, hkb, q⟩
    intro a ha hka ff tt ll hla
    obtain ⟨c, hc, hkc, hlc⟩ := at_ ha hka hla
    obtain ⟨f1, f2⟩ := f c hc hkc ff tt ll hlc
    refine ⟨f1, fun b hb hkb t2 l2 hl2 => ?_⟩
    obtain ⟨c2, hc2, hkc2, hlc2⟩ := at_ hb hkb hl2
    exact f2 c2 hc2 hkc2 t2 l2 hlc2
  · rw [may_one (by decide +kernel)]
    have q : look (Qp.put W.cs e.1 (triple a0 b0 c0)) n ≠ _ := q
    rw [look_put] at q
    by_cases z : n = e.1
    · rw [z]; exact List.mem_singleton.mpr rfl
    · rw [if_neg z] at q; exact absurd rfl q
/-- a row taken of -/
theorem After.until {W : Ws} {word : Str} {f t t2 len : Int} (h : CsOk W.th W.cs) (ok : FtOk W) (hn : (names W.th).Nodup) {e : Tr} (he : e ∈ W.th) (hk : e.2.1 = "feed") (hl : look W.cs e.1 = some (triple f t len)) (hw : word ∈ rowW) (hq : word ∉ quietW) : After W { W with cs := tkU W.th f t2 len W.cs } word e.1 := by
  have new : ∀ {b : Tr} {ff tt ll : Int}, b ∈ W.th → b.2.1 = "feed" → look (tkU W.th f t2 len W.cs) b.1 = some (triple ff tt ll) → (ff = f ∧ tt = t2 ∧ ll = len) ∨ (ff ≠ f ∧ look W.cs b.1 = some (triple ff tt ll)) := fun {b ff tt ll} hb hkb q => by
    rw [tkU_look hn hb] at q
    by_cases z : fstIs f (look W.cs b.1) = true
    · rw [if_pos ⟨hkb, z⟩] at q
      obtain ⟨q1, q2, q3⟩ := triple_inj (Option.some.inj q)
      exact .inl ⟨q1.symm, q2.symm, q3.symm⟩
    · rw [if_neg fun r => z r.2] at q
      refine .inr ⟨fun r => z (by rw [q, r]; exact fstIs_tri.mpr rfl), q⟩
  obtain ⟨f1, f2⟩ := ok e he hk f t len hl
  refine ⟨CsOk.until hn (fun e m => m) h, ?_, fun n m q => ?_⟩
  · intro a ha hka ff tt ll hla
    rcases new ha hka hla with ⟨rfl, rfl, rfl⟩ | ⟨hf, hla⟩
    · refine ⟨f1, fun b hb hkb t3 l3 hl3 => ?_⟩
      rcases new hb hkb hl3 with ⟨_, r1, r2⟩ | ⟨hf, _⟩
      · exact ⟨r1, r2⟩
      · exact absurd rfl hf
    · obtain ⟨g1, g2⟩ := ok a ha hka ff tt ll hla
      refine ⟨g1, fun b hb hkb t3 l3 hl3 => ?_⟩
      rcases new hb hkb hl3 with ⟨r, _, _⟩ | ⟨_, hl3⟩
      · exact absurd r hf
      · exact g2 b hb hkb t3 l3 hl3
  · obtain ⟨b, hb, rfl⟩ := List.mem_map.mp m
    have q : look (tkU W.th f t2 len W.cs) b.1 ≠ look W.cs b.1 := q
    rw [tkU_look hn hb] at q
    by_cases z : b.2.1 = "feed" ∧ fstIs f (look W.cs b.1) = true
    · obtain ⟨a1, a2, a3, hlb⟩ := h.feeds b hb z.1
      have z2 := z.2
      rw [hlb] at z2
      obtain rfl := fstIs_tri.mp z2
      obtain ⟨r1, r2⟩ := f2 b hb z.1 a2 a3 hlb
      unfold mayOf
      rw [if_neg hq, if_pos hw]
      refine List.mem_map.mpr ⟨b, List.mem_filter.mpr ⟨hb, ?_⟩, rfl⟩
      unfold likeB
      rw [decide_eq_true z.1, hlb, hl, r1, r2]
      simp [triple, PyData.eqv, PyData.eqvAll]
    · rw [if_neg z] at q
      exact absurd rfl q
/-- a look -/
theorem After.look {W : Ws} {x : Str} {cs' : List (Str × PyData)} {d : PyData} (h : CsOk W.th cs') (ok : FtOk W) (h0 : CsOk W.th W.cs) (l : LookR W.th 8 W.cs x cs' d) : After W { W with cs := cs' } "look" x := by
  have old : ∀ {b : Tr} {ff tt ll : Int}, b ∈ W.th → b.2.1 = "feed" → Qp.look cs' b.1 = some (triple ff tt ll) → Qp.look W.cs b.1 = some (triple ff tt ll) := fun {b ff tt ll} hb hkb q => by
    obtain ⟨a1, a2, a3, e⟩ := h0.feeds b hb hkb
    have := l.keep b.1 _ e (by unfold triple; intro z; cases z)
    rw [this] at q
    rw [e]; exact q
  refine ⟨h, ?_, fun n _ q => ?_⟩
  · intro a ha hka ff tt ll hla
    obtain ⟨f1, f2⟩ := ok a ha hka ff tt ll (old ha hka hla)
    exact ⟨f1, fun b hb hkb t3 l3 hl3 => f2 b hb hkb t3 l3 (old hb hkb hl3)⟩
  · unfold mayOf
    rw [if_neg (by decide +kernel), if_neg (by decide +kernel), if_neg (by simp)]
    exact l.path n q
theorem firsts_ft {th : Ths} (hn : (names th).Nodup) (f sd sr : Nat) : FtOk ⟨th, firsts th, f, sd, sr⟩ := by
  intro e he hk ff tt ll hl
  have hf : firstD "feed" = triple 0 0 0 := by
    unfold firstD
    rw [if_pos rfl]; rfl
  have at_ : ∀ {b : Tr} {ff tt ll : Int}, b ∈ th → b.2.1 = "feed" → look (firsts th) b.1 = some (triple ff tt ll) → ff = 0 ∧ tt = 0 ∧ ll = 0 := fun {b ff tt ll} hb hkb q => by
    rw [look_firsts hn hb, hkb, hf] at q
    obtain ⟨r1, r2, r3⟩ := triple_inj (Option.some.inj q)
    exact ⟨r1.symm, r2.symm, r3.symm⟩
  obtain ⟨rfl, rfl, rfl⟩ := at_ he hk hl
  exact ⟨by show (0 : Int) ≤ (f : Int); omega, fun b hb hkb t3 l3 hl3 => let ⟨_, r1, r2⟩ := at_ hb hkb hl3; ⟨r1, r2⟩⟩
/-! ### what a drawn deed does -/
structure Acts (P : Program) (w : World) (K : PySem.W.Frag) (mg : Str → Option Value) (base : Heap) (C CS dP dA : Addr) : Prop where
  aTake : ActK P w K mg base C CS dP dA "take" ["feed"] rTake
  aSkip : ActK P w K mg base C CS dP dA "skip" ["feed"] rSkip
  aDrain : ActK P w K mg base C CS dP dA "drain" ["feed"] rDrain
  aFetch : ActK P w K mg base C CS dP dA "fetch" ["feed", "length"] rFetch
  aBind : ActK P w K mg base C CS dP dA "bind" ["feed", "feed"] rCopy
  aRoll : ActK P w K mg base C CS dP dA "roll" ["dice"] rRoll
  aSeed : ActK P w K mg base C CS dP dA "seed" ["dice"] rSeed
  aGet : ActK P w K mg base C CS dP dA "get" ["table", "key"] rGet
  aPeek : ActK P w K mg base C CS dP dA "peek" ["table", "key"] rPeek
  aHas : ActK P w K mg base C CS dP dA "has" ["table", "key"] rHas
  aPut : ActK P w K mg base C CS dP dA "put" ["table", "key"] rPut
  aFill : ActK P w K mg base C CS dP dA "fill" ["table", "key"] rFill
  aDrop : ActK P w K mg base C CS dP dA "drop" ["table", "key"] rDrop
  aSize : ActK P w K mg base C CS dP dA "size" ["table"] rSize
  aKeys : ActK P w K mg base C CS dP dA "keys" ["table"] rKeys
  aLoad : ActK P w K mg base C CS dP dA "load" ["table", "keys"] rLoad
  aWipe : ActK P w K mg base C CS dP dA "wipe" ["table"] rWipe
  aChange : ActK P w K mg base C CS dP dA "change" ["source"] rKeep
  aLook : ActK P w K mg base C CS dP dA "look" ["field"] (rLookN 8)
  aGlance : ActK P w K mg base C CS dP dA "glance" ["field"] rValue
  aRenew : ActK P w K mg base C CS dP dA "renew" ["field"] rRenew
  aLift : ActK P w K mg base C CS dP dA "lift" ["flag"] rLift
  aRead : ActK P w K mg base C CS dP dA "read" ["flag"] rRead
  aWatch : ActK P w K mg base C CS dP dA "watch" ["flag"] rValue
  aKeep : ActK P w K mg base C CS dP dA "keep" ["slot"] rKeep
  aCopy : ActK P w K mg base C CS dP dA "copy" ["slot", "slot"] rCopy
  aTell : ActK P w K mg base C CS dP dA "tell" ["slot"] rValue
  aBound : ActK P w K mg base C CS dP dA "bound" ["slot"] rBound
  aMark : ActK P w K mg base C CS dP dA "mark" ["slot", "mark"] rMark
  aSpy : ActK P w K mg base C CS dP dA "spy" ["thing"] rSpy
section
variable {P : Program} {w : World} {K : PySem.W.Frag} {mg : Str → Option Value} {base : Heap}
theorem does_all {C CS dP dA : Addr} (A : Acts P w K mg base C CS dP dA) {ns : List Str} {W : Ws} (ok : ThsOk ns W.th) (hn : (names W.th).Nodup) (h8 : W.th.length ≤ 8) (hc : CsOk W.th W.cs) (hf : FtOk W) {e : Tr} (he : e ∈ W.th) {word : Str} {rest : List PyData} (hd : DeedW W.th e word rest) :
    ∃ (kinds : List Str) (R : Ws → List PyData → Ws → PyData → Prop) (W' : Ws) (d : PyData), ActK P w K mg base C CS dP dA word kinds R ∧ Paired GoodArg kinds (.str e.1 :: rest) ∧ Paired (CheckArg W.th (.str e.1)) kinds (.str e.1 :: rest) ∧ R W (.str e.1 :: rest) W' d ∧ W'.th = W.th ∧ After W W' word e.1 := by
  have hok := ok.ok e he
  have hkd : e.2.1 ∈ k7 := (by decide +kernel : ∀ z ∈ kindsS, z ∈ k7) _ (ok.kd e he)
  obtain ⟨i, ei⟩ := List.getElem?_of_mem he
  have hi8 : i ≤ 8 := by have := (List.getElem?_eq_some_iff.mp ei).1; omega
  obtain ⟨nm, kd, ps⟩ := e
  have hkd : kd ∈ k7 := hkd
  have lk := look_th hn ei
  have hwn : IsWord nm := by cases hok <;> assumption
  obtain ⟨d0, e0, hd0⟩ := hc.ok _ he
  have e0 : look W.cs nm = some d0 := e0
  have put1 : ∀ {d : PyData} {W' : Ws} {word : Str}, CtOk (nm, kd, ps) d → kd ≠ "feed" → W'.th = W.th → W'.cs = put W.cs nm d → W'.ft = W.ft → (decide (word ∈ quietW) || decide (word ∈ rowW) || decide (word = "look")) = false → After W W' word nm := fun h k a b c w => After.put hc hf hn he h k a b c w
  have g1 : ∀ {k : Str}, k ≠ "length" → k ≠ "keys" → GoodArg k (.str nm) := fun a b => .name a b hwn
  have c1 : kd ∈ kindsS → CheckArg W.th (.str nm) kd (.str nm) := fun h => .kind h lk
  have cT : CheckArg W.th (.str nm) "thing" (.str nm) := .thing lk
  have spy : ∃ (kinds : List Str) (R : Ws → List PyData → Ws → PyData → Prop) (W' : Ws) (d : PyData), ActK P w K mg base C CS dP dA "spy" kinds R ∧ Paired GoodArg kinds [.str nm] ∧ Paired (CheckArg W.th (.str nm)) kinds [.str nm] ∧ R W [.str nm] W' d ∧ W'.th = W.th ∧ After W W' "spy" nm :=
    ⟨_, _, W, .none, A.aSpy, .cons (g1 (by decide +kernel) (by decide +kernel)) .nil, .cons cT .nil, ⟨nm, rfl, rfl, rfl⟩, rfl, .refl hc hf⟩
  cases hd with
  | fetch h0 h1 => exact ⟨_, _, _, .none, A.aFetch, .cons (g1 (by decide +kernel) (by decide +kernel)) (.cons (.length h0 h1) .nil), .cons (c1 (by decide +kernel)) (.cons (.other (by decide +kernel) (by decide +kernel) (by decide +kernel)) .nil), ⟨nm, _, rfl, rfl, rfl⟩, rfl, After.fetch hc hf hn he rfl⟩
  | mark h => exact ⟨_, _, _, .none, A.aMark, .cons (g1 (by decide +kernel) (by decide +kernel)) (.cons (.name (by decide +kernel) (by decide +kernel) h) .nil), .cons (c1 (by decide +kernel)) (.cons (.other (by decide +kernel) (by decide +kernel) (by decide +kernel)) .nil), ⟨nm, _, rfl, rfl, rfl⟩, rfl, put1 (.slotS h) (by decide +kernel) rfl rfl rfl (by decide +kernel)⟩
  | @load _ _ ls h hl =>
    obtain ⟨hks, hkn, hkl⟩ : (∀ x ∈ ps, IsWord x) ∧ ps.Nodup ∧ ps.length ≤ 4 := by
      cases hok with
      | one h _ => exact absurd h (by decide +kernel)
      | table _ a b c => exact ⟨a, b, c⟩
    exact ⟨_, _, _, .none, A.aLoad, .cons (g1 (by decide +kernel) (by decide +kernel)) (.cons (.keys h (by omega)) .nil), .cons (c1 (by decide +kernel)) (.cons (.other (by decide +kernel) (by decide +kernel) (by decide +kernel)) .nil), ⟨nm, ls, _, ps, rfl, lk, by omega, rfl, rfl⟩, rfl, put1 (.table (.load W.sr hkn)) (by decide +kernel) rfl rfl rfl (by decide +kernel)⟩
  | @key _ _ k _ h hk =>
    obtain ⟨hks, hkn, hkl⟩ : (∀ x ∈ ps, IsWord x) ∧ ps.Nodup ∧ ps.length ≤ 4 := by
      cases hok with
      | one h _ => exact absurd h (by decide +kernel)
      | table _ a b c => exact ⟨a, b, c⟩
    have gK : Paired GoodArg ["table", "key"] [.str nm, .str k] := .cons (g1 (by decide +kernel) (by decide +kernel)) (.cons (.name (by decide +kernel) (by decide +kernel) (hks k hk)) .nil)
    have cK : Paired (CheckArg W.th (.str nm)) ["table", "key"] [.str nm, .str k] := .cons (c1 (by decide +kernel)) (.cons (.key rfl lk hk) .nil)
    cases hd0 with
    | @table _ _ es hes =>
      have tb := hes.tab hkl
      simp only [sixT, List.mem_cons, List.not_mem_nil, or_false] at h
      rcases h with rfl | rfl | rfl | rfl | rfl | rfl
      · exact ⟨_, _, _, _, A.aGet, gK, cK, ⟨nm, k, es, rfl, e0, tb, rfl, rfl⟩, rfl, put1 (.table (hes.setD hk)) (by decide +kernel) rfl rfl rfl (by decide +kernel)⟩
      · exact ⟨_, _, W, _, A.aPeek, gK, cK, ⟨nm, k, es, rfl, e0, tb, rfl, rfl⟩, rfl, .refl hc hf⟩
      · exact ⟨_, _, W, _, A.aHas, gK, cK, ⟨nm, k, es, rfl, e0, tb, rfl, rfl⟩, rfl, .refl hc hf⟩
      · exact ⟨_, _, _, _, A.aPut, gK, cK, ⟨nm, k, es, rfl, e0, tb, rfl, rfl⟩, rfl, put1 (.table (hes.put hk)) (by decide +kernel) rfl rfl rfl (by decide +kernel)⟩
      · exact ⟨_, _, _, _, A.aFill, gK, cK, ⟨nm, k, es, rfl, e0, tb, rfl, rfl⟩, rfl, put1 (.table (hes.setD hk)) (by decide +kernel) rfl rfl rfl (by decide +kernel)⟩
      · exact ⟨_, _, _, _, A.aDrop, gK, cK, ⟨nm, k, es, rfl, e0, tb, rfl, rfl⟩, rfl, put1 (.table hes.drop) (by decide +kernel) rfl rfl rfl (by decide +kernel)⟩
  | @like _ e2 _ h h1 h2 h3 =>
    obtain ⟨i2, ei2⟩ := List.getElem?_of_mem h2
    have hok2 := ok.ok e2 h2
    obtain ⟨d2, f2, hd2⟩ := hc.ok _ h2
    obtain ⟨nm2, kd2, ps2⟩ := e2
    have h3 : kd2 = kd := h3
    subst h3
    have lk2 := look_th hn ei2
    have hwn2 : IsWord nm2 := by cases hok2 <;> assumption
    have f2 : look W.cs nm2 = some d2 := f2
    simp only [List.mem_cons, List.not_mem_nil, or_false] at h1
    rcases h1 with rfl | rfl
    · obtain rfl : kd2 = "feed" := by
        refine Classical.byContradiction fun q => ?_
        exact (by decide +kernel : ∀ z ∈ k7, z ≠ "feed" → ("bind" : Str) ∉ wordsOf z) _ hkd q h
      have hd3 : CtOk (nm, "feed", ps) d2 := by cases hd2; exact .feed _ _ _
      exact ⟨_, _, _, .none, A.aBind, .cons (g1 (by decide +kernel) (by decide +kernel)) (.cons (.name (by decide +kernel) (by decide +kernel) hwn2) .nil), .cons (c1 (by decide +kernel)) (.cons (.kind (by decide +kernel) lk2) .nil), ⟨nm, nm2, d2, rfl, f2, rfl, rfl⟩, rfl, After.bind hc hf hn he h2 rfl rfl f2⟩
    · obtain rfl : kd2 = "slot" := by
        refine Classical.byContradiction fun q => ?_
        exact (by decide +kernel : ∀ z ∈ k7, z ≠ "slot" → ("copy" : Str) ∉ wordsOf z) _ hkd q h
      have hd3 : CtOk (nm, "slot", ps) d2 := by
        cases hd2
        · exact .slot0
        · exact .slot _
        · exact .slotS ‹IsWord _›
      exact ⟨_, _, _, .none, A.aCopy, .cons (g1 (by decide +kernel) (by decide +kernel)) (.cons (.name (by decide +kernel) (by decide +kernel) hwn2) .nil), .cons (c1 (by decide +kernel)) (.cons (.kind (by decide +kernel) lk2) .nil), ⟨nm, nm2, d2, rfl, f2, rfl, rfl⟩, rfl, put1 hd3 (by decide +kernel) rfl rfl rfl (by decide +kernel)⟩
  | one h h1 h2 h3 h4 h5 =>
    simp only [k7, List.mem_cons, List.not_mem_nil, or_false] at hkd
    rcases hkd with rfl | rfl | rfl | rfl | rfl | rfl | rfl
    · have h : word ∈ (["take", "skip", "drain", "fetch", "bind", "spy"] : List Str) := h
      simp only [List.mem_cons, List.not_mem_nil, or_false] at h
      obtain ⟨f, t, len, rfl⟩ : ∃ f t len, d0 = triple f t len := by cases hd0; exact ⟨_, _, _, rfl⟩
      rcases h with rfl | rfl | rfl | rfl | rfl | rfl
      · by_cases hq : t = len
        · exact ⟨_, _, W, .none, A.aTake, .cons (g1 (by decide +kernel) (by decide +kernel)) .nil, .cons (c1 (by decide +kernel)) .nil, ⟨hc.feeds, by omega, nm, f, t, len, rfl, e0, fun _ => ⟨rfl, rfl⟩, fun q => absurd hq q⟩, rfl, .refl hc hf⟩
        · exact ⟨_, _, { W with cs := tkU W.th f (t + 1) len W.cs }, _, A.aTake, .cons (g1 (by decide +kernel) (by decide +kernel)) .nil, .cons (c1 (by decide +kernel)) .nil, ⟨hc.feeds, by omega, nm, f, t, len, rfl, e0, fun q => absurd q hq, fun _ => ⟨rfl, rfl⟩⟩, rfl, After.until hc hf hn he rfl e0 (by decide +kernel) (by decide +kernel)⟩
      · by_cases hq : t = len
        · exact ⟨_, _, W, .none, A.aSkip, .cons (g1 (by decide +kernel) (by decide +kernel)) .nil, .cons (c1 (by decide +kernel)) .nil, ⟨rfl, .none, hc.feeds, by omega, nm, f, t, len, rfl, e0, fun _ => ⟨rfl, rfl⟩, fun q => absurd hq q⟩, rfl, .refl hc hf⟩
        · exact ⟨_, _, { W with cs := tkU W.th f (t + 1) len W.cs }, _, A.aSkip, .cons (g1 (by decide +kernel) (by decide +kernel)) .nil, .cons (c1 (by decide +kernel)) .nil, ⟨rfl, _, hc.feeds, by omega, nm, f, t, len, rfl, e0, fun q => absurd q hq, fun _ => ⟨rfl, rfl⟩⟩, rfl, After.until hc hf hn he rfl e0 (by decide +kernel) (by decide +kernel)⟩
      · exact ⟨_, _, _, .none, A.aDrain, .cons (g1 (by decide +kernel) (by decide +kernel)) .nil, .cons (c1 (by decide +kernel)) .nil, ⟨hc.feeds, by omega, nm, f, t, len, rfl, e0, rfl, rfl⟩, rfl, After.until hc hf hn he rfl e0 (by decide +kernel) (by decide +kernel)⟩
      · exact absurd rfl h3
      · exact absurd (by decide +kernel) h2
      · exact spy
    · have h : word ∈ (["size", "keys", "load", "wipe", "spy", "get", "peek", "has", "put", "fill", "drop"] : List Str) := h
      simp only [List.mem_cons, List.not_mem_nil, or_false] at h
      obtain ⟨hks, hkn, hkl⟩ : (∀ x ∈ ps, IsWord x) ∧ ps.Nodup ∧ ps.length ≤ 4 := by
        cases hok with
        | one hq _ => exact absurd hq (by decide +kernel)
        | table _ a b c => exact ⟨a, b, c⟩
      obtain ⟨es, rfl, hes⟩ : ∃ es, d0 = TbD es ∧ EsOk ps es := by
        cases hd0 with
        | @table _ _ es hes => exact ⟨es, rfl, hes⟩
      have tb := hes.tab hkl
      rcases h with rfl | rfl | rfl | rfl | rfl | rfl | rfl | rfl | rfl | rfl | rfl
      · exact ⟨_, _, W, _, A.aSize, .cons (g1 (by decide +kernel) (by decide +kernel)) .nil, .cons (c1 (by decide +kernel)) .nil, ⟨nm, es, rfl, e0, tb, rfl, rfl⟩, rfl, .refl hc hf⟩
      · exact ⟨_, _, W, _, A.aKeys, .cons (g1 (by decide +kernel) (by decide +kernel)) .nil, .cons (c1 (by decide +kernel)) .nil, ⟨nm, es, rfl, e0, tb, rfl, rfl⟩, rfl, .refl hc hf⟩
      · exact absurd rfl h4
      · exact ⟨_, _, _, _, A.aWipe, .cons (g1 (by decide +kernel) (by decide +kernel)) .nil, .cons (c1 (by decide +kernel)) .nil, ⟨nm, rfl, rfl, rfl⟩, rfl, put1 (.table .nil) (by decide +kernel) rfl rfl rfl (by decide +kernel)⟩
      · exact spy
      · exact absurd (by decide +kernel) h1
      · exact absurd (by decide +kernel) h1
      · exact absurd (by decide +kernel) h1
      · exact absurd (by decide +kernel) h1
      · exact absurd (by decide +kernel) h1
      · exact absurd (by decide +kernel) h1
    · have h : word ∈ (["roll", "seed", "spy"] : List Str) := h
      simp only [List.mem_cons, List.not_mem_nil, or_false] at h
      obtain ⟨a, b, rfl⟩ : ∃ a b, d0 = pair a b := by cases hd0; exact ⟨_, _, rfl⟩
      rcases h with rfl | rfl | rfl
      · exact ⟨_, _, _, _, A.aRoll, .cons (g1 (by decide +kernel) (by decide +kernel)) .nil, .cons (c1 (by decide +kernel)) .nil, ⟨nm, a, b, rfl, e0, rfl, rfl⟩, rfl, put1 (.dice _ _) (by decide +kernel) rfl rfl rfl (by decide +kernel)⟩
      · exact ⟨_, _, _, _, A.aSeed, .cons (g1 (by decide +kernel) (by decide +kernel)) .nil, .cons (c1 (by decide +kernel)) .nil, ⟨nm, rfl, rfl, rfl⟩, rfl, put1 (.dice _ _) (by decide +kernel) rfl rfl rfl (by decide +kernel)⟩
      · exact spy
    · have h : word ∈ (["change", "spy"] : List Str) := h
      simp only [List.mem_cons, List.not_mem_nil, or_false] at h
      rcases h with rfl | rfl
      · exact ⟨_, _, _, _, A.aChange, .cons (g1 (by decide +kernel) (by decide +kernel)) .nil, .cons (c1 (by decide +kernel)) .nil, ⟨nm, rfl, rfl, rfl⟩, rfl, put1 (.source _) (by decide +kernel) rfl rfl rfl (by decide +kernel)⟩
      · exact spy
    · have h : word ∈ (["look", "glance", "renew", "spy"] : List Str) := h
      simp only [List.mem_cons, List.not_mem_nil, or_false] at h
      rcases h with rfl | rfl | rfl | rfl
      · obtain ⟨cs', z, l1, l2⟩ := look_all hn ok.ff 8 i (nm, "field", ps) W.cs hi8 ei (.inr rfl) hc
        exact ⟨_, _, { W with cs := cs' }, _, A.aLook, .cons (g1 (by decide +kernel) (by decide +kernel)) .nil, .cons (c1 (by decide +kernel)) .nil, ⟨nm, cs', rfl, l1, rfl⟩, rfl, After.look l2 hf hc l1⟩
      · exact ⟨_, _, W, _, A.aGlance, .cons (g1 (by decide +kernel) (by decide +kernel)) .nil, .cons (c1 (by decide +kernel)) .nil, ⟨nm, rfl, e0, rfl⟩, rfl, .refl hc hf⟩
      · exact ⟨_, _, _, _, A.aRenew, .cons (g1 (by decide +kernel) (by decide +kernel)) .nil, .cons (c1 (by decide +kernel)) .nil, ⟨nm, rfl, rfl, rfl⟩, rfl, put1 .field0 (by decide +kernel) rfl rfl rfl (by decide +kernel)⟩
      · exact spy
    · have h : word ∈ (["lift", "read", "watch", "spy"] : List Str) := h
      simp only [List.mem_cons, List.not_mem_nil, or_false] at h
      obtain ⟨bb, rfl⟩ : ∃ bb, d0 = .bool bb := by cases hd0; exact ⟨_, rfl⟩
      rcases h with rfl | rfl | rfl | rfl
      · exact ⟨_, _, _, _, A.aLift, .cons (g1 (by decide +kernel) (by decide +kernel)) .nil, .cons (c1 (by decide +kernel)) .nil, ⟨nm, rfl, rfl, rfl⟩, rfl, put1 (.flag _) (by decide +kernel) rfl rfl rfl (by decide +kernel)⟩
      · exact ⟨_, _, _, _, A.aRead, .cons (g1 (by decide +kernel) (by decide +kernel)) .nil, .cons (c1 (by decide +kernel)) .nil, ⟨nm, rfl, e0, rfl⟩, rfl, put1 (.flag _) (by decide +kernel) rfl rfl rfl (by decide +kernel)⟩
      · exact ⟨_, _, W, _, A.aWatch, .cons (g1 (by decide +kernel) (by decide +kernel)) .nil, .cons (c1 (by decide +kernel)) .nil, ⟨nm, rfl, e0, rfl⟩, rfl, .refl hc hf⟩
      · exact spy
    · have h : word ∈ (["keep", "copy", "tell", "bound", "mark", "spy"] : List Str) := h
      simp only [List.mem_cons, List.not_mem_nil, or_false] at h
      rcases h with rfl | rfl | rfl | rfl | rfl | rfl
      · exact ⟨_, _, _, _, A.aKeep, .cons (g1 (by decide +kernel) (by decide +kernel)) .nil, .cons (c1 (by decide +kernel)) .nil, ⟨nm, rfl, rfl, rfl⟩, rfl, put1 (.slot _) (by decide +kernel) rfl rfl rfl (by decide +kernel)⟩
      · exact absurd (by decide +kernel) h2
      · exact ⟨_, _, W, _, A.aTell, .cons (g1 (by decide +kernel) (by decide +kernel)) .nil, .cons (c1 (by decide +kernel)) .nil, ⟨nm, rfl, e0, rfl⟩, rfl, .refl hc hf⟩
      · exact ⟨_, _, W, _, A.aBound, .cons (g1 (by decide +kernel) (by decide +kernel)) .nil, .cons (c1 (by decide +kernel)) .nil, ⟨nm, _, rfl, e0, rfl, rfl⟩, rfl, .refl hc hf⟩
      · exact absurd rfl h5
      · exact spy
end
/-! ### list(d.values()), C(*xs) -/
section
open PySem PySem.Spec PyProof.Rows LiI L2
variable {X : Cx} {CX : CXT} {k : Nat} {f C : Addr} {sp : Sp} {E : XK} {x : Str} {e : Expr} {te : TE} {p apos cpos pos ep : Pos}
structure rValsL (x : V) (H : Hp) (Q : VK) : Prop where
  ex : ∃ (d : Addr) (kvs : List (Key × V)), x = .ref d ∧ H d = some (.dK kvs) ∧ ∀ p, H p = none → Q (.ref p) (upd H p (.lst (kvs.map (·.2))))
def tListVals (te : TE) : TE := fun σ H Q => te σ H fun x H1 => rValsL x H1 Q
theorem kv_vals {kvs : List (Key × V)} {vs : List (Key × Value)} (h : KV kvs vs) : Vals (kvs.map (·.2)) (vs.map (·.2)) := by
  induction h with
  | nil => exact .nil
  | cons a t ih => exact .cons a.2 ih
/-- list(e.values()) -/
theorem pe_listVals (hc : X.calm = true) (he : PE X e te) (hg : Gl X "list") (hm : X.mg "list" = none) (hv : bootBuiltins "list" = some (.type "list")) (hbase : attributeBase e "values" X.env (eval e X.env) = eval e X.env := by rfl) (hline : (apos.endLine == cpos.line) = true := by rfl)
    (hs : starEach [.Call (.Attribute e "values" apos) [] [] cpos] X.env = (false, eval (.Call (.Attribute e "values" apos) [] [] cpos) X.env) :: starEach [] X.env := by rfl) :
    PE X (.Call (.Name "list" p) [.Call (.Attribute e "values" apos) [] [] cpos] [] pos) (tListVals te) := by
  refine ⟨fun pins s σ H Q I hq => ?_⟩
  refine wpAny_Call_Name_kw (ld_blt I hg hm hv ?_)
  refine PyProof.Rows.callWith_type1 ?_ hs rfl
  rw [hs]
  show wpAny _ _ (spliced ((false, eval (.Call (.Attribute e "values" apos) [] [] cpos) X.env) :: backTo pos (starEach [] X.env))) _ _ s
  refine Calls.spliced_cons ?_
  refine wpAny_Call_method (T := "dict") (id := "dict.values") hbase rfl hline PySem.F.plainAttrs_dict PySem.F.slot_dict_values PySem.F.type_dict_values (thn (he.run pins s σ H _ I hq) fun u s1 ⟨x, H1, I1, rx, ⟨d, kvs, ex, hd, q⟩⟩ => ?_)
  subst ex
  obtain rfl : u = Value.ref d := rx
  obtain ⟨hz, hs0, vs, kv, hdo⟩ := I1.hok d _ hd
  obtain ⟨ep, hat⟩ := hdo.dictAt
  have lk : kvs.length = vs.length := Paired.length kv
  have I2 : Inv X pins σ H1 { s1 with heap := s1.heap.push { cls := .type "dict_values", data := .fields #[.ref d] } } := I1.kept (t' := s1.toks) fun b ob q => Heap.get?_push_of_some _ q
  refine ⟨hdo.typeIs, hdo.mapOf.noDict, ?_⟩
  show wpAny _ _ (callWith cpos (.builtin "dict.values") [.ref d] [] []) _ X.xe s1
  refine method_meetsIn PySem.F.slot_dict_values PySem.F.entry_dict_values rfl (PySem.evalArgs_none ⟨rfl, hdo.typeIs, PySem.F.args_dict_values_1 _, _, meets_dict_values (mixKind X.prog X.w) d hs0, ⟨vs, hdo⟩, ?_⟩)
  refine Calls.spliced_nil ?_
  refine PySem.W.kdl_call (PySem.W.kdl_values (knd := mixKind X.prog X.w) (kvs := vs) (ep := ep)) (I1.ok.hd hc) ⟨⟨_, Heap.get?_push_size _ rfl, rfl, rfl⟩, hat.push _⟩ (by omega) fun h' tk acc' c' hk hl hacc => ?_
  have hvs : acc'.toList = vs.map (·.2) := PySem.W.kdl_vals_eq acc'.toList (by rw [Array.length_toList]; exact hacc.1) fun j v e => hacc.2 j v (by rw [← Array.getElem?_toList]; exact e)
  exact ⟨.ref _, upd H1 (s1.heap.push { cls := .type "dict_values", data := .fields #[.ref d] }).objs.size (.lst (kvs.map (·.2))), I2.laid (t' := tk) (fun b o e => hk b o e) (Nat.le_refl _)
    (show ObjOk X.prog X.w _ _ _ (.lst (kvs.map (·.2))) from ⟨by rw [List.length_map]; exact hz, vs.map (·.2), c', kv_vals kv, by rw [← hvs, Array.toArray_toList]; exact hl⟩), rfl, q _ (I2.hok.fresh (Nat.le_refl _))⟩
def tMakeStar (K : PySem.W.Frag) (C : Addr) (sp : Sp) (E : XK) (te : TE) : TE := fun σ H Q => te σ H fun y H1 => ∃ a xs, y = V.ref a ∧ (SqT K H1 a xs ∨ SqL K H1 a xs) ∧ ∀ x dx, H1 x = none → H1 dx = none → dx ≠ x →
  sp (V.ref x :: xs) (upd (upd H1 dx (.own x)) x (.ins C dx [])) (fun v H2 => v = .non ∧ Q (.ref x) H2) E
/-- C(*xs) -/
theorem pe_makeStar (M : Mk X.K C f) (F : FnR X.prog X.w X.K X.mg X.base CX k f sp) (hr : Room (k + 1) X.A) (hg : Gl X x) (hm : X.mg x = some (.ref C)) (hx : Passes CX X E) (he : PE X e te) (hdb : (x == ("__debug__" : Str)) = false := by decide)
    (hst : starEach [.Starred e ep] X.env = [(true, eval e X.env)] := by rfl) : PE X (.Call (.Name x p) [.Starred e ep] [] pos) (tMakeStar X.K C sp E te) := by
  refine ⟨fun pins s σ H Q I h => ?_⟩
  refine wpAny_Call_Name_kw (ld_glob I hg hm ?_ hdb)
  refine PySem.W.callWith_S (h₀ := X.base) I.ok.mod.kin M.kp (thn (he.run pins s σ H _ I h) fun v s1 ⟨y, H1, I1, ry, a, xs, ey, hxs, q⟩ => ?_) hst
  subst ey
  obtain rfl : v = Value.ref a := ry
  exact StX.star_any I1 hxs fun us s2 I2 rv => ⟨I2.kIn, StX.run_makeR M F hr hx I2 rv q⟩
end
/-! ### a state made of a list; copies -/
theorem seqL_mask {K : PySem.W.Frag} {H : Hp} {l : List Addr} {a : Addr} {xs : List V} (h : SqL K H a xs) (n : ∀ b ∈ l, ¬ Rd H b (.lst xs)) : SqL K (mask l H) a xs := by
  rcases h with h | h
  · have na : a ∉ l := fun m => n a m h
    refine .inl ?_
    rcases h with h | ⟨o, h⟩
    · exact .inl (by rw [mask_out na]; exact h)
    · exact .inr ⟨o, by rw [mask_out na]; exact h⟩
  · exact .inr h
theorem rd_insL {H : Hp} {s C dx : Addr} {fs : List (Str × V)} {xs : List V} (hs : H s = some (.ins C dx fs)) : ¬ Rd H s (.lst xs) := by
  rintro (h | ⟨o, h⟩) <;> rw [hs] at h <;> cases h
/-- a dict comprehension over a walk: what stands (S) at each turn -/
theorem dc_walk {J : It} {n : Nat} {G : Hp → Prop} {Y : Nat → Hp → V → Hp → Prop} (wk : Walk J n G Y) {g : TG} {tt : TT} {tk tv : TE} {ws : List Nat} {τ : L2.St} {M : Hp} {p : Addr} {F : Hp → Prop} (S : Nat → Hp → Prop) (start : S 0 (upd M p (.dK []))) (still : ∀ j M', j ≤ n → S j M' → G M')
    (turn : ∀ j y M0 M', j < n → S j M0 → Y j M0 y M' → g y (wipe τ ws) M' fun τ2 M2 => wipe τ2 ws = wipe τ ws ∧ tt τ2 M2 fun c M3 =>
      if c = true then tk τ2 M3 fun u M4 => tv τ2 M4 fun v M5 => ∃ es q, u = kV q ∧ M5 p = some (.dK es) ∧ es.length < sizeLine ∧ S (j + 1) (upd M5 p (.dK (putK es q v))) else S (j + 1) M3) (fin : ∀ M', S n M' → F M') :
    ∃ W : Nat → Nat → Hp → Prop, (∃ m, W 0 m (upd M p (.dK []))) ∧ ∀ j m M', W j m M' →
      (J.stop j M' ∧ F M') ∨ (J.go j M' ∧ ∃ N : Hp → Prop, (∀ M2, N M2 → ∃ m', m' < m ∧ W (j + 1) m' M2) ∧ ∀ y M2, J.yld j M' y M2 → g y (wipe τ ws) M2 fun τ2 M3 => wipe τ2 ws = wipe τ ws ∧ tt τ2 M3 fun c M4 =>
        if c = true then tk τ2 M4 fun u M5 => tv τ2 M5 fun v M6 => ∃ es q, u = kV q ∧ M6 p = some (.dK es) ∧ es.length < sizeLine ∧ N (upd M6 p (.dK (putK es q v))) else N M4) := by
  refine ⟨fun j m M' => m + j = n ∧ S j M', ⟨n, rfl, start⟩, fun j m M' ⟨e, s⟩ => ?_⟩
  have st := still j M' (by omega) s
  cases m with
  | zero =>
    obtain rfl : j = n := by omega
    exact .inl ⟨wk.stops M' st, fin M' s⟩
  | succ m => exact .inr ⟨wk.goes j M' (by omega) st, S (j + 1), fun M2 s2 => ⟨m, by omega, by omega, s2⟩, fun y M2 hy => turn j y M' M2 (by omega) s (wk.yields j M' y M2 (by omega) st hy)⟩
theorem dc_listQ {K : PySem.W.Frag} {a : Addr} {xs : List V} {g : TG} {tt : TT} {tk tv : TE} {ws : List Nat} {τ : L2.St} {M : Hp} {p : Addr} {F : Hp → Prop} (S : Nat → Hp → Prop) (start : S 0 (upd M p (.dK []))) (still : ∀ j M', j ≤ xs.length → S j M' → SqL K M' a xs)
    (turn : ∀ j y M', xs[j]? = some y → S j M' → g y (wipe τ ws) M' fun τ2 M2 => wipe τ2 ws = wipe τ ws ∧ tt τ2 M2 fun c M3 =>
      if c = true then tk τ2 M3 fun u M4 => tv τ2 M4 fun v M5 => ∃ es q, u = kV q ∧ M5 p = some (.dK es) ∧ es.length < sizeLine ∧ S (j + 1) (upd M5 p (.dK (putK es q v))) else S (j + 1) M3) (fin : ∀ M', S xs.length M' → F M') :
    ∃ W : Nat → Nat → Hp → Prop, (∃ m, W 0 m (upd M p (.dK []))) ∧ ∀ j m M', W j m M' →
      ((Itl K a).stop j M' ∧ F M') ∨ ((Itl K a).go j M' ∧ ∃ N : Hp → Prop, (∀ M2, N M2 → ∃ m', m' < m ∧ W (j + 1) m' M2) ∧ ∀ y M2, (Itl K a).yld j M' y M2 → g y (wipe τ ws) M2 fun τ2 M3 => wipe τ2 ws = wipe τ ws ∧ tt τ2 M3 fun c M4 =>
        if c = true then tk τ2 M4 fun u M5 => tv τ2 M5 fun v M6 => ∃ es q, u = kV q ∧ M6 p = some (.dK es) ∧ es.length < sizeLine ∧ N (upd M6 p (.dK (putK es q v))) else N M4) :=
  dc_walk (walk_list (K := K) (a := a) (xs := xs)) S start still (fun j y M0 M' _ s e => by
    obtain ⟨rfl, e⟩ := e
    exact turn j y _ e s) fin
theorem Same.seqL {K : PySem.W.Frag} {H H' : Hp} {a : Addr} {xs : List V} (e : Same H H') (h : SqL K H a xs) : SqL K H' a xs := e.seq h
def spSInitL (K : PySem.W.Frag) (C CS : Addr) : Sp := fun vs H Q _ => ∃ (s ds t : Addr) (tl : List (Str × V)) (th : Ths), vs = [.ref s, .ref t] ∧ H s = some (.ins CS ds []) ∧ SqL K H t (tl.map (·.2)) ∧ ThL K H C tl th ∧ (names th).Nodup ∧ th.length ≤ 100 ∧ (∀ t ∈ th, t.2.1 ∈ kindsS) ∧
  ∀ (H' : Hp) (bn ct : Addr) (l : List (Str × V)), (∀ b o, b ≠ s → H b = some o → H' b = some o) → H bn = none → H ct = none → bn ≠ ct → H' s = some (.ins CS ds (stF bn ct 0 0 0)) → H' bn = some (.dK (kvs tl)) → H' ct = some (.dK (kvs l)) → (∀ M, CsR K M l (firsts th)) → Q .non H'
section
variable {P : Program} {w : World} {K : PySem.W.Frag} {mg : Str → Option Value} {base : Heap}
theorem ok_sinitL {f C CS dA : Addr} {fd : FuncData} {k : Nat} (F : Fun K "__init__" "State.__init__" (st 0) f fd) (T : ThIn K mg C) (S : StIn K mg CS) (mA : mg "AT_FIRST" = some (.ref dA)) (G : FirstK K w dA) : FnOk P w K mg base CX0 (k + 1) f fd ["self", "things"] (spSInitL K C CS) := by
  refine F.ok scSI (fun vs H Q E h => ?_) (fun cdv A outer s0 H vs Q E hr h => ?_)
  · obtain ⟨s, ds, t, tl, th, rfl, _⟩ := h
    rfl
  · obtain ⟨s, ds, t, tl, th, rfl, hs, ht, hth, hnd, hl, hk, kk⟩ := h
    refine ⟨_, pss_cons (ps_fld (pv 0) (pe_dc (own := [("thing", 2)]) (g := gName 2) (tt := tYes) (tk := tFld K (tVar 2) "name") (tv := tVar 2) rfl scSI.nd (pi_list (pv 1)) (blkOk_by (N := ["self", "things", "thing"]) (sc := defScope (st 0)) (by decide +kernel))
          (fun _ _ _ _ _ => pg_name (i := 2) scSI.nd rfl (.inl rfl)) (fun _ _ _ _ _ => pts_nil) (fun _ _ _ _ _ => pe_fld (pv 2) rfl) (fun _ _ _ _ _ => pv 2)) rfl)
      (pss_cons (ps_fld (pv 0) (pe_dc (own := [("thing", 2)]) (g := gName 2) (tt := tYes) (tk := tFld K (tVar 2) "name") (tv := tOp (rIxD K w) (tC (.ref dA)) (tFld K (tVar 2) "kind")) rfl scSI.nd (pi_list (pv 1)) (blkOk_by (N := ["self", "things", "thing"]) (sc := defScope (st 0)) (by decide +kernel))
          (fun _ _ _ _ _ => pg_name (i := 2) scSI.nd rfl (.inl rfl)) (fun _ _ _ _ _ => pts_nil) (fun _ _ _ _ _ => pe_fld (pv 2) rfl) (fun _ _ _ _ _ => pe_ix ix_kdict (pe_glob (v := .ref dA) (by rfl) mA rfl) (pe_fld (pv 2) rfl) (fun _ _ => rfl))) rfl)
      (pss_cons (ps_fld (pv 0) pe_int rfl) (pss_cons (ps_fld (pv 0) pe_int rfl) (pss_one (ps_fld (pv 0) pe_int rfl))))), ?_⟩
    -- by_name
    have lt : (tl.map (·.2)).length = tl.length := List.length_map _
    have ltl : tl.length = th.length := hth.len
    have htn : (names tl).Nodup := by rw [hth.names]; exact hnd
    refine ⟨_, rfl, t, rfl, ⟨_, ht⟩, fun bn nbn => ?_⟩
    refine dc_listQ (K := K) (a := t) (xs := tl.map (·.2)) (fun i H2 => H2 bn = some (.dK (kvs (tl.take i))) ∧ Same H H2) ⟨upd_same, same_new nbn⟩ (fun i H2 _ hI => Same.seqL hI.2 ht) (fun i x H2 hx hI => ?_) (fun H2 hI => ?_)
    · obtain ⟨eD, s2⟩ := hI
      obtain ⟨n, kind, parts, a, rfl, e1, e2, th1⟩ := hth.get hx
      obtain ⟨dx, fs, t1, b1, b2, b3, b4, b5⟩ := th1.same s2
      have hi : i < tl.length := (List.getElem?_eq_some_iff.mp e1).1
      refine ⟨rfl, ?_⟩
      refine ⟨_, rfl, a, C, dx, fs, _, rfl, b1, T.cls, T.nn, b3, _, rfl, _, .inr n, rfl, eD, small1000 (by rw [kvs_len, List.length_take]; omega), ?_, fun b o e => ?_⟩
      · rw [upd_same, putK_kvs, put_new (nodup_take htn e1), List.take_add_one, e1]
        rfl
      · rw [upd_ne (ne_of_none e nbn)]; exact s2 b o e
    obtain ⟨eb, s2⟩ := hI
    rw [lt, List.take_length] at eb
    have hs2 := s2 _ _ hs
    refine ⟨_, rfl, s, CS, ds, [], rfl, hs2, S.cls, S.nb, by decide, ?_⟩
    have nsb : bn ≠ s := (ne_of_none hs nbn).symm
    have eb3 : (upd H2 s (.ins CS ds (putF "by_name" (.ref bn) []))) bn = some (.dK (kvs tl)) := by rw [upd_ne nsb]; exact eb
    have es3 : (upd H2 s (.ins CS ds (putF "by_name" (.ref bn) []))) s = some (.ins CS ds (putF "by_name" (.ref bn) [])) := upd_same
    have c3 : Chg [s] H (upd H2 s (.ins CS ds (putF "by_name" (.ref bn) []))) := (Chg.of_same s2).trans (.upd List.mem_cons_self)
    generalize upd H2 s (.ins CS ds (putF "by_name" (.ref bn) [])) = H3 at *
    have keep : ∀ {b : Addr} {o : HO}, b ≠ s → H b = some o → H3 b = some o := fun {b o} nb e => c3 b o (fun m => nb (List.mem_singleton.mp m)) e
    -- contents
    have htM : SqL K (mask [s] H) t (tl.map (·.2)) := seqL_mask ht fun b hb => by rw [List.mem_singleton.mp hb]; exact rd_insL hs
    have hthM := hth.maskS hs
    have ht3 : SqL K H3 t (tl.map (·.2)) := Same.seqL (c3.mask.trans (mask_sub _ _)) htM
    have hth3 : ThL K H3 C tl th := hthM.same (c3.mask.trans (mask_sub _ _))
    refine ⟨_, rfl, t, rfl, ⟨_, ht3⟩, fun ct nct => ?_⟩
    refine dc_listQ (K := K) (a := t) (xs := tl.map (·.2)) (fun i H4 => (∃ l : List (Str × V), H4 ct = some (.dK (kvs l)) ∧ names l = names (th.take i) ∧ ∀ M, CsR K M l (firsts (th.take i))) ∧ Same H3 H4) ⟨⟨[], upd_same, rfl, fun M => .nil⟩, same_new nct⟩ (fun i H4 _ hI => Same.seqL hI.2 ht3) (fun i x H4 hx hI => ?_) (fun H4 hI => ?_)
    · obtain ⟨⟨l, eD, en, hl3⟩, s4⟩ := hI
      obtain ⟨n, kind, parts, a, rfl, e1, e2, th1⟩ := hth3.get hx
      obtain ⟨dx, fs, t1, b1, b2, b3, b4, b5⟩ := th1.same s4
      have hi : i < th.length := (List.getElem?_eq_some_iff.mp e2).1
      obtain ⟨v, hv, hd⟩ := G.at_ kind (hk _ (List.mem_of_getElem? e2))
      have ll : l.length ≤ 100 := by
        have := congrArg List.length en
        simp only [names, List.length_map, List.length_take] at this
        omega
      refine ⟨rfl, ?_⟩
      refine ⟨_, rfl, a, C, dx, fs, _, rfl, b1, T.cls, T.nn, b3, ?_⟩
      refine ⟨_, rfl, a, C, dx, fs, _, rfl, b1, T.cls, T.nk, b2, dA, kind, v, rfl, rfl, hv, ?_⟩
      refine ⟨_, .inr n, rfl, eD, small1000 (by rw [kvs_len]; omega), ⟨l ++ [(n, v)], ?_, ?_, fun M => ?_⟩, fun b o e => ?_⟩
      · rw [upd_same, putK_kvs, put_new (by rw [en]; exact nodup_take hnd e2)]
      · rw [List.take_add_one, e2]
        show List.map _ _ = List.map _ _
        rw [List.map_append, List.map_append, show List.map (fun x => x.1) l = names l from rfl, en]
        rfl
      · rw [List.take_add_one, e2]
        show CsR K M _ (List.map _ _)
        rw [List.map_append]
        exact (hl3 M).app (.cons (hd M) .nil)
      · rw [upd_ne (ne_of_none e nct)]; exact s4 b o e
    obtain ⟨⟨l, ec, en, hl3⟩, s4⟩ := hI
    rw [show (tl.map (·.2)).length = th.length by rw [lt, ltl], List.take_length] at hl3
    have es4 := s4 _ _ es3
    have ncs : ct ≠ s := (ne_of_none es3 nct).symm
    have nbc : bn ≠ ct := ne_of_none eb3 nct
    have nctH : H ct = none := c3.free nct fun m => ncs (List.mem_singleton.mp m)
    refine ⟨_, rfl, s, CS, ds, _, rfl, es4, S.cls, S.nc, by show 1 < 1000; decide, ?_⟩
    refine ⟨_, rfl, s, CS, ds, _, rfl, upd_same, S.cls, S.nf, by show 2 < 1000; decide, ?_⟩
    refine ⟨_, rfl, s, CS, ds, _, rfl, upd_same, S.cls, S.ns, by show 3 < 1000; decide, ?_⟩
    refine ⟨_, rfl, s, CS, ds, _, rfl, upd_same, S.cls, S.nr, by show 4 < 1000; decide, ?_⟩
    refine kk _ bn ct l (fun b o nb e => ?_) nbn nctH nbc ?_ ?_ ?_ hl3
    · rw [upd_ne nb, upd_ne nb, upd_ne nb, upd_ne nb]
      exact s4 _ _ (keep nb e)
    · rw [upd_same, stF_made]
    · rw [upd_ne nsb, upd_ne nsb, upd_ne nsb, upd_ne nsb]
      exact s4 _ _ eb3
    · rw [upd_ne ncs, upd_ne ncs, upd_ne ncs, upd_ne ncs]
      exact ec
end
/-! ### copies of a state, of a world -/
theorem kvs_vals (l : List (Str × V)) : (kvs l).map (·.2) = l.map (·.2) := by
  unfold kvs
  rw [List.map_map]; rfl
theorem ThL.len' {K : PySem.W.Frag} {H : Hp} {C : Addr} {l : List (Str × V)} {th : Ths} (h : ThL K H C l th) : l.length = th.length := h.len
def spSDup (K : PySem.W.Frag) (C CS : Addr) : Sp := fun vs H Q _ => ∃ (L : List Addr) (s ct : Addr) (W : Ws), vs = [.ref s] ∧ StAt K L H C CS s ct W ∧ Alive L H ∧ (names W.th).Nodup ∧ W.th.length ≤ 8 ∧ (∀ t ∈ W.th, t.2.1 ∈ kindsS) ∧
  ∀ s' ct' H', Same H H' → H s' = none → H ct' = none → StAt K (s' :: ct' :: L) H' C CS s' ct' W → Q (.ref s') H'
theorem same_off {H : Hp} {a : Addr} {o : HO} {H0 : Hp} (h : Same H0 H) (n : H0 a = none) : Same H0 (upd H a o) := fun b u e => by
  rw [upd_ne (ne_of_none e n)]; exact h b u e
section
variable {P : Program} {w : World} {K : PySem.W.Frag} {mg : Str → Option Value} {base : Heap}
theorem scSD : FnScope ["self", "twin"] ["self"] (defScope (st 2)) := ⟨rfl, rfl, rfl, by decide +kernel, rfl, by decide +kernel, by decide +kernel⟩
theorem ok_sdup {f fS C CS : Addr} {fd fdS : FuncData} (F : Fun K "duplicate" "State.duplicate" (st 2) f fd) (B : Bts mg) (mDi : mg "dict" = none) (S : StIn K mg CS) (MS : Mk K CS fS) (GS : FnOk P w K mg base CX0 2 fS fdS ["self", "things"] (spSInitL K C CS)) (bS : Binds K fdS ["self", "things"] []) : FnOk P w K mg base CX0 4 f fd ["self"] (spSDup K C CS) := by
  refine F.ok scSD (fun vs H Q E h => ?_) (fun cdv A outer s0 H vs Q E hr h => ?_)
  · obtain ⟨L, s, ct, W, rfl, _⟩ := h
    rfl
  · obtain ⟨L, s, ct, W, rfl, hS, al, hnd, hl8, hk, kk⟩ := h
    have hr3 : Room 3 _ := hr
    refine ⟨_, pss_cons (ps_set (i := 1) scSD.nd rfl (.inl rfl) (pe_make MS GS hr (by rfl) S.m bS .nil pass0 (pa_cons (pe_listVals rfl (pe_fld (pv 0) rfl) (by rfl) B.list (by decide +kernel)) pa_nil)))
      (pss_cons (ps_fld (pv 1) (pe_callTy call_dictD (by rfl) mDi (by decide +kernel) (pa_cons (pe_fld (pv 0) rfl) pa_nil)) rfl)
      (pss_cons (ps_fld (pv 1) (pe_fld (pv 0) rfl) rfl)
      (pss_cons (ps_fld (pv 1) (pe_fld (pv 0) rfl) rfl)
      (pss_cons (ps_fld (pv 1) (pe_fld (pv 0) rfl) rfl)
      (pss_one (ps_ret (pv 1))))))), ?_⟩
    obtain ⟨sL, cL, ds, bn, tl, l, h1, h2, h3, h4, h5⟩ := hS
    have bnL : bn ∉ L := fun m => by rw [mask_in m] at h2; cases h2
    have hbn : H bn = some (.dK (kvs tl)) := mask_sub _ _ _ _ h2
    have nsc : s ≠ ct := fun q => by rw [q, h4] at h1; cases h1
    refine ⟨.ref s, rfl, s, CS, ds, _, _, rfl, h1, S.cls, S.nb, stF_bn .., bn, _, rfl, hbn, fun vl nvl => ?_⟩
    rw [kvs_vals]
    have s1 := same_new (o := .lst (tl.map (·.2))) nvl
    have evl : (upd H vl (.lst (tl.map (·.2)))) vl = some (.lst (tl.map (·.2))) := upd_same
    have al1 := al.same s1
    have vlL := al.not nvl
    generalize upd H vl (.lst (tl.map (·.2))) = H1 at *
    refine fun x dx nx ndx nxd => ?_
    have s2 : Same H1 (upd (upd H1 dx (.own x)) x (.ins CS dx [])) := fun b o e => by
      rw [upd_ne (ne_of_none e nx), upd_ne (ne_of_none e ndx)]; exact e
    have s02 := s1.trans s2
    have hth2 : ThL K (upd (upd H1 dx (.own x)) x (.ins CS dx [])) C tl W.th := (h3.same (mask_sub _ _)).same s02
    refine ⟨x, dx, vl, tl, W.th, rfl, upd_same, SqL.of (s2 _ _ evl), hth2, hnd, by omega, hk, fun H3 bn3 ct3 l3 k3 nbn3 nct3 nbc3 e3s e3b e3c hcs3 => ⟨rfl, ?_⟩⟩
    generalize he2 : upd (upd H1 dx (.own x)) x (.ins CS dx []) = H2 at *
    have keep3 : ∀ b o, H b = some o → H3 b = some o := fun b o e => k3 b o (ne_of_none (s1 _ _ e) nx) (s02 b o e)
    have s03 : Same H H3 := keep3
    have nxH : H x = none := by
      cases e : H x with
      | none => rfl
      | some o => rw [s1 _ _ e] at nx; cases nx
    -- contents
    refine ⟨_, rfl, s, CS, ds, _, _, rfl, s03 _ _ h1, S.cls, S.nc, stF_ct .., ct, _, rfl, .inl (s03 _ _ h4), fun c nc => ?_⟩
    have s4 := same_new (o := .dK (kvs l)) nc
    have ec : (upd H3 c (.dK (kvs l))) c = some (.dK (kvs l)) := upd_same
    have s04 := s03.trans s4
    have e4s := s4 _ _ e3s
    have e4b := s4 _ _ e3b
    have ncx : c ≠ x := (ne_of_none e3s nc).symm
    have ncb : c ≠ bn3 := (ne_of_none e3b nc).symm
    have ncH : H c = none := by
      cases e : H c with
      | none => rfl
      | some o => rw [s03 _ _ e] at nc; cases nc
    generalize upd H3 c (.dK (kvs l)) = H4 at *
    refine ⟨_, rfl, x, CS, dx, _, rfl, e4s, S.cls, S.nc, by show 5 < 1000; decide, ?_⟩
    have s05 : Same H (upd H4 x (.ins CS dx (stF bn3 c 0 0 0))) := same_off s04 nxH
    refine ⟨_, rfl, s, CS, ds, _, _, rfl, s05 _ _ h1, S.cls, S.nf, stF_f .., _, rfl, x, CS, dx, _, rfl, upd_same, S.cls, S.nf, by show 5 < 1000; decide, ?_⟩
    have s06 : Same H (upd (upd H4 x (.ins CS dx (stF bn3 c 0 0 0))) x (.ins CS dx (stF bn3 c W.ft 0 0))) := same_off s05 nxH
    refine ⟨_, rfl, s, CS, ds, _, _, rfl, s06 _ _ h1, S.cls, S.ns, stF_sd .., _, rfl, x, CS, dx, _, rfl, upd_same, S.cls, S.ns, by show 5 < 1000; decide, ?_⟩
    have s07 : Same H (upd (upd (upd H4 x (.ins CS dx (stF bn3 c 0 0 0))) x (.ins CS dx (stF bn3 c W.ft 0 0))) x (.ins CS dx (stF bn3 c W.ft W.sd 0))) := same_off s06 nxH
    refine ⟨_, rfl, s, CS, ds, _, _, rfl, s07 _ _ h1, S.cls, S.nr, stF_sr .., _, rfl, x, CS, dx, _, rfl, upd_same, S.cls, S.nr, by show 5 < 1000; decide, ?_⟩
    have s08 : Same H (upd (upd (upd (upd H4 x (.ins CS dx (stF bn3 c 0 0 0))) x (.ins CS dx (stF bn3 c W.ft 0 0))) x (.ins CS dx (stF bn3 c W.ft W.sd 0))) x (.ins CS dx (stF bn3 c W.ft W.sd W.sr))) := same_off s07 nxH
    have oth : ∀ {b : Addr} {o : HO}, b ≠ x → H4 b = some o → (upd (upd (upd (upd H4 x (.ins CS dx (stF bn3 c 0 0 0))) x (.ins CS dx (stF bn3 c W.ft 0 0))) x (.ins CS dx (stF bn3 c W.ft W.sd 0))) x (.ins CS dx (stF bn3 c W.ft W.sd W.sr))) b = some o := fun {b o} nb e => by
      rw [upd_ne nb, upd_ne nb, upd_ne nb, upd_ne nb]; exact e
    have hx9 : (upd (upd (upd (upd H4 x (.ins CS dx (stF bn3 c 0 0 0))) x (.ins CS dx (stF bn3 c W.ft 0 0))) x (.ins CS dx (stF bn3 c W.ft W.sd 0))) x (.ins CS dx (stF bn3 c W.ft W.sd W.sr))) x = some (.ins CS dx (stF bn3 c W.ft W.sd W.sr)) := upd_same
    refine ⟨.ref x, rfl, ?_⟩
    have nbx : bn3 ≠ x := fun q => by rw [q, e3s] at e3b; cases e3b
    have nbn3H : H bn3 = none := by
      cases e : H bn3 with
      | none => rfl
      | some o => rw [s02 _ _ e] at nbn3; cases nbn3
    have bn3L : bn3 ∉ x :: c :: L := fun m => by
      rcases List.mem_cons.mp m with q | m
      · exact nbx q
      · rcases List.mem_cons.mp m with q | m
        · exact ncb q.symm
        · exact al.not nbn3H m
    have ext : ∀ {H' : Hp}, Same H H' → Same (mask L H) (mask (x :: c :: L) H') := fun {H'} sm a o e => by
      have ea := mask_sub _ _ _ _ e
      have naL : a ∉ L := fun m => by rw [mask_in m] at e; cases e
      rw [mask_out fun m => by
        rcases List.mem_cons.mp m with q | m
        · exact ne_of_none ea nxH q
        · rcases List.mem_cons.mp m with q | m
          · exact ne_of_none ea ncH q
          · exact naL m]
      exact sm _ _ ea
    exact kk x c _ s08 nxH ncH ⟨List.mem_cons_self, List.mem_cons_of_mem _ List.mem_cons_self, dx, bn3, tl, l, hx9, by rw [mask_out bn3L]; exact oth nbx e4b, h3.same (ext s08), oth ncx ec, h5.same (ext s08)⟩
end
/-! ### World.duplicate, ^ -/
def spWDup (K : PySem.W.Frag) (C CS CW : Addr) : Sp := fun vs H Q _ => ∃ (L : List Addr) (x s ct : Addr) (W : Ws) (tl : List (Str × V)), vs = [.ref x] ∧ WoAt K L H CW x s (tl.map (·.2)) ∧ StAt K L H C CS s ct W ∧ Alive L H ∧ ThL K (mask L H) C tl W.th ∧ (names W.th).Nodup ∧ W.th.length ≤ 8 ∧ (∀ t ∈ W.th, t.2.1 ∈ kindsS) ∧ FieldsOk W.th ∧
  ∀ x' s' ct' H', Same H H' → H x' = none → H s' = none → H ct' = none → WoAt K (s' :: ct' :: L) H' CW x' s' (tl.map (·.2)) → StAt K (s' :: ct' :: L) H' C CS s' ct' W → Q (.ref x') H'
theorem StAt.over {K : PySem.W.Frag} {L L' : List Addr} {H H' : Hp} {C CS s ct : Addr} {W : Ws} (h : StAt K L H C CS s ct W) (c : Same (mask L H) (mask L' H')) (sL : s ∈ L') (cL : ct ∈ L') (es : ∀ o, H s = some o → H' s = some o) (ec : ∀ o, H ct = some o → H' ct = some o) : StAt K L' H' C CS s ct W := by
  obtain ⟨_, _, ds, bn, tl, l, h1, h2, h3, h4, h5⟩ := h
  exact ⟨sL, cL, ds, bn, tl, l, es _ h1, c _ _ h2, h3.same c, ec _ h4, h5.same c⟩
theorem WoAt.over {K : PySem.W.Frag} {L L' : List Addr} {H H' : Hp} {CW x s : Addr} {tvs : List V} (h : WoAt K L H CW x s tvs) (c : Same (mask L H) (mask L' H')) : WoAt K L' H' CW x s tvs := by
  obtain ⟨dw, t, h1, h2⟩ := h
  exact ⟨dw, t, c _ _ h1, Same.seqT c h2⟩
section
variable {P : Program} {w : World} {K : PySem.W.Frag} {mg : Str → Option Value} {base : Heap}
theorem scWD : FnScope ["self", "twin"] ["self"] (defScope (wo 2)) := ⟨rfl, rfl, rfl, by decide +kernel, rfl, by decide +kernel, by decide +kernel⟩
theorem ok_wdup {f fW fD C CS CW : Addr} {fd fdD : FuncData} (F : Fun K "duplicate" "World.duplicate" (wo 2) f fd) (S : StIn K mg CS) (W : WoIn K mg CW) (MW : Mk K CW fW) (GW : FnR P w K mg base CX0 4 fW (spWInit K C CS CW)) (MD : Meth K CS "duplicate" fD) (GD : FnOk P w K mg base CX0 4 fD fdD ["self"] (spSDup K C CS)) (bD : Binds K fdD ["self"] []) : FnOk P w K mg base CX0 6 f fd ["self"] (spWDup K C CS CW) := by
  refine F.ok scWD (fun vs H Q E h => ?_) (fun cdv A outer s0 H vs Q E hr h => ?_)
  · obtain ⟨L, x, s, ct, W, tl, rfl, _⟩ := h
    rfl
  · obtain ⟨L, x, s, ct, W1, tl, rfl, hW, hS, al, hth, hnd, hl8, hk, hf, kk⟩ := h
    have hr4 : Room 4 _ := hr.mono (by decide)
    refine ⟨_, pss_cons (ps_set (i := 1) scWD.nd rfl (.inl rfl) (pe_makeStar (E := E0) MW GW hr (by rfl) W.m pass0 (pe_fld (pv 0) rfl)))
      (pss_cons (ps_fld (pv 1) (pe_meth0 (pe_fld (pv 0) rfl) S.cls MD GD hr4 bD .nil pass0) rfl)
      (pss_one (ps_ret (pv 1)))), ?_⟩
    obtain ⟨dw, t, ew, ht⟩ := hW
    have hw0 := mask_sub _ _ _ _ ew
    have xL : x ∉ L := fun m => by rw [mask_in m] at ew; cases ew
    refine ⟨_, rfl, x, CW, dw, _, _, rfl, hw0, W.cls, W.nt, woF_t .., t, _, rfl, .inl (Same.seqT (mask_sub _ _) ht), ?_⟩
    intro y dy ny ndy nyd
    have s1 : Same H (upd (upd H dy (.own y)) y (.ins CW dy [])) := fun b o e => by
      rw [upd_ne (ne_of_none e ny), upd_ne (ne_of_none e ndy)]; exact e
    have yL : y ∉ L := al.not ny
    refine ⟨y, dy, L, tl, W1.th, rfl, upd_same, yL, al.same s1, hth.same (mask_same s1), hnd, hl8, hk, hf, fun H2 s2 ct2 k2 ns2 nct2 hW2 hS2 => ⟨rfl, ?_⟩⟩
    generalize hH1 : upd (upd H dy (.own y)) y (.ins CW dy []) = H1 at *
    have s02 : Same H H2 := fun b o e => k2 b o (ne_of_none e ny) (s1 b o e)
    have fr1 : ∀ {z : Addr}, H1 z = none → H z = none := fun {z} e => by
      cases q : H z with
      | none => rfl
      | some o => rw [s1 _ _ q] at e; cases e
    have hS0 : StAt K (y :: L) H2 C CS s ct W1 := hS.over (mask_ext s02 fun z m => by
        rcases List.mem_cons.mp m with q | m
        · exact .inr (by rw [q]; exact ny)
        · exact .inl m) (List.mem_cons_of_mem _ hS.sL) (List.mem_cons_of_mem _ hS.cL) (fun o e => s02 _ _ e) fun o e => s02 _ _ e
    have hy2 : ∃ o, H2 y = some o := by
      obtain ⟨dw2, t2, ew2, _⟩ := hW2
      exact ⟨_, mask_sub _ _ _ _ ew2⟩
    have al2 : Alive (y :: L) H2 := fun z m => by
      rcases List.mem_cons.mp m with q | m
      · rw [q]; exact hy2
      · exact al.same s02 z m
    clear hy2
    obtain ⟨ds0, bn0, es0⟩ := hS0.self
    -- twin._state = self._state.duplicate()
    refine ⟨_, rfl, x, CW, dw, _, _, rfl, s02 _ _ hw0, W.cls, W.ns, woF_s .., s, ds0, _, rfl, es0, rfl, ?_⟩
    refine ⟨y :: L, s, ct, W1, rfl, hS0, al2, hnd, hl8, hk, fun s3 ct3 H3 s23 ns3 nct3 hS3 => ?_⟩
    have s03 := s02.trans s23
    obtain ⟨dw2, t2, ew2, ht2⟩ := hW2
    have hy2 := mask_sub _ _ _ _ ew2
    have hy3 := s23 _ _ hy2
    refine ⟨_, rfl, y, CW, dw2, _, rfl, hy3, W.cls, W.ns, by show 3 < 1000; decide, ?_⟩
    have e9 : putF "_state" (.ref s3) (woF t2 s2 .non) = woF t2 s3 .non := rfl
    rw [e9]
    have s04 : Same H (upd H3 y (.ins CW dw2 (woF t2 s3 .non))) := same_off s03 ny
    have fr2 : ∀ {z : Addr}, H2 z = none → H z = none := fun {z} e => by
      cases q : H z with
      | none => rfl
      | some o => rw [s02 _ _ q] at e; cases e
    have nys : y ≠ s3 := ne_of_none hy2 ns3
    have nyc : y ≠ ct3 := ne_of_none hy2 nct3
    have yL3 : y ∉ s3 :: ct3 :: L := fun m => by
      rcases List.mem_cons.mp m with q | m
      · exact nys q
      · rcases List.mem_cons.mp m with q | m
        · exact nyc q
        · exact yL m
    have mx : Same (mask (y :: s3 :: ct3 :: L) H3) (mask (s3 :: ct3 :: L) (upd H3 y (.ins CW dw2 (woF t2 s3 .non)))) := fun a o e => by
      have na : a ∉ y :: s3 :: ct3 :: L := fun m => by rw [mask_in m] at e; cases e
      rw [mask_out na] at e
      rw [mask_out fun m => na (List.mem_cons_of_mem _ m), upd_ne fun q => na (by rw [q]; exact List.mem_cons_self)]
      exact e
    have tvM : SqT K (mask (s3 :: ct3 :: L) (upd H3 y (.ins CW dw2 (woF t2 s3 .non)))) t2 (tl.map (·.2)) := by
      have hy2M : mask (s2 :: ct2 :: L) H2 y = some (.ins CW dw2 (woF t2 s2 .non)) := ew2
      have h1 : SqT K (mask [y] (mask (s2 :: ct2 :: L) H2)) t2 (tl.map (·.2)) := seqT_mask ht2 fun b hb => by rw [List.mem_singleton.mp hb]; exact rd_ins hy2M
      refine Same.seqT (fun a o e => ?_) h1
      have na : a ∉ [y] := fun m => by rw [mask_in m] at e; cases e
      rw [mask_out na] at e
      have e2 := mask_sub _ _ _ _ e
      have naL : a ∉ s2 :: ct2 :: L := fun m => by rw [mask_in m] at e; cases e
      rw [mask_out fun m => by
        rcases List.mem_cons.mp m with q | m
        · exact ne_of_none e2 ns3 q
        · rcases List.mem_cons.mp m with q | m
          · exact ne_of_none e2 nct3 q
          · exact naL (List.mem_cons_of_mem _ (List.mem_cons_of_mem _ m)), upd_ne fun q => na (by rw [q]; exact List.mem_cons_self)]
      exact s23 _ _ e2
    have n3 : y ≠ s3 := nys
    refine ⟨.ref y, rfl, kk y s3 ct3 _ s04 ny (fr2 ns3) (fr2 nct3) ⟨dw2, t2, by rw [mask_out yL3]; exact upd_same, tvM⟩ ?_⟩
    refine (hS3.upd (o := .ins CW dw2 (woF t2 s3 .non)) (List.mem_cons_of_mem _ (List.mem_cons_of_mem _ List.mem_cons_self)) nys nyc).over (mask_fewer fun z m => ?_) List.mem_cons_self (List.mem_cons_of_mem _ List.mem_cons_self) (fun _ e => e) fun _ e => e
    rcases List.mem_cons.mp m with q | m
    · rw [q]; exact List.mem_cons_self
    · rcases List.mem_cons.mp m with q | m
      · rw [q]; exact List.mem_cons_of_mem _ List.mem_cons_self
      · exact List.mem_cons_of_mem _ (List.mem_cons_of_mem _ (List.mem_cons_of_mem _ m))
end
/-! ### x ^ y by the own method -/
def rBinOwn (C : Addr) (sp : Sp) (E : XK) : R2 := fun x y H Q => ∃ a dx fs b dy gs, x = .ref a ∧ y = .ref b ∧ H a = some (.ins C dx fs) ∧ H b = some (.ins C dy gs) ∧ sp [x, y] H Q E
section
open PySem PySem.W PySem.Calls PyProof.Rows
theorem bin_same {prog : Program} {w : World} {A : Around} {E : Value → Shared → Prop} {s : Shared} {K : Frag} {x y C L f : Addr} {h₀ : Heap} {m : Str → Option Value} {ox oy : Obj} {od od' : Option Obj} {op : Operator} {Q : Value → Shared → Prop} (F : PyProof.Rows.Fr h₀ L s.heap m) (X₀ : K.In h₀) (I : InstAt s.heap x ox C od) (J : InstAt s.heap y oy C od') (hc : selfFirst K C = true)
    (hs : findIn K (.ref C) (PySem.dunder op.info.2) = some (some (.ref f))) (hf : isFn K (.ref f) = true)
    (h : wpAny (model prog w) A (call (.ref f) [.ref x, .ref y]) (PySem.W.CmpBack Q) E s) : wpAny (model prog w) A (binaryOp op (.ref x) (.ref y)) Q E s := by
  have X := X₀.keeps F.keep
  obtain ⟨cd, rest, hcd, hm⟩ := ksp_first hc
  rcases hi : op.info with ⟨sym, nm'⟩
  rw [hi] at hs
  dsimp only at hs
  have one := ksp_try X I hs hf h
  obtain ⟨hh, g, d, tt, os⟩ := s
  have L1 : Looks (model prog w) hh (typeOf (.ref x)) (.ref C) := I.type
  have L2 : Looks (model prog w) hh (typeOf (.ref y)) (.ref C) := J.type
  have L3 : Looks (model prog w) hh (fillsNumberSlot (.ref C) nm') true := fills_K X hcd hm hs
  have hne : (Value.ref C == Value.ref C) = true := by simp
  simp only [binaryOp, hi]
  refine wpAny_holding (wpAny_bind ?_)
  unfold binaryOp1
  refine wpAny_bind (L1.at (wpAny_bind (L2.at (wpAny_bind (L3.at ?_)))))
  simp only [hne, if_true]
  ksp_lk
  refine wpAny_mono one (fun r s' hr' => ?_) fun _ _ e => e
  obtain ⟨v, rfl, hq⟩ := hr'
  ksp_lk
  exact hq
end
section
variable {X : Cx} {CX : CXT} {k : Nat} {C g : Addr} {sp : Sp} {E : XK}
theorem op_binOwn {op : Operator} (hc : PySem.W.selfFirst X.K C = true) (hs : PySem.W.findIn X.K (.ref C) (PySem.dunder op.info.2) = some (some (.ref g))) (hf : PySem.W.isFn X.K (.ref g) = true) (F : FnR X.prog X.w X.K X.mg X.base CX k g sp) (hr : Room k X.A) (hx : Passes CX X E) : OpR X (binaryOp op) (rBinOwn C sp E) := by
  intro pins s σ H x y v u Q I rx ry h
  obtain ⟨a, dx, fs, b, dy, gs, rfl, rfl, ha, hb, q⟩ := h
  cases (show v = Value.ref a from rx)
  cases (show u = Value.ref b from ry)
  obtain ⟨mA, O, _⟩ := ins_get I.hok ha
  obtain ⟨mB, O', _⟩ := ins_get I.hok hb
  obtain ⟨od, J, _⟩ := O.look
  obtain ⟨od', J', _⟩ := O'.look
  obtain ⟨m, hF⟩ := I.fr
  refine bin_same hF I.ok.mod.kin J J' hc hs hf ?_
  refine wpAny_mono (wpAny_call (run_fnR (us := [.ref a, .ref b]) (vs := [.ref a, .ref b]) F hr hx I (.cons rfl (.cons rfl .nil)) q)) (fun w s' z => ?_) fun _ _ x => x
  obtain ⟨z', H', I', rz, qz⟩ := z
  exact SlX.cmpback rz ⟨z', H', I', rz, qz⟩
end
/-! ### a world ^ another -/
def gotB (cs : List (Str × PyData)) (n : Str) : PyData := (look cs n).getD .none
def neB (cs1 cs2 : List (Str × PyData)) (n : Str) : Bool := !(PyData.eqv (gotB cs1 n) (gotB cs2 n))
def unlikeOf (th : Ths) (cs1 cs2 : List (Str × PyData)) : List Str := (th.filter fun e => neB cs1 cs2 e.1).map (·.1)
theorem unlike_snoc {th : Ths} {cs1 cs2 : List (Str × PyData)} {i : Nat} {e : Tr} (h : th[i]? = some e) : unlikeOf (th.take (i + 1)) cs1 cs2 = unlikeOf (th.take i) cs1 cs2 ++ (if neB cs1 cs2 e.1 = true then [e.1] else []) := by
  unfold unlikeOf
  rw [List.take_add_one, h, List.filter_append, List.map_append]
  congr 1
  show (List.filter _ [e]).map _ = _
  rw [List.filter_cons, List.filter_nil]
  split <;> rfl
theorem unlike_len {th : Ths} {cs1 cs2 : List (Str × PyData)} {i : Nat} : (unlikeOf (th.take i) cs1 cs2).length ≤ th.length := by
  unfold unlikeOf
  rw [List.length_map]
  exact Nat.le_trans (List.length_filter_le _ _) (by rw [List.length_take]; omega)
def spXor (K : PySem.W.Frag) (C CS CW : Addr) : Sp := fun vs H Q _ => ∃ (L : List Addr) (x s ct x2 s2 ct2 : Addr) (W W2 : Ws) (tl : List (Str × V)) (tvs2 : List V), vs = [.ref x, .ref x2] ∧ WoAt K L H CW x s (tl.map (·.2)) ∧ StAt K L H C CS s ct W ∧ WoAt K L H CW x2 s2 tvs2 ∧ StAt K L H C CS s2 ct2 W2 ∧ ThL K (mask L H) C tl W.th ∧ W.th.length ≤ 100 ∧
  (∀ e ∈ W.th, ∃ d1 d2, look W.cs e.1 = some d1 ∧ look W2.cs e.1 = some d2 ∧ SeqAt.shaped d1 = true ∧ SeqAt.shaped d2 = true) ∧
  ∀ p H', Same H H' → H p = none → H' p = some (.lst ((unlikeOf W.th W.cs W2.cs).map V.str)) → Q (.ref p) H'
section
variable {P : Program} {w : World} {K : PySem.W.Frag} {mg : Str → Option Value} {base : Heap}
theorem scXo : FnScope ["self", "other", "thing"] ["self", "other"] (defScope (wo 7)) := ⟨rfl, rfl, rfl, by decide +kernel, rfl, by decide +kernel, by decide +kernel⟩
theorem ok_xor {f fIt C CS CW : Addr} {fd : FuncData} (F : Fun K "__xor__" "World.__xor__" (wo 7) f fd) (T : ThIn K mg C) (W : WoIn K mg CW) (aIt : PySem.W.findIn K (.ref CW) "__getitem__" = some (some (.ref fIt))) (nIt : PySem.W.fnIn K fIt = true) (hIt : PySem.W.isFn K (.ref fIt) = true) (gIt : FnR P w K mg base CX0 5 fIt (spItem K C CS CW)) : FnOk P w K mg base CX0 7 f fd ["self", "other"] (spXor K C CS CW) := by
  refine F.ok scXo (fun vs H Q E h => ?_) (fun cdv A outer s0 H vs Q E hr h => ?_)
  · obtain ⟨L, x, s, ct, x2, s2, ct2, W, W2, tl, tvs2, rfl, _⟩ := h
    rfl
  · obtain ⟨L, x, s, ct, x2, s2, ct2, W1, W2, tl, tvs2, rfl, hW, hS, hW2, hS2, hth, hl, hc, kk⟩ := h
    have hu := hu_of hr
    have hr6 : Room 6 _ := hr.mono (by decide)
    refine ⟨_, pss_one (ps_ret (pe_lc (own := [("thing", 2)]) (g := gName 2) (te := tFld K (tVar 2) "name") (tt := tTest (tOp (rNeD K) (tOp (rItemOwn CW (spItem K C CS CW) E0) (tVar 0) (tFld K (tVar 2) "name")) (tOp (rItemOwn CW (spItem K C CS CW) E0) (tVar 1) (tFld K (tVar 2) "name")))) rfl scXo.nd (pi_tup (pe_fld (pv 0) rfl)) (blkOk_by (N := ["self", "other", "thing"]) (sc := defScope (wo 7)) (by decide +kernel))
          (fun _ _ _ _ _ => pg_name (i := 2) scXo.nd rfl (.inl rfl)) (fun _ _ _ _ _ => pts_one (pt_cmpR (op_neD hr.units) (pe_itemOwn (E := E0) aIt nIt hIt gIt hr6 pass0 (pv 0) (pe_fld (pv 2) rfl)) (pe_itemOwn (E := E0) aIt nIt hIt gIt hr6 pass0 (pv 1) (pe_fld (pv 2) rfl)) (nomark _))) (fun _ _ _ _ _ => pe_fld (pv 2) rfl))), ?_⟩
    obtain ⟨dw, t, ew, ht⟩ := hW
    obtain ⟨dw2, t2, ew2, ht2⟩ := hW2
    have hx := mask_sub _ _ _ _ ew
    have hx2 := mask_sub _ _ _ _ ew2
    have ht0 := Same.seqT (mask_sub _ _) ht
    have hth0 := hth.same (mask_sub _ _)
    have ltl : tl.length = W1.th.length := hth.len
    refine ⟨_, rfl, x, CW, dw, _, _, rfl, hx, W.cls, W.nt, woF_t .., t, rfl, ⟨_, ht0⟩, fun D nD => ?_⟩
    refine lc_tup (K := K) (a := t) (xs := tl.map (·.2)) (fun i H2 => H2 D = some (.lst ((unlikeOf (W1.th.take i) W1.cs W2.cs).map V.str)) ∧ Same H H2) ⟨upd_same, same_new nD⟩ (fun i H2 _ hI => Same.seqT hI.2 ht0) (fun i v H2 hx5 hI => ?_) (fun H2 hI => ?_)
    · obtain ⟨eD, sD⟩ := hI
      obtain ⟨n, kind, parts, a, rfl, e1, e2, th1⟩ := hth0.get hx5
      obtain ⟨dx, fs, t1, b1, b2, b3, b4, b5⟩ := th1.same sD
      obtain ⟨d1, d2, l1, l2, z1, z2⟩ := hc _ (List.mem_of_getElem? e2)
      refine ⟨rfl, ?_⟩
      have hWm : WoAt K L H2 CW x s (tl.map (·.2)) := WoAt.keep ⟨dw, t, ew, ht⟩ (mask_same sD)
      have hWm2 : WoAt K L H2 CW x2 s2 tvs2 := WoAt.keep ⟨dw2, t2, ew2, ht2⟩ (mask_same sD)
      refine ⟨_, rfl, _, rfl, a, C, dx, fs, _, rfl, b1, T.cls, T.nn, b3, x, dw, _, rfl, sD _ _ hx, x, s, ct, L, _, W1, n, d1, rfl, hWm, hS.same sD, l1, fun v1 hv1 => ?_⟩
      refine ⟨_, rfl, _, rfl, a, C, dx, fs, _, rfl, b1, T.cls, T.nn, b3, x2, dw2, _, rfl, sD _ _ hx2, x2, s2, ct2, L, _, W2, n, d2, rfl, hWm2, hS2.same sD, l2, fun v2 hv2 => ?_⟩
      refine ⟨d1, d2, dp_same (mask_sub _ _) _ _ hv1, dp_same (mask_sub _ _) _ _ hv2, z1, z2, _, rfl, ?_⟩
      have hs := unlike_snoc (cs1 := W1.cs) (cs2 := W2.cs) e2
      have nb : neB W1.cs W2.cs n = !(PyData.eqv d1 d2) := by
        unfold neB gotB
        rw [l1, l2]; rfl
      rw [show neB W1.cs W2.cs (n, kind, parts).1 = neB W1.cs W2.cs n from rfl, nb] at hs
      cases hb : !(PyData.eqv d1 d2) with
      | false =>
        rw [hb, if_neg (by decide), List.append_nil] at hs
        exact iteF ⟨by rw [hs]; exact eD, sD⟩
      | true =>
        rw [hb, if_pos rfl] at hs
        refine iteT ⟨_, rfl, a, C, dx, fs, _, rfl, b1, T.cls, T.nn, b3, _, eD, small1000 ?_, by rw [upd_same, hs, List.map_append]; rfl, fun b o e => ?_⟩
        · rw [List.length_map]
          have := unlike_len (th := W1.th) (cs1 := W1.cs) (cs2 := W2.cs) (i := i)
          omega
        · rw [upd_ne (ne_of_none e nD)]; exact sD b o e
    obtain ⟨eD, sD⟩ := hI
    rw [show (tl.map (·.2)).length = W1.th.length by rw [List.length_map, ltl], List.take_length] at eD
    exact kk D H2 sD nD eD
end
/-! ### _law_same, with either answer -/
def notD : PyData → Prop
  | .dict _ => False
  | _ => True
theorem dp_notD {K : PySem.W.Frag} {H : Hp} {v : V} {d : PyData} (h : Dp K H v d) : notD d := by
  cases h <;> trivial
theorem kit_bool {d : PyData} (h : notD d) : ∃ b, kitB (tyName d) "bool" = some b ∧ (b = true ↔ ∃ c, d = .bool c) := by
  cases d with
  | none => exact ⟨false, (by decide +kernel : kitB "NoneType" "bool" = some false), (fun q => nomatch q), fun ⟨_, q⟩ => nomatch q⟩
  | bool b => exact ⟨true, (by decide +kernel : kitB "bool" "bool" = some true), fun _ => ⟨_, rfl⟩, fun _ => rfl⟩
  | int i => exact ⟨false, (by decide +kernel : kitB "int" "bool" = some false), (fun q => nomatch q), fun ⟨_, q⟩ => nomatch q⟩
  | str z => exact ⟨false, (by decide +kernel : kitB "str" "bool" = some false), (fun q => nomatch q), fun ⟨_, q⟩ => nomatch q⟩
  | list l => exact ⟨false, (by decide +kernel : kitB "list" "bool" = some false), (fun q => nomatch q), fun ⟨_, q⟩ => nomatch q⟩
  | tuple l => exact ⟨false, (by decide +kernel : kitB "tuple" "bool" = some false), (fun q => nomatch q), fun ⟨_, q⟩ => nomatch q⟩
  | dict l => exact h.elim
theorem kit_str {d : PyData} (h : notD d) : ∃ b, kitB (tyName d) "str" = some b ∧ (b = true ↔ ∃ c, d = .str c) := by
  cases d with
  | none => exact ⟨false, (by decide +kernel : kitB "NoneType" "str" = some false), (fun q => nomatch q), fun ⟨_, q⟩ => nomatch q⟩
  | bool b => exact ⟨false, (by decide +kernel : kitB "bool" "str" = some false), (fun q => nomatch q), fun ⟨_, q⟩ => nomatch q⟩
  | int i => exact ⟨false, (by decide +kernel : kitB "int" "str" = some false), (fun q => nomatch q), fun ⟨_, q⟩ => nomatch q⟩
  | str z => exact ⟨true, (by decide +kernel : kitB "str" "str" = some true), fun _ => ⟨_, rfl⟩, fun _ => rfl⟩
  | list l => exact ⟨false, (by decide +kernel : kitB "list" "str" = some false), (fun q => nomatch q), fun ⟨_, q⟩ => nomatch q⟩
  | tuple l => exact ⟨false, (by decide +kernel : kitB "tuple" "str" = some false), (fun q => nomatch q), fun ⟨_, q⟩ => nomatch q⟩
  | dict l => exact h.elim
theorem kit_list {d : PyData} (h : notD d) : ∃ b, kitB (tyName d) "list" = some b ∧ (b = true ↔ ∃ c, d = .list c) := by
  cases d with
  | none => exact ⟨false, (by decide +kernel : kitB "NoneType" "list" = some false), (fun q => nomatch q), fun ⟨_, q⟩ => nomatch q⟩
  | bool b => exact ⟨false, (by decide +kernel : kitB "bool" "list" = some false), (fun q => nomatch q), fun ⟨_, q⟩ => nomatch q⟩
  | int i => exact ⟨false, (by decide +kernel : kitB "int" "list" = some false), (fun q => nomatch q), fun ⟨_, q⟩ => nomatch q⟩
  | str z => exact ⟨false, (by decide +kernel : kitB "str" "list" = some false), (fun q => nomatch q), fun ⟨_, q⟩ => nomatch q⟩
  | list l => exact ⟨true, (by decide +kernel : kitB "list" "list" = some true), fun _ => ⟨_, rfl⟩, fun _ => rfl⟩
  | tuple l => exact ⟨false, (by decide +kernel : kitB "tuple" "list" = some false), (fun q => nomatch q), fun ⟨_, q⟩ => nomatch q⟩
  | dict l => exact h.elim
theorem kit_tup {d : PyData} (h : notD d) : ∃ b, kitB (tyName d) "tuple" = some b ∧ (b = true ↔ ∃ c, d = .tuple c) := by
  cases d with
  | none => exact ⟨false, (by decide +kernel : kitB "NoneType" "tuple" = some false), (fun q => nomatch q), fun ⟨_, q⟩ => nomatch q⟩
  | bool b => exact ⟨false, (by decide +kernel : kitB "bool" "tuple" = some false), (fun q => nomatch q), fun ⟨_, q⟩ => nomatch q⟩
  | int i => exact ⟨false, (by decide +kernel : kitB "int" "tuple" = some false), (fun q => nomatch q), fun ⟨_, q⟩ => nomatch q⟩
  | str z => exact ⟨false, (by decide +kernel : kitB "str" "tuple" = some false), (fun q => nomatch q), fun ⟨_, q⟩ => nomatch q⟩
  | list l => exact ⟨false, (by decide +kernel : kitB "list" "tuple" = some false), (fun q => nomatch q), fun ⟨_, q⟩ => nomatch q⟩
  | tuple l => exact ⟨true, (by decide +kernel : kitB "tuple" "tuple" = some true), fun _ => ⟨_, rfl⟩, fun _ => rfl⟩
  | dict l => exact h.elim
theorem kit_int {d : PyData} (h : notD d) : ∃ b, kitB (tyName d) "int" = some b ∧ (b = true ↔ (∃ c, d = .int c) ∨ ∃ c, d = .bool c) := by
  have no : ∀ {b : Bool} {A B : Prop}, b = false → ¬ A → ¬ B → (b = true ↔ A ∨ B) := fun e a b => ⟨fun q => (by rw [e] at q; cases q), fun q => q.elim (fun q => (a q).elim) fun q => (b q).elim⟩
  cases d with
  | none => exact ⟨false, (by decide +kernel : kitB "NoneType" "int" = some false), no rfl (fun ⟨_, q⟩ => nomatch q) fun ⟨_, q⟩ => nomatch q⟩
  | bool b => exact ⟨true, (by decide +kernel : kitB "bool" "int" = some true), fun _ => .inr ⟨_, rfl⟩, fun _ => rfl⟩
  | int i => exact ⟨true, (by decide +kernel : kitB "int" "int" = some true), fun _ => .inl ⟨_, rfl⟩, fun _ => rfl⟩
  | str z => exact ⟨false, (by decide +kernel : kitB "str" "int" = some false), no rfl (fun ⟨_, q⟩ => nomatch q) fun ⟨_, q⟩ => nomatch q⟩
  | list l => exact ⟨false, (by decide +kernel : kitB "list" "int" = some false), no rfl (fun ⟨_, q⟩ => nomatch q) fun ⟨_, q⟩ => nomatch q⟩
  | tuple l => exact ⟨false, (by decide +kernel : kitB "tuple" "int" = some false), no rfl (fun ⟨_, q⟩ => nomatch q) fun ⟨_, q⟩ => nomatch q⟩
  | dict l => exact h.elim
theorem get_ne {α : Type} {xs ys : List α} {i : Nat} {x y : α} (h1 : xs[i]? = some x) (h2 : ys[i]? = some y) (h : x ≠ y) : xs ≠ ys := fun e => h (by rw [e, h2] at h1; exact (Option.some.inj h1).symm)
theorem get_all {α : Type} {xs ys : List α} (hl : xs.length = ys.length) (h : ∀ j < xs.length, xs[j]? = ys[j]?) : xs = ys := by
  refine List.ext_getElem? fun j => ?_
  rcases Nat.lt_or_ge j xs.length with q | q
  · exact h j q
  · rw [List.getElem?_eq_none q, List.getElem?_eq_none (by omega)]
def spSameE (K : PySem.W.Frag) (m : Nat) : Sp := fun vs H Q _ => ∃ (v u : V) (d e : PyData), vs = [v, u] ∧ Dp K H v d ∧ Dp K H u e ∧ dp m d ∧ dp m e ∧ ∀ b, (b = true ↔ d = e) → Q (.bl b) H
section
variable {P : Program} {w : World} {K : PySem.W.Frag} {mg : Str → Option Value} {base : Heap}
theorem ok_sameE {f : Addr} {fd : FuncData} (F : Fun K "_law_same" "_law_same" sSame f fd) (B : Bts mg) (mS : mg "_law_same" = some (.ref f)) (bS : Binds K fd ["actual", "due"] []) : ∀ m : Nat, FnOk P w K mg base CX0 m f fd ["actual", "due"] (spSameE K m)
  | 0 => fn_never.imp fun vs H Q E h => by
    obtain ⟨v, u, d, e, _, _, _, h, _⟩ := h
    simp [dp] at h
  | m + 1 => by
    have IH := ok_sameE F B mS bS m
    refine F.ok scS (fun vs H Q E h => ?_) (fun cdv A outer s H vs Q E hr h => ?_)
    · obtain ⟨v, u, d, e, rfl, _⟩ := h
      rfl
    · obtain ⟨v, u, d, e, rfl, hv, hu, hd, he, kk⟩ := h
      refine ⟨_,
        pss_cons (ps_if (pt_cmpR op_isN (pv 1) pe_non (nomark _)) (pss_one (ps_ret (pe_cmp (pc_isN (pv 0)) rfl))) pss_nil)
        (pss_cons (ps_if (PW.pt (pw_or (pt_val (pe_callB call_isi (by rfl) B.isinstance (by decide +kernel) (pa_cons (pv 1) (pa_cons (pe_bltn (v := .ty "bool") (by rfl) B.bool (by decide +kernel) rfl) pa_nil))))
              (pw_or1 (pt_val (pe_callB call_isi (by rfl) B.isinstance (by decide +kernel) (pa_cons (pv 1) (pa_cons (pe_bltn (v := .ty "str") (by rfl) B.str (by decide +kernel) rfl) pa_nil)))))))
            (pss_cons (ps_if (PW.pt (pw_or
                (pt_cmpR op_ne (pe_callB call_isi (by rfl) B.isinstance (by decide +kernel) (pa_cons (pv 0) (pa_cons (pe_bltn (v := .ty "bool") (by rfl) B.bool (by decide +kernel) rfl) pa_nil)))
                  (pe_callB call_isi (by rfl) B.isinstance (by decide +kernel) (pa_cons (pv 1) (pa_cons (pe_bltn (v := .ty "bool") (by rfl) B.bool (by decide +kernel) rfl) pa_nil))) (nomark _))
                (pw_or1 (pt_cmpR op_ne (pe_callB call_isi (by rfl) B.isinstance (by decide +kernel) (pa_cons (pv 0) (pa_cons (pe_bltn (v := .ty "str") (by rfl) B.str (by decide +kernel) rfl) pa_nil)))
                  (pe_callB call_isi (by rfl) B.isinstance (by decide +kernel) (pa_cons (pv 1) (pa_cons (pe_bltn (v := .ty "str") (by rfl) B.str (by decide +kernel) rfl) pa_nil))) (nomark _)))))
                (pss_one (ps_ret pe_bl)) pss_nil)
              (pss_one (ps_ret (pe_cmpR op_eq (pv 0) (pv 1) (nomark _)))))
            pss_nil)
        (pss_cons (ps_if (pt_val (pe_callB call_isi (by rfl) B.isinstance (by decide +kernel) (pa_cons (pv 1) (pa_cons (pe_bltn (v := .ty "int") (by rfl) B.int (by decide +kernel) rfl) pa_nil))))
            (pss_one (ps_ret (pe_and (pe_callB call_isi (by rfl) B.isinstance (by decide +kernel) (pa_cons (pv 0) (pa_cons (pe_bltn (v := .ty "int") (by rfl) B.int (by decide +kernel) rfl) pa_nil)))
              (pe_and (pe_not (pe_callB call_isi (by rfl) B.isinstance (by decide +kernel) (pa_cons (pv 0) (pa_cons (pe_bltn (v := .ty "bool") (by rfl) B.bool (by decide +kernel) rfl) pa_nil))))
                (pe_one (pe_cmpR op_eq (pv 0) (pv 1) (nomark _)))))))
            pss_nil)
        (pss_cons (ps_if (PW.pt (pw_and (pt_val (pe_callB call_isi (by rfl) B.isinstance (by decide +kernel) (pa_cons (pv 1) (pa_cons (pe_bltn (v := .ty "list") (by rfl) B.list (by decide +kernel) rfl) pa_nil))))
              (pw_and1 (pt_not (pt_val (pe_callB call_isi (by rfl) B.isinstance (by decide +kernel) (pa_cons (pv 0) (pa_cons (pe_bltn (v := .ty "list") (by rfl) B.list (by decide +kernel) rfl) pa_nil))))))))
            (pss_one (ps_ret pe_bl)) pss_nil)
        (pss_cons (ps_if (PW.pt (pw_and (pt_val (pe_callB call_isi (by rfl) B.isinstance (by decide +kernel) (pa_cons (pv 1) (pa_cons (pe_bltn (v := .ty "tuple") (by rfl) B.tuple (by decide +kernel) rfl) pa_nil))))
              (pw_and1 (pt_not (pt_val (pe_callB call_isi (by rfl) B.isinstance (by decide +kernel) (pa_cons (pv 0) (pa_cons (pe_bltn (v := .ty "tuple") (by rfl) B.tuple (by decide +kernel) rfl) pa_nil))))))))
            (pss_one (ps_ret pe_bl)) pss_nil)
        (pss_cons (ps_if (pt_cmpR op_ne (pe_callB call_len_seq (by rfl) B.len PySem.boot_len (pa_cons (pv 0) pa_nil)) (pe_callB call_len_seq (by rfl) B.len PySem.boot_len (pa_cons (pv 1) pa_nil)) (nomark _)) (pss_one (ps_ret pe_bl)) pss_nil)
        (pss_cons (ps_for PassesOwn.never rfl (pi_range1 rfl B.range (pa_cons (pe_callB call_len_seq (by rfl) B.len PySem.boot_len (pa_cons (pv 1) pa_nil)) pa_nil)) (pg_name (i := 2) scS.nd rfl (.inl rfl))
            (pss_one (ps_if (pt_not (pt_val (pe_call IH hr (by rfl) mS F.kp bS .nil pass0 (pa_cons (pe_ix ix_seq (pv 0) (pv 2) (fun _ _ => rfl)) (pa_cons (pe_ix ix_seq (pv 1) (pv 2) (fun _ _ => rfl)) pa_nil))))) (pss_one (ps_ret pe_bl)) pss_nil)))
        (pss_one (ps_ret pe_bl)))))))), ?_⟩
      have nv := dp_notD hv
      have nu := dp_notD hu
      have tv := ty_of hv
      have tu := ty_of hu
      obtain ⟨vb, kvb, ivb⟩ := kit_bool nv
      obtain ⟨vs, kvs, ivs⟩ := kit_str nv
      obtain ⟨vi, kvi, ivi⟩ := kit_int nv
      obtain ⟨vl, kvl, ivl⟩ := kit_list nv
      obtain ⟨vt, kvt, ivt⟩ := kit_tup nv
      cases e with
      | none =>
        cases hu
        refine ⟨_, rfl, rfl, _, rfl, iteT ⟨_, rfl, ?_⟩⟩
        refine kk _ ?_
        cases hv <;> first | exact ⟨(fun _ => rfl), (fun _ => rfl)⟩ | exact ⟨(fun q => nomatch q), (fun q => nomatch q)⟩
      | bool c =>
        cases hu
        have tu : TyX K H (.bl c) (.type "bool") := tu
        refine ⟨_, rfl, rfl, _, rfl, iteF ?_⟩
        refine ⟨_, rfl, _, _, _, _, true, rfl, .ty _, tu, kit_ty (by decide +kernel), _, rfl, iteT (iteT ?_)⟩
        refine ⟨_, rfl, _, _, _, _, vb, rfl, .ty _, tv, kit_ty kvb, _, rfl, _, _, _, _, true, rfl, .ty _, tu, kit_ty (by decide +kernel), rfl, _, rfl, ?_⟩
        cases vb with
        | false => exact iteT (iteT (kk false ⟨(fun q => nomatch q), fun q => ivb.mpr ⟨c, q⟩⟩))
        | true =>
          obtain ⟨c', rfl⟩ := ivb.mp rfl
          cases hv
          have tv : TyX K H (.bl c') (.type "bool") := tv
          refine iteF ⟨_, rfl, _, _, _, _, false, rfl, .ty _, tv, kit_ty (by decide +kernel), _, rfl, _, _, _, _, false, rfl, .ty _, tu, kit_ty (by decide +kernel), rfl, _, rfl, ?_⟩
          refine iteF ⟨_, rfl, _, rfl, rfl, kk _ ?_⟩
          rw [decide_eq_true_iff]
          exact ⟨(fun q => by injection q with q; rw [q]), (fun q => by injection q with q; rw [q])⟩
      | str x =>
        cases hu
        have tu : TyX K H (.str x) (.type "str") := tu
        refine ⟨_, rfl, rfl, _, rfl, iteF ?_⟩
        refine ⟨_, rfl, _, _, _, _, false, rfl, .ty _, tu, kit_ty (by decide +kernel), _, rfl, iteF ?_⟩
        refine ⟨_, rfl, _, _, _, _, true, rfl, .ty _, tu, kit_ty (by decide +kernel), _, rfl, iteT ?_⟩
        refine ⟨_, rfl, _, _, _, _, vb, rfl, .ty _, tv, kit_ty kvb, _, rfl, _, _, _, _, false, rfl, .ty _, tu, kit_ty (by decide +kernel), rfl, _, rfl, ?_⟩
        cases vb with
        | true =>
          obtain ⟨c', rfl⟩ := ivb.mp rfl
          exact iteT (iteT (kk false ⟨(fun q => nomatch q), (fun q => nomatch q)⟩))
        | false =>
          refine iteF ⟨_, rfl, _, _, _, _, vs, rfl, .ty _, tv, kit_ty kvs, _, rfl, _, _, _, _, true, rfl, .ty _, tu, kit_ty (by decide +kernel), rfl, _, rfl, ?_⟩
          cases vs with
          | false => exact iteT (kk false ⟨(fun q => nomatch q), fun q => ivs.mpr ⟨x, q⟩⟩)
          | true =>
            obtain ⟨y, rfl⟩ := ivs.mp rfl
            cases hv
            refine iteF ⟨_, rfl, _, rfl, rfl, kk _ ?_⟩
            rw [decide_eq_true_iff]
            exact ⟨(fun q => by injection q with q; rw [q]), (fun q => by injection q with q; rw [q])⟩
      | int i =>
        cases hu
        have tu : TyX K H (.int i) (.type "int") := tu
        refine ⟨_, rfl, rfl, _, rfl, iteF ?_⟩
        refine ⟨_, rfl, _, _, _, _, false, rfl, .ty _, tu, kit_ty (by decide +kernel), _, rfl, iteF ?_⟩
        refine ⟨_, rfl, _, _, _, _, false, rfl, .ty _, tu, kit_ty (by decide +kernel), _, rfl, iteF ?_⟩
        refine ⟨_, rfl, _, _, _, _, true, rfl, .ty _, tu, kit_ty (by decide +kernel), _, rfl, iteT ?_⟩
        refine ⟨_, rfl, _, _, _, _, vi, rfl, .ty _, tv, kit_ty kvi, _, rfl, ?_⟩
        cases vi with
        | false => exact iteF (kk false ⟨(fun q => nomatch q), fun q => ivi.mpr (.inl ⟨i, q⟩)⟩)
        | true =>
          refine iteT ⟨_, rfl, _, _, _, _, vb, rfl, .ty _, tv, kit_ty kvb, _, rfl, _, rfl, ?_⟩
          cases vb with
          | true =>
            obtain ⟨c', rfl⟩ := ivb.mp rfl
            exact iteF (kk false ⟨(fun q => nomatch q), (fun q => nomatch q)⟩)
          | false =>
            obtain ⟨j, rfl⟩ : ∃ c, d = .int c := (ivi.mp rfl).resolve_right fun q => by have := ivb.mpr q; cases this
            cases hv
            refine iteT ⟨_, rfl, _, rfl, rfl, kk _ ?_⟩
            rw [decide_eq_true_iff]
            exact ⟨(fun q => by injection q with q; rw [q]), (fun q => by injection q with q; rw [q])⟩
      | list es =>
        obtain ⟨a2, xs2, rfl, hs2, ha2⟩ := dp_lst hu
        have tu : TyX K H (.ref a2) (.type "list") := tu
        refine ⟨_, rfl, rfl, _, rfl, iteF ?_⟩
        refine ⟨_, rfl, _, _, _, _, false, rfl, .ty _, tu, kit_ty (by decide +kernel), _, rfl, iteF ?_⟩
        refine ⟨_, rfl, _, _, _, _, false, rfl, .ty _, tu, kit_ty (by decide +kernel), _, rfl, iteF ?_⟩
        refine ⟨_, rfl, _, _, _, _, false, rfl, .ty _, tu, kit_ty (by decide +kernel), _, rfl, iteF ?_⟩
        refine ⟨_, rfl, _, _, _, _, true, rfl, .ty _, tu, kit_ty (by decide +kernel), _, rfl, iteT ?_⟩
        refine ⟨_, rfl, _, _, _, _, vl, rfl, .ty _, tv, kit_ty kvl, _, rfl, ?_⟩
        cases vl with
        | false => exact iteT (kk false ⟨(fun q => nomatch q), fun q => ivl.mpr ⟨_, q⟩⟩)
        | true =>
        obtain ⟨ds, rfl⟩ := ivl.mp rfl
        obtain ⟨a1, xs1, rfl, hs1, ha1⟩ := dp_lst hv
        have e1 := dpAll_len ha1
        have e2 := dpAll_len ha2
        refine iteF ⟨_, rfl, _, _, _, _, false, rfl, .ty _, tu, kit_ty (by decide +kernel), _, rfl, iteF (iteF ?_)⟩
        refine ⟨_, rfl, a1, xs1, rfl, .inl hs1, _, rfl, a2, xs2, rfl, .inl hs2, rfl, _, rfl, ?_⟩
        by_cases hlen : ds.length = es.length
        case neg =>
          rw [decide_eq_false (fun q => hlen (by injection q with q; omega))]
          exact iteT (kk false ⟨(fun q => nomatch q), fun q => (hlen (by injection q with q; rw [q])).elim⟩)
        refine iteNS (by rw [e1, e2, hlen]) ?_
        simp only [dp] at hd he
        have hz2 : (xs2.length : Int) < 2 ^ 62 := by have := he.1; omega
        refine ⟨_, rfl, a2, xs2, rfl, .inl hs2, _, rfl, (by omega), hz2, ?_⟩
        refine for_range (lo := 0) (n := (xs2.length : Int).toNat) (fun i σ H2 => (∃ y, σ = [some (.ref a1), some (.ref a2), y] ∧ H2 = H) ∧ ∀ j < i, ds[j]? = es[j]?) ⟨⟨none, rfl, rfl⟩, fun j q => by omega⟩ ?_ ?_
        · rintro i σ H2 hi ⟨⟨y, rfl, rfl⟩, hall⟩
          have hi2 : i < es.length := by omega
          obtain ⟨x1, g1, d1⟩ := dpAll_get ha1 (List.getElem?_eq_getElem (show i < ds.length by omega))
          obtain ⟨x2, g2, d2⟩ := dpAll_get ha2 (List.getElem?_eq_getElem hi2)
          have ei : (0 : Int) + (i : Int) = ((i : Nat) : Int) := by omega
          rw [ei]
          refine ⟨_, rfl, _, rfl, .inl ⟨_, _, _, _, rfl, rfl, hs1, atI_nat g1, _, rfl, _, rfl, .inl ⟨_, _, _, _, rfl, rfl, hs2, atI_nat g2, ?_⟩⟩⟩
          refine ⟨x1, x2, _, _, rfl, d1, d2, hd.2 _ (List.getElem_mem _), he.2 _ (List.getElem_mem hi2), fun b hb => ⟨_, rfl, ?_⟩⟩
          cases b with
          | false =>
            refine iteT (kk false ⟨(fun q => nomatch q), fun q => ?_⟩)
            have : ds ≠ es := get_ne (List.getElem?_eq_getElem (show i < ds.length by omega)) (List.getElem?_eq_getElem hi2) fun z => by have := hb.mpr z; cases this
            exact (this (by injection q)).elim
          | true =>
            refine iteF ⟨⟨_, rfl, rfl⟩, fun j hj => ?_⟩
            rcases Nat.lt_or_ge j i with q | q
            · exact hall j q
            · have z : j = i := by omega
              subst z
              rw [List.getElem?_eq_getElem (show j < ds.length by omega), List.getElem?_eq_getElem hi2, hb.mp rfl]
        · rintro σ H2 ⟨⟨y, rfl, rfl⟩, hall⟩
          exact kk true ⟨fun _ => by rw [get_all hlen fun j hj => hall j (by omega)], fun _ => rfl⟩
      | tuple es =>
        obtain ⟨a2, xs2, rfl, hs2, ha2⟩ := dp_tup hu
        have tu : TyX K H (.ref a2) (.type "tuple") := tu
        refine ⟨_, rfl, rfl, _, rfl, iteF ?_⟩
        refine ⟨_, rfl, _, _, _, _, false, rfl, .ty _, tu, kit_ty (by decide +kernel), _, rfl, iteF ?_⟩
        refine ⟨_, rfl, _, _, _, _, false, rfl, .ty _, tu, kit_ty (by decide +kernel), _, rfl, iteF ?_⟩
        refine ⟨_, rfl, _, _, _, _, false, rfl, .ty _, tu, kit_ty (by decide +kernel), _, rfl, iteF ?_⟩
        refine ⟨_, rfl, _, _, _, _, false, rfl, .ty _, tu, kit_ty (by decide +kernel), _, rfl, iteF (iteF ?_)⟩
        refine ⟨_, rfl, _, _, _, _, true, rfl, .ty _, tu, kit_ty (by decide +kernel), _, rfl, iteT ?_⟩
        refine ⟨_, rfl, _, _, _, _, vt, rfl, .ty _, tv, kit_ty kvt, _, rfl, ?_⟩
        cases vt with
        | false => exact iteT (kk false ⟨(fun q => nomatch q), fun q => ivt.mpr ⟨_, q⟩⟩)
        | true =>
        obtain ⟨ds, rfl⟩ := ivt.mp rfl
        obtain ⟨a1, xs1, rfl, hs1, ha1⟩ := dp_tup hv
        have e1 := dpAll_len ha1
        have e2 := dpAll_len ha2
        refine iteF ⟨_, rfl, a1, xs1, rfl, .inr hs1, _, rfl, a2, xs2, rfl, .inr hs2, rfl, _, rfl, ?_⟩
        by_cases hlen : ds.length = es.length
        case neg =>
          rw [decide_eq_false (fun q => hlen (by injection q with q; omega))]
          exact iteT (kk false ⟨(fun q => nomatch q), fun q => (hlen (by injection q with q; rw [q])).elim⟩)
        refine iteNS (by rw [e1, e2, hlen]) ?_
        simp only [dp] at hd he
        have hz2 : (xs2.length : Int) < 2 ^ 62 := by have := he.1; omega
        refine ⟨_, rfl, a2, xs2, rfl, .inr hs2, _, rfl, (by omega), hz2, ?_⟩
        refine for_range (lo := 0) (n := (xs2.length : Int).toNat) (fun i σ H2 => (∃ y, σ = [some (.ref a1), some (.ref a2), y] ∧ H2 = H) ∧ ∀ j < i, ds[j]? = es[j]?) ⟨⟨none, rfl, rfl⟩, fun j q => by omega⟩ ?_ ?_
        · rintro i σ H2 hi ⟨⟨y, rfl, rfl⟩, hall⟩
          have hi2 : i < es.length := by omega
          obtain ⟨x1, g1, d1⟩ := dpAll_get ha1 (List.getElem?_eq_getElem (show i < ds.length by omega))
          obtain ⟨x2, g2, d2⟩ := dpAll_get ha2 (List.getElem?_eq_getElem hi2)
          have ei : (0 : Int) + (i : Int) = ((i : Nat) : Int) := by omega
          rw [ei]
          refine ⟨_, rfl, _, rfl, .inr (.inl ⟨_, _, _, _, rfl, rfl, hs1, atI_nat g1, _, rfl, _, rfl, .inr (.inl ⟨_, _, _, _, rfl, rfl, hs2, atI_nat g2, ?_⟩)⟩)⟩
          refine ⟨x1, x2, _, _, rfl, d1, d2, hd.2 _ (List.getElem_mem _), he.2 _ (List.getElem_mem hi2), fun b hb => ⟨_, rfl, ?_⟩⟩
          cases b with
          | false =>
            refine iteT (kk false ⟨(fun q => nomatch q), fun q => ?_⟩)
            have : ds ≠ es := get_ne (List.getElem?_eq_getElem (show i < ds.length by omega)) (List.getElem?_eq_getElem hi2) fun z => by have := hb.mpr z; cases this
            exact (this (by injection q)).elim
          | true =>
            refine iteF ⟨⟨_, rfl, rfl⟩, fun j hj => ?_⟩
            rcases Nat.lt_or_ge j i with q | q
            · exact hall j q
            · have z : j = i := by omega
              subst z
              rw [List.getElem?_eq_getElem (show j < ds.length by omega), List.getElem?_eq_getElem hi2, hb.mp rfl]
        · rintro σ H2 ⟨⟨y, rfl, rfl⟩, hall⟩
          exact kk true ⟨fun _ => by rw [get_all hlen fun j hj => hall j (by omega)], fun _ => rfl⟩
      | dict ds => cases hu
end
/-! ### _law_looks -/
def plainOf (kind : Str) : List Str := (look ([("feed", ["take", "drain"]), ("dice", ["roll"]), ("table", ["size", "keys"]), ("source", []), ("field", ["look", "renew", "glance"]), ("flag", ["read", "watch"]), ("slot", ["mark", "tell", "bound"])] : List (Str × List Str)) kind).getD []
def keyLooks (k : Str) : List (Str × List Str) := [("get", [k]), ("drop", [k]), ("peek", [k]), ("has", [k])]
def looksOf (e : Tr) : List (Str × List Str) := (plainOf e.2.1 ++ [("spy" : Str)]).map (fun z => (z, [])) ++ (if e.2.1 = "table" then e.2.2 else []).flatMap keyLooks
def LkTup (K : PySem.W.Frag) (M : Hp) (x : Str) (y : V) (lk : Str × List Str) : Prop := ∃ t, y = .ref t ∧ SqT K M t (.str lk.1 :: .str x :: lk.2.map V.str)
theorem LkTup.same {K : PySem.W.Frag} {M M' : Hp} {x : Str} {y : V} {lk : Str × List Str} (c : Same M M') (h : LkTup K M x y lk) : LkTup K M' x y lk := let ⟨t, e, h⟩ := h; ⟨t, e, Same.seqT c h⟩
section
open PySem PySem.Spec PyProof.Rows L2
/-- an expression's value told once, for whatever comes behind -/
def tCutE (t : TE) : TE := fun σ H Q => ∃ G : V → Hp → Prop, t σ H G ∧ ∀ v H', G v H' → Q v H'
theorem pe_cut {X : Cx} {e : Expr} {t : TE} (h : PE X e t) : PE X e (tCutE t) :=
  ⟨fun pins s σ H Q I ⟨G, hg, k⟩ => wpAny_mono (h.run pins s σ H G I hg) (fun u s1 ⟨v, H1, I1, r, g⟩ => ⟨v, H1, I1, r, k v H1 g⟩) fun _ _ z => z⟩
end
def spLooks (K : PySem.W.Frag) : Sp := fun vs H Q _ => ∃ (L : List Addr) (v : V) (e : Tr), vs = [v] ∧ ThTup K (mask L H) v e ∧ Alive L H ∧ e.2.1 ∈ k7 ∧ e.2.2.length ≤ 4 ∧
  ∀ a ys H', Same H H' → H a = none → H' a = some (.lst ys) → Paired (LkTup K (mask L H') e.1) ys (looksOf e) → Q (.ref a) H'
section
variable {P : Program} {w : World} {K : PySem.W.Frag} {mg : Str → Option Value} {base : Heap}
theorem scLks : FnScope ["thing", "kind", "x", "parts", "plain", "looks", "word", "key"] ["thing"] (defScope sLooks) := ⟨rfl, rfl, rfl, by decide +kernel, rfl, by decide +kernel, by decide +kernel⟩
theorem ok_looks {f : Addr} {fd : FuncData} (F : Fun K "_law_looks" "_law_looks" sLooks f fd) : FnOk P w K mg base CX0 1 f fd ["thing"] (spLooks K) := by
  refine F.ok scLks (fun vs H Q E h => ?_) (fun cdv A outer s0 H vs Q E hr h => ?_)
  · obtain ⟨L, v, e, rfl, _⟩ := h
    rfl
  · obtain ⟨L, v, e, rfl, ⟨t, pt, rfl, ht, hpt⟩, al, hkd, h4, kk⟩ := h
    have hu := hu_of hr
    refine ⟨_, pss_cons (ps_asg (pv 0) (pg_tup rfl (pgs_cons (pg_name (i := 1) scLks.nd rfl (.inl rfl)) (pgs_cons (pg_name (i := 2) scLks.nd rfl (.inr rfl)) (pgs_cons (pg_name (i := 3) scLks.nd rfl (.inl rfl)) pgs_nil)))))
      (pss_cons (ps_set (i := 4) scLks.nd rfl (.inl rfl) (pe_disp (pps_cons pe_str (pe_lst (pa_cons pe_str (pa_cons pe_str pa_nil))) (pps_cons pe_str (pe_lst (pa_cons pe_str pa_nil)) (pps_cons pe_str (pe_lst (pa_cons pe_str (pa_cons pe_str pa_nil))) (pps_cons pe_str (pe_lst pa_nil) (pps_cons pe_str (pe_lst (pa_cons pe_str (pa_cons pe_str (pa_cons pe_str pa_nil)))) (pps_cons pe_str (pe_lst (pa_cons pe_str (pa_cons pe_str pa_nil))) (pps_cons pe_str (pe_lst (pa_cons pe_str (pa_cons pe_str (pa_cons pe_str pa_nil)))) pps_nil))))))) rfl rfl (by decide) (by decide)))
      (pss_cons (ps_setLc (i := 5) (own := [("word", 6)]) (g := gName 6) (tt := tYes) rfl scLks.nd rfl rfl (sw_true rfl rfl rfl (by decide +kernel)) (pi_list (pe_op op_cat (pe_dget hu (pv 4) (pv 1) (fun _ _ => rfl)) (pe_lst (pa_cons pe_str pa_nil)))) (blkOk_by (N := ["thing", "kind", "x", "parts", "plain", "looks", "word", "key"]) (sc := defScope sLooks) (by decide +kernel)) (fun _ _ _ _ _ => (pg_name (i := 6) scLks.nd rfl (.inl rfl))) (fun _ _ _ _ _ => pts_nil) (fun _ _ _ _ _ => (pe_tup (pa_cons (pv 6) (pa_cons (pv 2) pa_nil)))))
      (pss_cons (ps_for PassesOwn.never rfl (pi_tup (pe_cut (pe_ifExp (pt_cmpR op_eq (pv 1) pe_str (nomark _)) (pv 3) pe_tup0Q))) (pg_name (i := 7) scLks.nd rfl (.inl rfl))
        (pss_one (ps_set (i := 5) scLks.nd rfl (.inl rfl) (pe_op op_cat (pv 5) (pe_lst (pa_cons (pe_tup (pa_cons pe_str (pa_cons (pv 2) (pa_cons (pv 7) pa_nil)))) (pa_cons (pe_tup (pa_cons pe_str (pa_cons (pv 2) (pa_cons (pv 7) pa_nil)))) (pa_cons (pe_tup (pa_cons pe_str (pa_cons (pv 2) (pa_cons (pv 7) pa_nil)))) (pa_cons (pe_tup (pa_cons pe_str (pa_cons (pv 2) (pa_cons (pv 7) pa_nil)))) pa_nil)))))))))
      (pss_one (ps_ret (pv 5)))))), ?_⟩
    have ht0 := Same.seqT (mask_sub L H) ht
    have hpt0 := Same.seqT (mask_sub L H) hpt
    refine ⟨_, rfl, t, _, rfl, ht0, rfl, _, _, rfl, _, _, rfl, _, _, rfl, rfl, ?_⟩
    refine fun W nW => ?_
    have s1 := same_new (o := .dK []) nW
    have eW : (upd H W (.dK [])) W = some (.dK []) := upd_same
    generalize upd H W (.dK []) = D0 at *
    refine ⟨by show 2 ≤ sizeLine; decide, fun l0 n0 => ?_⟩
    have t0 := same_new (o := .lst [.str "take", .str "drain"]) n0
    have eT0 : (upd D0 l0 (.lst [.str "take", .str "drain"])) l0 = some (.lst [.str "take", .str "drain"]) := upd_same
    generalize upd D0 l0 (.lst [.str "take", .str "drain"]) = D1 at *
    refine ⟨by show 1 ≤ sizeLine; decide, fun l1 n1 => ?_⟩
    have t1 := same_new (o := .lst [.str "roll"]) n1
    have eT1 : (upd D1 l1 (.lst [.str "roll"])) l1 = some (.lst [.str "roll"]) := upd_same
    generalize upd D1 l1 (.lst [.str "roll"]) = D2 at *
    refine ⟨by show 2 ≤ sizeLine; decide, fun l2 n2 => ?_⟩
    have t2 := same_new (o := .lst [.str "size", .str "keys"]) n2
    have eT2 : (upd D2 l2 (.lst [.str "size", .str "keys"])) l2 = some (.lst [.str "size", .str "keys"]) := upd_same
    generalize upd D2 l2 (.lst [.str "size", .str "keys"]) = D3 at *
    refine ⟨by show 0 ≤ sizeLine; decide, fun l3 n3 => ?_⟩
    have t3 := same_new (o := .lst []) n3
    have eT3 : (upd D3 l3 (.lst [])) l3 = some (.lst []) := upd_same
    generalize upd D3 l3 (.lst []) = D4 at *
    refine ⟨by show 3 ≤ sizeLine; decide, fun l4 n4 => ?_⟩
    have t4 := same_new (o := .lst [.str "look", .str "renew", .str "glance"]) n4
    have eT4 : (upd D4 l4 (.lst [.str "look", .str "renew", .str "glance"])) l4 = some (.lst [.str "look", .str "renew", .str "glance"]) := upd_same
    generalize upd D4 l4 (.lst [.str "look", .str "renew", .str "glance"]) = D5 at *
    refine ⟨by show 2 ≤ sizeLine; decide, fun l5 n5 => ?_⟩
    have t5 := same_new (o := .lst [.str "read", .str "watch"]) n5
    have eT5 : (upd D5 l5 (.lst [.str "read", .str "watch"])) l5 = some (.lst [.str "read", .str "watch"]) := upd_same
    generalize upd D5 l5 (.lst [.str "read", .str "watch"]) = D6 at *
    refine ⟨by show 3 ≤ sizeLine; decide, fun l6 n6 => ?_⟩
    have t6 := same_new (o := .lst [.str "mark", .str "tell", .str "bound"]) n6
    have eT6 : (upd D6 l6 (.lst [.str "mark", .str "tell", .str "bound"])) l6 = some (.lst [.str "mark", .str "tell", .str "bound"]) := upd_same
    generalize upd D6 l6 (.lst [.str "mark", .str "tell", .str "bound"]) = D7 at *
    have s8 := (((((((s1.trans t0).trans t1).trans t2).trans t3).trans t4).trans t5).trans t6)
    have eW8 := (t6 _ _ (t5 _ _ (t4 _ _ (t3 _ _ (t2 _ _ (t1 _ _ (t0 _ _ eW)))))))
    have eU0 := (t6 _ _ (t5 _ _ (t4 _ _ (t3 _ _ (t2 _ _ (t1 _ _ eT0))))))
    have eU1 := (t6 _ _ (t5 _ _ (t4 _ _ (t3 _ _ (t2 _ _ eT1)))))
    have eU2 := (t6 _ _ (t5 _ _ (t4 _ _ (t3 _ _ eT2))))
    have eU3 := (t6 _ _ (t5 _ _ (t4 _ _ eT3)))
    have eU4 := (t6 _ _ (t5 _ _ eT4))
    have eU5 := (t6 _ _ eT5)
    have eU6 := eT6
    refine ⟨eW8, kvs [("feed", V.ref l0), ("dice", V.ref l1), ("table", V.ref l2), ("source", V.ref l3), ("field", V.ref l4), ("flag", V.ref l5), ("slot", V.ref l6)], rfl, by show 7 ≤ 15; decide, ?_⟩
    rw [show mergeK [] (kvs [("feed", V.ref l0), ("dice", V.ref l1), ("table", V.ref l2), ("source", V.ref l3), ("field", V.ref l4), ("flag", V.ref l5), ("slot", V.ref l6)]) = kvs [("feed", V.ref l0), ("dice", V.ref l1), ("table", V.ref l2), ("source", V.ref l3), ("field", V.ref l4), ("flag", V.ref l5), ("slot", V.ref l6)] from mergeK_kvs (a := []) (by show (["feed", "dice", "table", "source", "field", "flag", "slot"] : List Str).Nodup; decide +kernel)]
    obtain ⟨lK, gL, eK⟩ : ∃ lK, look [("feed", V.ref l0), ("dice", V.ref l1), ("table", V.ref l2), ("source", V.ref l3), ("field", V.ref l4), ("flag", V.ref l5), ("slot", V.ref l6)] e.2.1 = some (V.ref lK) ∧ D7 lK = some (.lst ((plainOf e.2.1).map V.str)) := by
      have all : ∀ kind ∈ k7, ∃ lK, look [("feed", V.ref l0), ("dice", V.ref l1), ("table", V.ref l2), ("source", V.ref l3), ("field", V.ref l4), ("flag", V.ref l5), ("slot", V.ref l6)] kind = some (V.ref lK) ∧ D7 lK = some (.lst ((plainOf kind).map V.str)) := by
        intro kind hk
        simp only [k7, List.mem_cons, List.not_mem_nil, or_false] at hk
        rcases hk with rfl | rfl | rfl | rfl | rfl | rfl | rfl
        · exact ⟨l0, by rfl, eU0⟩
        · exact ⟨l2, by rfl, eU2⟩
        · exact ⟨l1, by rfl, eU1⟩
        · exact ⟨l3, by rfl, eU3⟩
        · exact ⟨l4, by rfl, eU4⟩
        · exact ⟨l5, by rfl, eU5⟩
        · exact ⟨l6, by rfl, eU6⟩
      exact all _ hkd
    have lW : lK ≠ W := fun z => by rw [z, eW8] at eK; cases eK
    have s9 : Same H (upd D7 W (.dK (kvs [("feed", V.ref l0), ("dice", V.ref l1), ("table", V.ref l2), ("source", V.ref l3), ("field", V.ref l4), ("flag", V.ref l5), ("slot", V.ref l6)]))) := same_off s8 nW
    have eU : (upd D7 W (.dK (kvs [("feed", V.ref l0), ("dice", V.ref l1), ("table", V.ref l2), ("source", V.ref l3), ("field", V.ref l4), ("flag", V.ref l5), ("slot", V.ref l6)]))) W = some (.dK (kvs [("feed", V.ref l0), ("dice", V.ref l1), ("table", V.ref l2), ("source", V.ref l3), ("field", V.ref l4), ("flag", V.ref l5), ("slot", V.ref l6)])) := upd_same
    have eK9 : (upd D7 W (.dK (kvs [("feed", V.ref l0), ("dice", V.ref l1), ("table", V.ref l2), ("source", V.ref l3), ("field", V.ref l4), ("flag", V.ref l5), ("slot", V.ref l6)]))) lK = some (.lst ((plainOf e.2.1).map V.str)) := by rw [upd_ne lW]; exact eK
    have gK : DGet (upd D7 W (.dK (kvs [("feed", V.ref l0), ("dice", V.ref l1), ("table", V.ref l2), ("source", V.ref l3), ("field", V.ref l4), ("flag", V.ref l5), ("slot", V.ref l6)]))) W (.str e.2.1) (some (.ref lK)) := by
      have := DGet.k (k := Sum.inr e.2.1) eU
      rw [valV_kvs, gL] at this
      exact this
    clear eU eK gL s8 eW8 eU0 eU1 eU2 eU3 eU4 eU5 eU6 eT0 eT1 eT2 eT3 eT4 eT5 eT6 t0 t1 t2 t3 t4 t5 t6 s1 eW
    generalize upd D7 W (.dK (kvs [("feed", V.ref l0), ("dice", V.ref l1), ("table", V.ref l2), ("source", V.ref l3), ("field", V.ref l4), ("flag", V.ref l5), ("slot", V.ref l6)])) = D8 at *
    -- the words
    refine ⟨_, rfl, _, rfl, W, _, rfl, gK, by show 1 ≤ sizeLine; decide, fun o1 no1 => ?_⟩
    have p3 : (plainOf e.2.1).length ≤ 3 := (by decide +kernel : ∀ z ∈ k7, (plainOf z).length ≤ 3) _ hkd
    refine ⟨lK, o1, _, _, rfl, rfl, same_new no1 _ _ eK9, upd_same, len1000 (n := ((plainOf e.2.1).map V.str).length + 1) (by rw [List.length_map]; omega), fun c nc => ?_⟩
    have s10 := (s9.trans (same_new (o := .lst [.str "spy"]) no1)).trans (same_new (o := .lst ((plainOf e.2.1).map V.str ++ [.str "spy"])) nc)
    have ec : (upd (upd D8 o1 (.lst [.str "spy"])) c (.lst ((plainOf e.2.1).map V.str ++ [.str "spy"]))) c = some (.lst ((plainOf e.2.1 ++ [("spy" : Str)]).map V.str)) := by rw [upd_same, List.map_append]; rfl
    generalize upd (upd D8 o1 (.lst [.str "spy"])) c (.lst ((plainOf e.2.1).map V.str ++ [.str "spy"])) = D9 at *
    clear s9 eK9 gK no1 nc
    refine ⟨c, rfl, ⟨_, SqL.of ec⟩, fun D nD => ?_⟩
    have fr : ∀ {H' : Hp} {z : Addr}, Same H H' → H' z = none → H z = none := fun {H' z} sm e => by
      cases q : H z with
      | none => rfl
      | some o => rw [sm _ _ q] at e; cases e
    have nDH := fr s10 nD
    have DL : D ∉ L := al.not nDH
    refine lc_list (K := K) (a := c) (xs := (plainOf e.2.1 ++ [("spy" : Str)]).map V.str) (fun i H' => ∃ ys, H' D = some (.lst ys) ∧ ys.length = i ∧ Paired (LkTup K (mask (D :: L) H') e.1) ys (((plainOf e.2.1 ++ [("spy" : Str)]).take i).map (fun z => (z, []))) ∧ Same D9 H') ⟨[], upd_same, rfl, .nil, same_new nD⟩ (fun i H' _ ⟨_, _, _, _, hI⟩ => hI.seq (SqL.of ec)) (fun i y H' hy hI => ?_) (fun H' hI => ?_)
    · obtain ⟨ys, eD, yl, hp, sD⟩ := hI
      rw [List.getElem?_map] at hy
      obtain ⟨z, hz, rfl⟩ := Option.map_eq_some_iff.mp hy
      have hi : i < 4 := by
        have := (List.getElem?_eq_some_iff.mp hz).1
        rw [List.length_append] at this
        simp at this
        omega
      refine ⟨rfl, _, rfl, _, rfl, by show 2 ≤ sizeLine; decide, fun q nq => ?_⟩
      have sq := same_new (o := .tup [.str z, .str e.1]) nq
      have nqD : q ≠ D := (ne_of_none eD nq).symm
      have qL : q ∉ D :: L := fun m => by
        rcases List.mem_cons.mp m with w | m
        · exact nqD w
        · exact al.not (fr (s10.trans sD) nq) m
      have eq1 : SqT K (mask (D :: L) (upd H' q (.tup [.str z, .str e.1]))) q [.str z, .str e.1] := SqT.of (mask_upd qL)
      have hp2 := paired_imp (fun _ _ r => r.same (mask_same sq)) hp
      have eD2 := sq _ _ eD
      have sD2 := sD.trans sq
      generalize upd H' q (.tup [.str z, .str e.1]) = Hq at *
      have m2 : Same (mask (D :: L) Hq) (mask (D :: L) (upd Hq D (.lst (ys ++ [.ref q])))) := mask_at List.mem_cons_self
      refine ⟨_, eD2, small1000 (by omega), ys ++ [.ref q], by rw [upd_same], by rw [List.length_append, yl]; rfl, ?_, same_off sD2 nD⟩
      rw [List.take_add_one, hz, List.map_append]
      exact paired_app (paired_imp (fun _ _ r => r.same m2) hp2) (.cons ⟨q, rfl, Same.seqT m2 eq1⟩ .nil)
    · obtain ⟨ys, eD, yl, hp, sD⟩ := hI
      rw [List.length_map, List.take_length] at hp
      rw [List.length_map] at yl
      have sA := s10.trans sD
      have hp2 := paired_imp (fun _ _ r => r.same (mask_less (D := D))) hp
      have yl2 : ys.length ≤ 4 := by
        rw [yl, List.length_append]
        show (plainOf e.2.1).length + 1 ≤ 4
        omega
      clear hp ec sD s10
      refine ⟨fun v H2 => ∃ (kp : Addr) (ks : List Str), v = .ref kp ∧ SqT K H2 kp (ks.map V.str) ∧ ks = (if e.2.1 = "table" then e.2.2 else []) ∧ Same H' H2, ⟨_, rfl, rfl, _, rfl, ?_⟩, fun v H2 hG => ?_⟩
      · show (if decide (V.str e.2.1 = V.str "table") = true then _ else _)
        by_cases hk : e.2.1 = "table"
        · rw [decide_eq_true (show V.str e.2.1 = V.str "table" by rw [hk])]
          exact iteT ⟨_, rfl, pt, e.2.2, rfl, Same.seqT sA hpt0, by rw [if_pos hk], Same.refl _⟩
        · rw [show decide (V.str e.2.1 = V.str "table") = false from decide_eq_false fun z => hk (by injection z)]
          exact iteF fun p np => ⟨p, [], rfl, .inl (.inr ⟨_, upd_same⟩), by rw [if_neg hk], same_new np⟩
      · obtain ⟨kp, ks, rfl, hks, eks, s2⟩ := hG
        have k4 : ks.length ≤ 4 := by
          rw [eks]
          split
          · exact h4
          · exact Nat.zero_le _
        have hp3 := paired_imp (fun _ _ r => r.same (mask_same s2)) hp2
        have eD3 := s2 _ _ eD
        have s3 := sA.trans s2
        have eks2 : ((plainOf e.2.1 ++ [("spy" : Str)]).map (fun z => (z, ([] : List Str)))) ++ ks.flatMap keyLooks = looksOf e := by rw [eks]; rfl
        clear hp2 eD sA s2 eks
        refine ⟨kp, rfl, ⟨_, hks⟩, ?_⟩
        refine for_it (walk_tup (K := K) (a := kp) (xs := ks.map V.str)) (fun i σ H4 => ∃ (ld : Addr) (ys : List V) (y7 : Option V), σ = [some (.ref t), some (.str e.2.1), some (.str e.1), some (.ref pt), some (.ref W), some (.ref ld), none, y7] ∧ H ld = none ∧ H4 ld = some (.lst ys) ∧ ys.length ≤ 4 + 4 * i ∧ Paired (LkTup K (mask L H4) e.1) ys ((plainOf e.2.1 ++ [("spy" : Str)]).map (fun z => (z, [])) ++ (ks.take i).flatMap keyLooks) ∧ Same H H4 ∧ Same H2 H4) ⟨D, ys, _, rfl, nDH, eD3, by omega, by rw [List.take_zero, List.flatMap_nil, List.append_nil]; exact hp3, s3, Same.refl _⟩ (fun i σ H4 _ ⟨_, _, _, _, _, _, _, _, _, s⟩ => Same.seqT s hks) ?_ ?_
        · rintro i y σ H4 H5 hi ⟨ld, ys, y7, rfl, nld, eld, hyl, hpp, s4, s24⟩ ⟨rfl, hy⟩
          rw [List.getElem?_map] at hy
          obtain ⟨z, hz, rfl⟩ := Option.map_eq_some_iff.mp hy
          have hi4 : i < 4 := by have := (List.getElem?_eq_some_iff.mp hz).1; omega
          refine ⟨_, rfl, _, rfl, _, rfl, by show 3 ≤ sizeLine; decide, fun q1 n1 => ?_⟩
          have a1 := same_new (o := .tup [.str "get", .str e.1, .str z]) n1
          have l1 := al.not (fr s4 n1)
          have e1 : SqT K (mask L (upd H5 q1 (.tup [.str "get", .str e.1, .str z]))) q1 [.str "get", .str e.1, .str z] := SqT.of (mask_upd l1)
          generalize upd H5 q1 (.tup [.str "get", .str e.1, .str z]) = J1 at *
          refine ⟨_, rfl, _, rfl, by show 3 ≤ sizeLine; decide, fun q2 n2 => ?_⟩
          have a2 := same_new (o := .tup [.str "drop", .str e.1, .str z]) n2
          have l2 := al.not (fr (s4.trans a1) n2)
          have e2 : SqT K (mask L (upd J1 q2 (.tup [.str "drop", .str e.1, .str z]))) q2 [.str "drop", .str e.1, .str z] := SqT.of (mask_upd l2)
          generalize upd J1 q2 (.tup [.str "drop", .str e.1, .str z]) = J2 at *
          refine ⟨_, rfl, _, rfl, by show 3 ≤ sizeLine; decide, fun q3 n3 => ?_⟩
          have a3 := same_new (o := .tup [.str "peek", .str e.1, .str z]) n3
          have l3 := al.not (fr ((s4.trans a1).trans a2) n3)
          have e3 : SqT K (mask L (upd J2 q3 (.tup [.str "peek", .str e.1, .str z]))) q3 [.str "peek", .str e.1, .str z] := SqT.of (mask_upd l3)
          generalize upd J2 q3 (.tup [.str "peek", .str e.1, .str z]) = J3 at *
          refine ⟨_, rfl, _, rfl, by show 3 ≤ sizeLine; decide, fun q4 n4 => ?_⟩
          have a4 := same_new (o := .tup [.str "has", .str e.1, .str z]) n4
          have l4 := al.not (fr (((s4.trans a1).trans a2).trans a3) n4)
          have e4 : SqT K (mask L (upd J3 q4 (.tup [.str "has", .str e.1, .str z]))) q4 [.str "has", .str e.1, .str z] := SqT.of (mask_upd l4)
          generalize upd J3 q4 (.tup [.str "has", .str e.1, .str z]) = J4 at *
          refine ⟨by show 4 ≤ sizeLine; decide, fun q5 n5 => ?_⟩
          have a5 := same_new (o := .lst [.ref q1, .ref q2, .ref q3, .ref q4]) n5
          have e5 : (upd J4 q5 (.lst [.ref q1, .ref q2, .ref q3, .ref q4])) q5 = some (.lst [.ref q1, .ref q2, .ref q3, .ref q4]) := upd_same
          generalize upd J4 q5 (.lst [.ref q1, .ref q2, .ref q3, .ref q4]) = J5 at *
          have s55 := (((a1.trans a2).trans a3).trans a4).trans a5
          refine ⟨ld, q5, _, _, rfl, rfl, s55 _ _ eld, e5, len1000 (n := ys.length + 4) (by omega), fun q6 n6 => ?_⟩
          have a6 := same_new (o := .lst (ys ++ [.ref q1, .ref q2, .ref q3, .ref q4])) n6
          have s56 := s55.trans a6
          refine ⟨q6, ys ++ [.ref q1, .ref q2, .ref q3, .ref q4], _, rfl, fr (s4.trans s55) n6, upd_same, by rw [List.length_append]; show ys.length + 4 ≤ _; omega, ?_, s4.trans s56, s24.trans s56⟩
          rw [List.take_add_one, hz, List.flatMap_append, ← List.append_assoc]
          refine paired_app (paired_imp (fun _ _ r => r.same (mask_same s56)) hpp) ?_
          have m1 := mask_same (l := L) ((((a2.trans a3).trans a4).trans a5).trans a6)
          have m2 := mask_same (l := L) (((a3.trans a4).trans a5).trans a6)
          have m3 := mask_same (l := L) ((a4.trans a5).trans a6)
          have m4 := mask_same (l := L) (a5.trans a6)
          exact .cons ⟨q1, rfl, Same.seqT m1 e1⟩ (.cons ⟨q2, rfl, Same.seqT m2 e2⟩ (.cons ⟨q3, rfl, Same.seqT m3 e3⟩ (.cons ⟨q4, rfl, Same.seqT m4 e4⟩ .nil)))
        · rintro σ H4 ⟨ld, ys, y7, rfl, nld, eld, hyl, hpp, s4, s24⟩
          rw [List.length_map, List.take_length, eks2] at hpp
          exact ⟨_, rfl, kk ld ys H4 s4 nld eld hpp⟩
end
/-! ### a written dict's get with a default -/
section
variable {X : Cx} {o e f : Expr} {apos cpos : Pos} {td ty tx : TE} {d : Addr} {es : Array DictEntry} {n : Nat}
def tKGet (K : PySem.W.Frag) (d : Addr) (td ty tx : TE) : TE := fun σ H Q => td σ H fun x H1 => x = .ref d ∧ ty σ H1 fun y H2 => tx σ H2 fun df H3 =>
  ∃ (z : Str) (r : Option Value), y = .str z ∧ PySem.W.nsIn K d z = some r ∧ (r = none → Q df H3) ∧ ∀ u0, r = some u0 → ∃ v0, RelV v0 u0 ∧ Q v0 H3
theorem pe_kget2 (D : KDict X.K X.w d es n) (ho : PE X o td) (he : PE X e ty) (hf : PE X f tx) (m : M2 X o "get" apos e f cpos) : PE X (.Call (.Attribute o "get" apos) [e, f] [] cpos) (tKGet X.K d td ty tx) := by
  refine ⟨fun pins s σ H Q I h => ?_⟩
  refine wpAny_Call_method m.base m.few m.line PySem.F.plainAttrs_dict PySem.F.slot_dict_get PySem.F.type_dict_get (thn (ho.run pins s σ H _ I h) fun u s1 hx => ?_)
  obtain ⟨x, H1, I1, rx, ex, q1⟩ := hx
  subst ex
  obtain rfl : u = Value.ref d := rx
  refine ⟨kd_type D I1, fun a ea => ?_, ?_⟩
  · cases ea
    exact ⟨_, I1.kIn _ _ D.at_, rfl⟩
  rw [m.trees]
  refine Calls.callWith_builtin rfl (Calls.evalArgs_plain (Calls.spliced_cons (thn (he.run pins s1 σ H1 _ I1 q1) fun iv s2 hy => ?_)))
  obtain ⟨y, H2, I2, ry, q2⟩ := hy
  refine Calls.spliced_cons (thn (hf.run pins s2 σ H2 _ I2 q2) fun fv s3 hz => Calls.spliced_nil ?_)
  obtain ⟨df, H3, I3, rz, z, r, ey, er, qn, qs⟩ := hz
  subst ey
  obtain ⟨t, rfl⟩ := ry
  refine call_meetsIn PySem.F.slot_dict_get (kd_type D I3) PySem.F.entry_dict_get (PySem.F.args_dict_get_3 _ _ _) (meets_dict_get_default (strKind X.prog X.w) d (PySem.strKind_is X.prog X.w z t) D.low _) ⟨_, PySem.W.mapOf_K (prog := X.prog) I3.kIn D.at_ D.lit, ?_⟩
  rw [PySem.W.find_K D.at_ er]
  cases r with
  | none => exact ⟨df, H3, I3.tok _, rz, qn rfl⟩
  | some u0 =>
    obtain ⟨v0, r0, q0⟩ := qs u0 rfl
    exact ⟨v0, H3, I3.tok _, r0, q0⟩
end
/-! ### looks -/
/-- the qwords of looks, each with the word of its quiet twin where it leaves a trace -/
def qwords : List (Str × Option Str) :=
  [("take", some "spy"), ("drain", some "spy"), ("roll", some "spy"), ("get", some "peek"), ("drop", some "has"), ("look", some "glance"), ("renew", some "glance"), ("read", some "watch"), ("mark", some "bound"),
   ("peek", none), ("has", none), ("size", none), ("keys", none), ("glance", none), ("watch", none), ("tell", none), ("bound", none), ("spy", none)]
/-- what the written dict says of them -/
structure Quiet (K : PySem.W.Frag) (w : World) (d : Addr) : Prop where
  kd : ∃ es n, KDict K w d es n
  says : ∀ p ∈ qwords, ∃ u : Option Value, PySem.W.nsIn K d p.1 = some u ∧ (p.2 = none → u = none) ∧ ∀ z, p.2 = some z → ∃ t, u = some (.str z t)
def spTrace (K : PySem.W.Frag) : Sp := fun vs H Q _ => ∃ (v : V) (p : Str × Option Str) (rest : List PyData), vs = [v] ∧ Dp K H v (.tuple (.str p.1 :: rest)) ∧ p ∈ qwords ∧ Q (.bl p.2.isSome) H
def spTwin (K : PySem.W.Frag) : Sp := fun vs H Q _ => ∃ (v : V) (p : Str × Option Str) (x : PyData) (rest : List PyData) (l : List Addr), vs = [v] ∧ Dp K (mask l H) v (.tuple (.str p.1 :: x :: rest)) ∧ rest.length ≤ 10 ∧ p ∈ qwords ∧ Alive l H ∧
  ∀ (u : V) (H' : Hp), Same H H' → Dp K (mask l H') u (.tuple (.str (p.2.getD p.1) :: x :: rest)) → Q u H'
def spThOf (K : PySem.W.Frag) : Sp := fun vs H Q _ => ∃ (v : V) (d : PyData) (x : Str) (rest : List PyData), vs = [v] ∧ Dp K H v (.tuple (d :: .str x :: rest)) ∧ Q (.str x) H
section
variable {P : Program} {w : World} {K : PySem.W.Frag} {mg : Str → Option Value} {base : Heap}
theorem scTrc : FnScope ["look"] ["look"] (defScope sTrace) := ⟨rfl, rfl, rfl, by decide +kernel, rfl, by decide +kernel, by decide +kernel⟩
theorem ok_trace {f d : Addr} {fd : FuncData} {k : Nat} (F : Fun K "leaves_trace" "leaves_trace" sTrace f fd) (mq : mg "QUIET_WORDS" = some (.ref d)) (W : Quiet K w d) : FnOk P w K mg base CX0 (k + 1) f fd ["look"] (spTrace K) := by
  refine F.ok scTrc (fun vs H Q E h => ?_) (fun cdv A outer s H vs Q E hr h => ?_)
  · obtain ⟨v, p, rest, rfl, _⟩ := h
    rfl
  · obtain ⟨v, p, rest, rfl, hv, hp, kk⟩ := h
    obtain ⟨⟨es, n, D⟩, says⟩ := W
    refine ⟨_, pss_one (ps_ret (pe_cmpR (op_in_kd D) (pe_ix ix_tup (pv 0) pe_int (fun _ _ => rfl)) (pe_glob (v := .ref d) rfl mq rfl) rfl)), ?_⟩
    obtain ⟨a, xs, rfl, hs, ha⟩ := dp_tup hv
    obtain ⟨x, r, rfl, hx, _⟩ := dpAll_cons ha
    obtain rfl := dp_str hx
    obtain ⟨u, e, h0, h1⟩ := says p hp
    refine ⟨_, rfl, a, _, 0, _, rfl, rfl, hs, atI_nat (j := 0) rfl, p.1, u, rfl, rfl, e, ?_⟩
    have e2 : u.isSome = p.2.isSome := by
      cases q : p.2 with
      | none => rw [h0 q]; rfl
      | some z =>
        obtain ⟨t, e3⟩ := h1 z q
        rw [e3]; rfl
    rw [e2]
    exact kk
theorem scTwn : FnScope ["look", "word"] ["look"] (defScope sQuiet) := ⟨rfl, rfl, rfl, by decide +kernel, rfl, by decide +kernel, by decide +kernel⟩
theorem ok_twin {f d : Addr} {fd : FuncData} {k : Nat} (F : Fun K "quiet_twin" "quiet_twin" sQuiet f fd) (mq : mg "QUIET_WORDS" = some (.ref d)) (W : Quiet K w d) : FnOk P w K mg base CX0 (k + 1) f fd ["look"] (spTwin K) := by
  refine F.ok scTwn (fun vs H Q E h => ?_) (fun cdv A outer s H vs Q E hr h => ?_)
  · obtain ⟨v, p, x, rest, l, rfl, _⟩ := h
    rfl
  · obtain ⟨v, p, x, rest, l, rfl, hv, hl, hp, al, kk⟩ := h
    obtain ⟨⟨es, n, D⟩, says⟩ := W
    refine ⟨_, C8.pss_cut (ps_set (i := 1) scTwn.nd rfl (.inl rfl) (pe_kget2 D (pe_glob (v := .ref d) rfl mq rfl) (pe_ix ix_tup (pv 0) pe_int (fun _ _ => rfl)) (pe_ix ix_tup (pv 0) pe_int (fun _ _ => rfl)) ⟨rfl, rfl, rfl, rfl⟩))
      (pss_one (ps_ret (pe_tup (pa_cons (pv 1) (StX.pa_star (pe_slice sl_tup (pv 0) (po_some pe_int) po_none) pa_nil))))), ?_⟩
    obtain ⟨a, xs, rfl, hs, ha⟩ := dp_tup hv
    obtain ⟨y, r, rfl, hy, hr1⟩ := dpAll_cons ha
    obtain rfl := dp_str hy
    obtain ⟨u, e, h0, h1⟩ := says p hp
    have hsH : SqT K H a (.str p.1 :: r) := Same.seqT (mask_sub l H) hs
    refine ⟨fun σ H1 => σ = [some (.ref a), some (.str (p.2.getD p.1))] ∧ H1 = H, ?_, ?_⟩
    · refine ⟨rfl, _, rfl, a, _, 0, _, rfl, rfl, hsH, atI_nat (j := 0) rfl, _, rfl, a, _, 0, _, rfl, rfl, hsH, atI_nat (j := 0) rfl, p.1, u, rfl, e, fun e0 => ?_, fun u0 eu => ?_⟩
      · cases q : p.2 with
        | none => exact ⟨rfl, rfl⟩
        | some z =>
          obtain ⟨t, e3⟩ := h1 z q
          rw [e3] at e0; cases e0
      · cases q : p.2 with
        | none => rw [h0 q] at eu; cases eu
        | some z =>
          obtain ⟨t, e3⟩ := h1 z q
          rw [e3] at eu
          cases eu
          exact ⟨.str z, ⟨t, rfl⟩, rfl, rfl⟩
    · rintro σ H1 ⟨rfl, rfl⟩
      refine ⟨_, rfl, _, rfl, 1, rfl, a, _, rfl, hsH, fun z => ?_, fun p1 n1 => ?_⟩
      · have z1 := z.1
        rw [show HT.sIx (V.str p.1 :: r).length 0 (some 1) = min 1 (V.str p.1 :: r).length from HT.sIx_nat _ 0 1, List.length_cons] at z1
        omega
      · rw [cut_tail]
        have er := dpAll_len hr1
        have al1 : Alive l (upd H1 p1 (.tup r)) := al.same (same_new n1)
        refine ⟨p1, r, rfl, .inl (SqT.of upd_same), ?_⟩
        refine ⟨by rw [List.append_nil, List.length_cons, er, List.length_cons]; exact len1000 (by omega), fun p2 n2 => ?_⟩
        have s2 : Same H1 (upd (upd H1 p1 (.tup r)) p2 (.tup (.str (p.2.getD p.1) :: (r ++ [])))) := (same_new n1).trans (same_new n2)
        refine kk _ _ s2 (.tup (SqT.of (mask_upd (al1.not n2))) ?_)
        simp only [List.append_nil] at s2 ⊢
        exact .cons (.str _) (dpAll_same (mask_same s2) _ _ hr1)
end

section
variable {P : Program} {w : World} {K : PySem.W.Frag} {mg : Str → Option Value} {base : Heap}
theorem scThof : FnScope ["look"] ["look"] (defScope sThOf) := ⟨rfl, rfl, rfl, by decide +kernel, rfl, by decide +kernel, by decide +kernel⟩
theorem ok_thof {f : Addr} {fd : FuncData} {k : Nat} (F : Fun K "thing_of" "thing_of" sThOf f fd) : FnOk P w K mg base CX0 (k + 1) f fd ["look"] (spThOf K) := by
  refine F.ok scThof (fun vs H Q E h => ?_) (fun cdv A outer s H vs Q E hr h => ?_)
  · obtain ⟨v, d, x, rest, rfl, _⟩ := h
    rfl
  · obtain ⟨v, d, x, rest, rfl, hv, kk⟩ := h
    refine ⟨_, pss_one (ps_ret (pe_ix ix_tup (pv 0) pe_int (fun _ _ => rfl))), ?_⟩
    obtain ⟨a, xs, rfl, hs, ha⟩ := dp_tup hv
    obtain ⟨y, r, rfl, hy, hr1⟩ := dpAll_cons ha
    obtain ⟨z, r2, rfl, hz, _⟩ := dpAll_cons hr1
    obtain rfl := dp_str hz
    exact ⟨_, rfl, a, _, 1, _, rfl, rfl, hs, atI_nat (j := 1) rfl, kk⟩
end
/-! ### _law_pair -/
def eqW : List Str := ["read", "watch", "glance", "tell", "bound", "size", "keys", "peek", "has"]
structure PairOk (word : Str) (told heard value : PyData) : Prop where
  get : word = "get" → (heard = .none → told = .int 0) ∧ (heard ≠ .none → told = heard)
  eq : word ≠ "get" → word ∈ eqW → told = heard
  look : word ≠ "get" → word ∉ eqW → word = "look" → told = value ∧ (heard = .none ∨ heard = told)
  rest : word ≠ "get" → word ∉ eqW → word ≠ "look" → word ∈ (["take", "roll"] : List Str) ∨ told = .none
def spPair (K : PySem.W.Frag) : Sp := fun vs H Q _ => ∃ (l v1 v2 v3 : V) (a : Addr) (word : Str) (rest : List V) (d1 d2 d3 : PyData), vs = [.ref a, v1, v2, v3] ∧ SqT K H a (.str word :: rest) ∧ Dp K H v1 d1 ∧ Dp K H v2 d2 ∧ Dp K H v3 d3 ∧ dp 3 d1 ∧ dp 3 d2 ∧ dp 3 d3 ∧ PairOk word d1 d2 d3 ∧ ∀ H', Same H H' → Q (.bl true) H'
theorem none_of {K : PySem.W.Frag} {H : Hp} {v : V} {d : PyData} (h : Dp K H v d) : v = .non ↔ d = .none := by
  cases h <;> simp
section
variable {P : Program} {w : World} {K : PySem.W.Frag} {mg : Str → Option Value} {base : Heap}
theorem scPr : FnScope ["look", "told", "heard", "value", "word"] ["look", "told", "heard", "value"] (defScope sPair) := ⟨rfl, rfl, rfl, by decide +kernel, rfl, by decide +kernel, by decide +kernel⟩
theorem ok_pair {f fS : Addr} {fd fdS : FuncData} (F : Fun K "_law_pair" "_law_pair" sPair f fd) (GS : FnOk P w K mg base CX0 3 fS fdS ["actual", "due"] (spSameE K 3)) (mS : mg "_law_same" = some (.ref fS)) (kS : PySem.W.keepIn K (.ref fS) = true) (bS : Binds K fdS ["actual", "due"] []) : FnOk P w K mg base CX0 4 f fd ["look", "told", "heard", "value"] (spPair K) := by
  refine F.ok scPr (fun vs H Q E h => ?_) (fun cdv A outer s0 H vs Q E hr h => ?_)
  · obtain ⟨l, v1, v2, v3, a, word, rest, d1, d2, d3, rfl, _⟩ := h
    rfl
  · obtain ⟨l, v1, v2, v3, a, word, rest, d1, d2, d3, rfl, ha, h1, h2, h3, p1, p2, p3, ok, kk⟩ := h
    have hrS : Room 3 _ := hr
    refine ⟨_, pss_cons (ps_set (i := 4) scPr.nd rfl (.inl rfl) (pe_ix ix_tup (pv 0) pe_int (fun _ _ => rfl)))
      (pss_cons (ps_if (pt_cmpR op_eq (pv 4) pe_str (nomark _))
        (pss_one (ps_ret (pe_call GS hrS (by rfl) mS kS bS .nil pass0 (pa_cons (pv 1) (pa_cons (pe_ifExp (pt_cmpR op_isN (pv 2) pe_non (nomark _)) pe_int (pv 2)) pa_nil)))))
        pss_nil)
      (pss_cons (ps_if (pt_cmpR op_in_seq (pv 4) (pe_tup (pa_cons pe_str (pa_cons pe_str (pa_cons pe_str (pa_cons pe_str (pa_cons pe_str (pa_cons pe_str (pa_cons pe_str (pa_cons pe_str (pa_cons pe_str pa_nil)))))))))) (by rfl))
        (pss_one (ps_ret (pe_call GS hrS (by rfl) mS kS bS .nil pass0 (pa_cons (pv 1) (pa_cons (pv 2) pa_nil)))))
        pss_nil)
      (pss_cons (ps_if (pt_cmpR op_eq (pv 4) pe_str (nomark _))
        (pss_one (ps_ret (pe_and (pe_call GS hrS (by rfl) mS kS bS .nil pass0 (pa_cons (pv 1) (pa_cons (pv 3) pa_nil))) (pe_one (pe_or (pe_cmpR op_isN (pv 2) pe_non (nomark _)) (pe_one (pe_call GS hrS (by rfl) mS kS bS .nil pass0 (pa_cons (pv 2) (pa_cons (pv 1) pa_nil)))))))))
        pss_nil)
      (pss_one (ps_ret (pe_or (pe_cmpR op_in_seq (pv 4) (pe_tup (pa_cons pe_str (pa_cons pe_str pa_nil))) (by rfl)) (pe_one (pe_cmpR op_isN (pv 1) pe_non (nomark _))))))))), ?_⟩
    refine ⟨_, rfl, a, _, 0, _, rfl, rfl, ha, atI_nat (j := 0) rfl, ?_⟩
    refine ⟨_, rfl, rfl, _, rfl, ?_⟩
    show (if decide (V.str word = V.str "get") = true then _ else _)
    by_cases w1 : word = "get"
    · rw [decide_eq_true (show V.str word = V.str "get" by rw [w1])]
      refine iteT ⟨_, rfl, _, rfl, rfl, _, rfl, ?_⟩
      have e := ok.get w1
      by_cases z : d2 = .none
      · rw [decide_eq_true ((none_of h2).mpr z)]
        have e := e.1 z
        refine iteT ⟨v1, .int 0, d1, .int 0, rfl, h1, .int 0, p1, by simp [dp], fun b hb => ?_⟩
        obtain rfl := hb.mpr e
        exact kk H (Same.refl H)
      · rw [decide_eq_false fun q => z ((none_of h2).mp q)]
        have e := e.2 z
        refine iteF ⟨_, rfl, v1, v2, d1, d2, rfl, h1, h2, p1, p2, fun b hb => ?_⟩
        obtain rfl := hb.mpr e
        exact kk H (Same.refl H)
    rw [show decide (V.str word = V.str "get") = false from decide_eq_false fun z => w1 (by injection z)]
    refine iteF ⟨_, rfl, by show 9 ≤ sizeLine; decide, fun t1 nt1 => ?_⟩
    have s1 := same_new (o := .tup [.str "read", .str "watch", .str "glance", .str "tell", .str "bound", .str "size", .str "keys", .str "peek", .str "has"]) nt1
    have et1 : SqT K (upd H t1 (.tup [.str "read", .str "watch", .str "glance", .str "tell", .str "bound", .str "size", .str "keys", .str "peek", .str "has"])) t1 [.str "read", .str "watch", .str "glance", .str "tell", .str "bound", .str "size", .str "keys", .str "peek", .str "has"] := SqT.of upd_same
    generalize upd H t1 (.tup [.str "read", .str "watch", .str "glance", .str "tell", .str "bound", .str "size", .str "keys", .str "peek", .str "has"]) = H1 at *
    refine ⟨t1, _, rfl, .inr et1, rfl, rfl, _, rfl, ?_⟩
    show (if inV (V.str word) [.str "read", .str "watch", .str "glance", .str "tell", .str "bound", .str "size", .str "keys", .str "peek", .str "has"] = true then _ else _)
    rw [inW (xs := eqW) (vs := [.str "read", .str "watch", .str "glance", .str "tell", .str "bound", .str "size", .str "keys", .str "peek", .str "has"]) rfl]
    have q1 := dp_same s1 _ _ h1
    have q2 := dp_same s1 _ _ h2
    have q3 := dp_same s1 _ _ h3
    by_cases w2 : word ∈ eqW
    · rw [decide_eq_true w2]
      refine iteT ⟨_, rfl, _, rfl, v1, v2, d1, d2, rfl, q1, q2, p1, p2, fun b hb => ?_⟩
      obtain rfl := hb.mpr (ok.eq w1 w2)
      exact kk H1 s1
    rw [decide_eq_false w2]
    refine iteF ⟨_, rfl, rfl, _, rfl, ?_⟩
    show (if decide (V.str word = V.str "look") = true then _ else _)
    by_cases w3 : word = "look"
    · rw [decide_eq_true (show V.str word = V.str "look" by rw [w3])]
      obtain ⟨e1, e2⟩ := ok.look w1 w2 w3
      refine iteT ⟨_, rfl, _, rfl, v1, v3, d1, d3, rfl, q1, q3, p1, p3, fun b hb => ?_⟩
      obtain rfl := hb.mpr e1
      refine ⟨true, rfl, iteT ⟨_, rfl, rfl, _, rfl, ?_⟩⟩
      by_cases z : d2 = .none
      · rw [decide_eq_true ((none_of h2).mpr z)]
        exact iteT (kk H1 s1)
      · rw [decide_eq_false fun q => z ((none_of h2).mp q)]
        refine iteF ⟨_, rfl, _, rfl, v2, v1, d2, d1, rfl, q2, q1, p2, p1, fun b hb => ?_⟩
        obtain rfl := hb.mpr (e2.resolve_left z)
        exact kk H1 s1
    rw [show decide (V.str word = V.str "look") = false from decide_eq_false fun z => w3 (by injection z)]
    refine iteF ⟨_, rfl, by show 2 ≤ sizeLine; decide, fun t2 nt2 => ?_⟩
    have s2 := s1.trans (same_new (o := .tup [.str "take", .str "roll"]) nt2)
    have et2 : SqT K (upd H1 t2 (.tup [.str "take", .str "roll"])) t2 [.str "take", .str "roll"] := SqT.of upd_same
    generalize upd H1 t2 (.tup [.str "take", .str "roll"]) = H2 at *
    refine ⟨t2, _, rfl, .inr et2, rfl, rfl, _, rfl, ?_⟩
    show (if inV (V.str word) [.str "take", .str "roll"] = true then _ else _)
    rw [inW (xs := ["take", "roll"]) (vs := [.str "take", .str "roll"]) rfl]
    by_cases w4 : word ∈ (["take", "roll"] : List Str)
    · rw [decide_eq_true w4]
      exact iteT (kk H2 s2)
    · rw [decide_eq_false w4]
      have z := (ok.rest w1 w2 w3).resolve_left w4
      refine iteF ⟨_, rfl, rfl, ?_⟩
      rw [decide_eq_true ((none_of h1).mpr z)]
      exact kk H2 s2
end
/-! ### a world of rows, as a law keeps it -/
structure WI (K : PySem.W.Frag) (C CS CW p q tl x s ct : Addr) (xs : List V) (tv : List (Str × V)) (L : List Addr) (H : Hp) (W : Ws) (n : Nat) : Prop where
  pL : p ∈ L
  qL : q ∈ L
  P : PoolAt H p q n
  T : SqL K (mask L H) tl xs
  R : Paired (ThTup K (mask L H)) xs W.th
  Wo : WoAt K L H CW x s (tv.map (·.2))
  St : StAt K L H C CS s ct W
  Tv : ThL K (mask L H) C tv W.th
  cs : CsOk W.th W.cs
  ft : FtOk W
/-- what does not change with the world -/
structure ThW (ns : List Str) (th : Ths) : Prop where
  ok : ThsOk ns th
  nd : (names th).Nodup
  l8 : th.length ≤ 8
  ne : th ≠ []
section
variable {K : PySem.W.Frag} {C CS CW p q tl x s ct : Addr} {xs : List V} {tv : List (Str × V)} {L L' : List Addr} {H H' : Hp} {W W' : Ws} {n n' : Nat}
theorem WI.over (h : WI K C CS CW p q tl x s ct xs tv L H W n) (c : Same (mask L H) (mask L' H')) (pL : p ∈ L') (qL : q ∈ L') (sL : s ∈ L') (cL : ct ∈ L') (P' : PoolAt H' p q n') (es : ∀ o, H s = some o → H' s = some o) (ec : ∀ o, H ct = some o → H' ct = some o) : WI K C CS CW p q tl x s ct xs tv L' H' W n' :=
  ⟨pL, qL, P', c.seq h.T, paired_imp (fun _ _ r => r.same c) h.R, h.Wo.over c, h.St.over c sL cL es ec, h.Tv.same c, h.cs, h.ft⟩
theorem WI.same (h : WI K C CS CW p q tl x s ct xs tv L H W n) (c : Same H H') : WI K C CS CW p q tl x s ct xs tv L H' W n :=
  h.over (mask_same c) h.pL h.qL h.St.sL h.St.cL (h.P.same c) (fun o e => c _ _ e) fun o e => c _ _ e
theorem WI.wide (h : WI K C CS CW p q tl x s ct xs tv L H W n) (c : Same H H') (sub : ∀ z ∈ L, z ∈ L') (new : ∀ z ∈ L', z ∈ L ∨ H z = none) : WI K C CS CW p q tl x s ct xs tv L' H' W n :=
  h.over (mask_ext c new) (sub _ h.pL) (sub _ h.qL) (sub _ h.St.sL) (sub _ h.St.cL) (h.P.same c) (fun o e => c _ _ e) fun o e => c _ _ e
theorem WI.fewer (h : WI K C CS CW p q tl x s ct xs tv L H W n) (sub : ∀ z ∈ L', z ∈ L) (pL : p ∈ L') (qL : q ∈ L') (sL : s ∈ L') (cL : ct ∈ L') : WI K C CS CW p q tl x s ct xs tv L' H W n :=
  h.over (mask_fewer sub) pL qL sL cL h.P (fun _ e => e) fun _ e => e
theorem WI.pool (h : WI K C CS CW p q tl x s ct xs tv L H W n) (P' : PoolAt H' p q n') (k : Keeps p q H H') : WI K C CS CW p q tl x s ct xs tv L H' W n' := by
  have c := k.maskL h.pL h.qL
  exact ⟨h.pL, h.qL, P', c.seq h.T, paired_imp (fun _ _ r => r.same c) h.R, h.Wo.keep c, h.St.pool h.P k h.pL h.qL, h.Tv.same c, h.cs, h.ft⟩
theorem WI.alive (h : WI K C CS CW p q tl x s ct xs tv L H W n) (hl : L = [s, ct, p, q]) : Alive L H := by
  subst hl
  obtain ⟨ds, bn, tl, es, _⟩ := h.St.dict
  obtain ⟨_, _, _, _, _, l, _, _, _, e4, _⟩ := h.St
  intro z m
  rcases List.mem_cons.mp m with rfl | m
  · exact ⟨_, es⟩
  · rcases List.mem_cons.mp m with rfl | m
    · exact ⟨_, e4⟩
    · exact h.P.alive z m
theorem WI.cl (h : WI K C CS CW p q tl x s ct xs tv L H W n) (h8 : W.th.length ≤ 8) : W.cs.length ≤ 8 := by
  have := congrArg List.length h.cs.nm
  unfold names at this
  rw [List.length_map, List.length_map] at this
  omega
theorem WI.upd (h : WI K C CS CW p q tl x s ct xs tv L H W n) {b : Addr} {o : HO} (m : b ∈ L) (n1 : b ≠ s) (n2 : b ≠ ct) (n3 : b ≠ p) (n4 : b ≠ q) : WI K C CS CW p q tl x s ct xs tv L (L2.upd H b o) W n :=
  h.over (mask_at m) h.pL h.qL h.St.sL h.St.cL (h.P.upd n3 n4) (fun u e => by rw [upd_ne n1.symm]; exact e) fun u e => by rw [upd_ne n2.symm]; exact e
theorem WI.off (h : WI K C CS CW p q tl x s ct xs tv L H W n) {b : Addr} (nb : H b = none) : b ≠ s ∧ b ≠ ct ∧ b ≠ p ∧ b ≠ q := by
  obtain ⟨ds, bn, tl, es, _⟩ := h.St.dict
  obtain ⟨_, _, _, _, _, l, _, _, _, e4, _⟩ := h.St
  obtain ⟨_, e1⟩ := h.P.p_some
  obtain ⟨_, e2⟩ := h.P.q_some
  exact ⟨(ne_of_none es nb).symm, (ne_of_none e4 nb).symm, (ne_of_none e1 nb).symm, (ne_of_none e2 nb).symm⟩
end
section
variable {P : Program} {w : World} {K : PySem.W.Frag} {mg : Str → Option Value} {base : Heap}
theorem deed_len {th : Ths} {e : Tr} {word : Str} {rest : List PyData} (h : DeedW th e word rest) : rest.length ≤ 1 := by
  cases h <;> simp
/-- world.do of a drawn deed -/
theorem do_drawn {C CS CW dP dA p q tl x s ct b : Addr} {xs : List V} {tv : List (Str × V)} {L : List Addr} {H : Hp} {W : Ws} {n : Nat} {ns : List Str} {e : Tr} {word : Str} {args : List V} {rest : List PyData} {Q : VK} {E' : XK} (A : Acts P w K mg base C CS dP dA) (h : WI K C CS CW p q tl x s ct xs tv L H W n) (t : ThW ns W.th) (al : Alive L H) (he : e ∈ W.th) (hb : SqT K (mask L H) b (.str word :: .str e.1 :: args)) (ha : DpAll K (mask L H) args rest) (hd : DeedW W.th e word rest)
    (k : ∀ v H' W', Chg [s, ct] H H' → W'.th = W.th → WI K C CS CW p q tl x s ct xs tv L H' W' n → After W W' word e.1 → (word = "look" → ∃ cs2 d2, LookR W.th 8 W.cs e.1 cs2 d2) → Q v H') : spDo P w K mg base C CS CW dP dA [.ref x, .ref b] H Q E' := by
  obtain ⟨kinds, R, W', d, h1, h2, h3, h4, h5, h6⟩ := does_all A t.ok t.nd t.l8 h.cs h.ft he hd
  have hlook : word = "look" → ∃ cs2 d2, LookR W.th 8 W.cs e.1 cs2 d2 := fun hw => by
    subst hw
    have hk : e.2.1 = "field" := by
      have hkd : e.2.1 ∈ k7 := (by decide +kernel : ∀ z ∈ kindsS, z ∈ k7) _ (t.ok.kd e he)
      have hin : ("look" : Str) ∈ wordsOf e.2.1 := by
        cases hd with
        | one h _ _ _ _ _ => exact h
        | key h _ => exact absurd h (by decide +kernel)
        | like h _ _ _ => exact h
      exact Classical.byContradiction fun z => (by decide +kernel : ∀ z ∈ k7, z ≠ "field" → ("look" : Str) ∉ wordsOf z) _ hkd z hin
    obtain ⟨i, ei⟩ := List.getElem?_of_mem he
    have hi8 : i ≤ 8 := by have := (List.getElem?_eq_some_iff.mp ei).1; have := t.l8; omega
    obtain ⟨cs', z, l1, _⟩ := look_all t.nd t.ok.ff 8 i e W.cs hi8 ei (.inr hk) h.cs
    exact ⟨cs', _, l1⟩
  have hl := h.cl t.l8
  have la := dpAll_len ha
  have lr := deed_len hd
  refine do_gen h1 h.Wo h.St (by omega) al hb (.cons (.str e.1) ha) (by rw [List.length_cons]; omega) h2 h3 h4 fun v H' c hW hS _ => ?_
  have mc := (c.inL h.St.sL h.St.cL).mask
  obtain ⟨_, csx, bx, cx, ep, eq, _⟩ := h.P
  refine k v H' W' c h5 ⟨h.pL, h.qL, h.P.chg c (h.St.not_lst ep) (h.St.not_lst eq), mc.seq h.T, ?_, hW, hS, ?_, ?_, h6.ft⟩ h6 hlook
  · rw [h5]; exact paired_imp (fun _ _ r => r.same mc) h.R
  · rw [h5]; exact h.Tv.same mc
  · rw [h5]; exact h6.cs
end
theorem look_of_mem {α : Type} {n : Str} {v : α} : ∀ {l : List (Str × α)}, (names l).Nodup → (n, v) ∈ l → look l n = some v
  | [], _, h => by cases h
  | p :: r, hn, h => by
    have hn' : (p.1 :: names r).Nodup := hn
    obtain ⟨n1, n2⟩ := List.nodup_cons.mp hn'
    rcases List.mem_cons.mp h with q | h
    · rw [← q]; exact look_pos (p := (n, v)) rfl
    · rw [look_neg fun q => n1 (by rw [q]; exact List.mem_map.mpr ⟨_, h, rfl⟩)]
      exact look_of_mem n2 h
/-! ### worlds == worlds -/
def sameCs (cs2 : List (Str × PyData)) : List (Str × PyData) → Bool
  | [] => true
  | p :: r => match look cs2 p.1 with
    | some d => PyData.eqv p.2 d && sameCs cs2 r
    | none => false
def sameC (cs1 cs2 : List (Str × PyData)) : Bool := cs1.length == cs2.length && sameCs cs2 cs1
theorem CsR.sh {K : PySem.W.Frag} {M : Hp} {n : Str} : ∀ {l : List (Str × V)} {cs : List (Str × PyData)}, CsR K M l cs → ∀ {v : V}, look l n = some v → ∃ d, look cs n = some d ∧ Dp K M v d
  | _, _, .nil, _, e => by cases e
  | _, _, .cons (n := m) (v := v') (d := d') h t, v, e => by
    by_cases q : m = n
    · rw [look_pos (p := (m, v')) q] at e
      obtain rfl := Option.some.inj e
      exact ⟨d', look_pos (p := (m, d')) q, h.dp⟩
    · rw [look_neg (p := (m, v')) q] at e
      obtain ⟨d, e1, h1⟩ := t.sh e
      exact ⟨d, by rw [look_neg (p := (m, d')) q]; exact e1, h1⟩
section
open PySem PySem.Spec PyProof.Rows LiI L2
variable {X : Cx} {pins : List (Addr × Obj)} {σ : L2.St} {H : Hp} {s : Shared}
theorem hits_dd (I : Inv X pins σ H s) (hu : X.A.in1.units + 64 < cLine) {l2 : List (Str × V)} {cs2 : List (Str × PyData)} {vb : List (Key × Value)} (h2 : CsR X.K H l2 cs2) (rb : KV (kvs l2) vb) (z2 : ∀ p ∈ cs2, SeqAt.shaped p.2 = true) :
    ∀ {l1 : List (Str × V)} {cs1 : List (Str × PyData)} {va : List (Key × Value)}, CsR X.K H l1 cs1 → KV (kvs l1) va → (∀ p ∈ cs1, SeqAt.shaped p.2 = true) → PySem.W.KeqHits X.A.in1 s vb va (sameCs cs2 cs1)
  | _, _, _, .nil, ra, _ => by
    cases ra
    exact .nil
  | _, _, _, .cons (n := n) (v := v) (d := d) (l := l) (cs := cs) h t, ra, z1 => by
    have ra : KV ((Sum.inr n, v) :: kvs l) _ := ra
    cases ra with
    | cons hh tt =>
      rename_i q qs
      obtain ⟨k, u⟩ := q
      obtain ⟨h1, ru⟩ := hh
      have h1 : (Sum.inr n : Key) = k := h1
      subst h1
      have rr : RelO (valV (kvs l2) (Sum.inr n)) (valueAt vb (Sum.inr n)) := rb.val (Sum.inr n)
      rw [valV_kvs] at rr
      have ru : RelV v u := ru
      obtain ⟨as, r1⟩ := Dp.reads I d v u h.dp ru
      show PySem.W.KeqHits _ _ _ _ (match look cs2 n with | some d' => PyData.eqv d d' && sameCs cs2 cs | none => false)
      cases e : look l2 n with
      | none =>
        rw [e] at rr
        have e2 : look cs2 n = none := by
          cases q : look cs2 n with
          | none => rfl
          | some d2 =>
            obtain ⟨v2, e3, _⟩ := h2.at q
            rw [e] at e3; cases e3
        rw [e2]
        refine .miss ?_
        cases e3 : valueAt vb (Sum.inr n) with
        | none => rfl
        | some y => rw [e3] at rr; cases rr
      | some v2 =>
        rw [e] at rr
        obtain ⟨y, hy, ry⟩ := rr.some_of
        obtain ⟨d2, e2, hd2⟩ := h2.sh e
        obtain ⟨bs, r2⟩ := Dp.reads I d2 v2 y hd2 ry
        rw [e2]
        exact .hit hy (PySem.W.keq_at (A := X.A) r1 r2 (z1 _ List.mem_cons_self) (z2 _ (look_mem e2)) hu) (hits_dd I hu h2 rb z2 t tt fun p hp => z1 p (List.mem_cons_of_mem _ hp))
def rEqDD (K : PySem.W.Frag) : R2 := fun x y H Q => ∃ a b l1 l2 cs1 cs2, x = .ref a ∧ y = .ref b ∧ H a = some (.dK (kvs l1)) ∧ H b = some (.dK (kvs l2)) ∧ CsR K H l1 cs1 ∧ CsR K H l2 cs2 ∧ (∀ p ∈ cs1, SeqAt.shaped p.2 = true) ∧ (∀ p ∈ cs2, SeqAt.shaped p.2 = true) ∧ Q (.bl (sameC cs1 cs2)) H
theorem op_eqDD (hu : X.A.units + 64 < cLine) (hi : X.A.in1.units + 64 < cLine) : OpR X (compareOp .Eq) (rEqDD X.K) := by
  intro pins s σ H x y v u Q I rx ry h
  obtain ⟨a, b, l1, l2, cs1, cs2, rfl, rfl, ea, eb, h1, h2, z1, z2, q⟩ := h
  obtain rfl : v = Value.ref a := rx
  obtain rfl : u = Value.ref b := ry
  obtain ⟨_, ya, va, ra, da⟩ := (show ObjOk X.prog X.w H s.heap a (.dK (kvs l1)) from I.hok a _ ea)
  obtain ⟨_, yb, vb, rb, db⟩ := (show ObjOk X.prog X.w H s.heap b (.dK (kvs l2)) from I.hok b _ eb)
  refine PySem.W.keq_eq (knd := mixKind X.prog X.w) (r := sameCs cs2 cs1) ya yb da db (by omega) (fun _ => hits_dd I hi h2 rb z2 h1 ra z1) ⟨.bl _, H, I, ?_, q⟩
  unfold sameC
  rw [← h1.len, ← h2.len, ← ra.length, ← rb.length, kvs_len, kvs_len]
  rfl
/-- the same objects in two tuples -/
def rEqTR (K : PySem.W.Frag) : R2 := fun x y H Q => ∃ (a b : Addr) (as : List Addr), x = .ref a ∧ y = .ref b ∧ SqT K H a (as.map V.ref) ∧ SqT K H b (as.map V.ref) ∧ Q (.bl true) H
theorem op_eqTR (hu : X.A.units + 64 < cLine) : OpR X (compareOp .Eq) (rEqTR X.K) := by
  intro pins s σ H x y v u Q I rx ry h
  obtain ⟨a, b, as, rfl, rfl, ha, hb, q⟩ := h
  obtain rfl : v = Value.ref a := rx
  obtain rfl : u = Value.ref b := ry
  obtain ⟨its, rv, p1, _⟩ := I.tuple ha
  obtain ⟨its2, rv2, p2, _⟩ := I.tuple hb
  have e1 := refs_at rv
  have e2 := refs_at rv2
  subst e1 e2
  refine PySem.W.eq_tuplesT (n := 0) (e := fun _ => true) (show s.heap.IsTuple a _ from p1) (show s.heap.IsTuple b _ from p2) (fun j h1 h2 => .same) (by omega) ⟨.bl true, H, I, ?_, q⟩
  show Value.bool _ = Value.bool true
  simp
end
/-- what isinstance asks of an own class -/
structure ClsI (K : PySem.W.Frag) (C : Addr) : Prop where
  ca : PySem.W.findIn K (.ref C) "__class__" = some (some (.builtin "object.__class__"))
  cn : PySem.W.specialIn K (.builtin "object.__class__") "__get__" = some (some (.builtin "getset_descriptor.__get__"))
  ct : PySem.W.takesIn K (.builtin "object.__class__") = some true
  cm : PySem.W.mroIn K C (.type "object") = some true
def spSEq (K : PySem.W.Frag) (C CS : Addr) : Sp := fun vs H Q _ => ∃ (L : List Addr) (s ct s2 ct2 : Addr) (W W2 : Ws), vs = [.ref s, .ref s2] ∧ StAt K L H C CS s ct W ∧ StAt K L H C CS s2 ct2 W2 ∧ (∀ p ∈ W.cs, SeqAt.shaped p.2 = true) ∧ (∀ p ∈ W2.cs, SeqAt.shaped p.2 = true) ∧ ∀ b, (b = true ↔ (sameC W.cs W2.cs = true ∧ W.ft = W2.ft ∧ W.sd = W2.sd ∧ W.sr = W2.sr)) → Q (.bl b) H
def spWEq (K : PySem.W.Frag) (C CS CW : Addr) : Sp := fun vs H Q _ => ∃ (L : List Addr) (x s ct x2 s2 ct2 : Addr) (W W2 : Ws) (as : List Addr), vs = [.ref x, .ref x2] ∧ WoAt K L H CW x s (as.map V.ref) ∧ WoAt K L H CW x2 s2 (as.map V.ref) ∧ StAt K L H C CS s ct W ∧ StAt K L H C CS s2 ct2 W2 ∧ (∀ p ∈ W.cs, SeqAt.shaped p.2 = true) ∧ (∀ p ∈ W2.cs, SeqAt.shaped p.2 = true) ∧ ∀ b, (b = true ↔ (sameC W.cs W2.cs = true ∧ W.ft = W2.ft ∧ W.sd = W2.sd ∧ W.sr = W2.sr)) → Q (.bl b) H
theorem dec_nat {a b : Nat} : decide (V.int (a : Int) = V.int (b : Int)) = decide (a = b) := by
  by_cases h : a = b
  · rw [decide_eq_true h, decide_eq_true (by rw [h])]
  · rw [decide_eq_false h, decide_eq_false fun q => h (by injection q with q; omega)]
section
variable {P : Program} {w : World} {K : PySem.W.Frag} {mg : Str → Option Value} {base : Heap}
theorem scSE : FnScope ["self", "other"] ["self", "other"] (defScope (st 1)) := ⟨rfl, rfl, rfl, by decide +kernel, rfl, by decide +kernel, by decide +kernel⟩
theorem ok_seq {f C CS : Addr} {fd : FuncData} {k : Nat} (F : Fun K "__eq__" "State.__eq__" (st 1) f fd) (S : StIn K mg CS) (I : ClsI K CS) (mi : mg "isinstance" = none) : FnOk P w K mg base CX0 (k + 2) f fd ["self", "other"] (spSEq K C CS) := by
  refine F.ok scSE (fun vs H Q E h => ?_) (fun cdv A outer s0 H vs Q E hr h => ?_)
  · obtain ⟨L, s, ct, s2, ct2, W, W2, rfl, _⟩ := h
    rfl
  · obtain ⟨L, s, ct, s2, ct2, W, W2, rfl, h1, h2, z1, z2, kk⟩ := h
    have hu := hr.units
    refine ⟨_, pss_one (ps_ret (pe_and (pe_callB call_isi (by rfl) mi (by decide +kernel) (pa_cons (pv 1) (pa_cons (pe_glob (v := .ref CS) rfl S.m rfl) pa_nil)))
      (pe_and (pe_cmpR (op_eqDD hr.units hr.in1.units) (pe_fld (pv 0) rfl) (pe_fld (pv 1) rfl) (by rfl))
      (pe_and (pe_cmpR op_eq (pe_fld (pv 0) rfl) (pe_fld (pv 1) rfl) (by rfl))
      (pe_and (pe_cmpR op_eq (pe_fld (pv 0) rfl) (pe_fld (pv 1) rfl) (by rfl))
      (pe_one (pe_cmpR op_eq (pe_fld (pv 0) rfl) (pe_fld (pv 1) rfl) (by rfl)))))))), ?_⟩
    obtain ⟨_, _, ds, bn, tl, l, a1, a2, a3, a4, a5⟩ := h1
    obtain ⟨_, _, ds2, bn2, tl2, l2, b1, b2, b3, b4, b5⟩ := h2
    have kc : PySem.W.kitOne K (.ref CS) (.ref CS) = some true := by unfold PySem.W.kitOne; rw [if_pos (by simp)]
    refine ⟨_, rfl, _, _, _, _, true, rfl, .own CS, TyX.base (TyOf.ins b1 S.cls I.ca I.cn I.ct I.cm), kc, _, rfl, iteT ?_⟩
    refine ⟨_, rfl, s, CS, ds, _, _, rfl, a1, S.cls, S.nc, stF_ct .., _, rfl, s2, CS, ds2, _, _, rfl, b1, S.cls, S.nc, stF_ct .., ct, ct2, l, l2, W.cs, W2.cs, rfl, rfl, a4, b4, a5.same (mask_sub _ _), b5.same (mask_sub _ _), z1, z2, _, rfl, ?_⟩
    cases hc : sameC W.cs W2.cs with
    | false => exact iteF (kk false ⟨(fun q => nomatch q), (fun q => by rw [hc] at q; exact absurd q.1 (by decide))⟩)
    | true =>
    refine iteT ?_
    refine ⟨_, rfl, s, CS, ds, _, _, rfl, a1, S.cls, S.nf, stF_f .., _, rfl, s2, CS, ds2, _, _, rfl, b1, S.cls, S.nf, stF_f .., rfl, _, rfl, ?_⟩
    rw [dec_nat]
    by_cases q1 : W.ft = W2.ft
    case neg =>
      rw [decide_eq_false q1]
      exact iteF (kk false ⟨(fun q => nomatch q), (fun q => absurd q.2.1 q1)⟩)
    rw [decide_eq_true q1]
    refine iteT ?_
    refine ⟨_, rfl, s, CS, ds, _, _, rfl, a1, S.cls, S.ns, stF_sd .., _, rfl, s2, CS, ds2, _, _, rfl, b1, S.cls, S.ns, stF_sd .., rfl, _, rfl, ?_⟩
    rw [dec_nat]
    by_cases q2 : W.sd = W2.sd
    case neg =>
      rw [decide_eq_false q2]
      exact iteF (kk false ⟨(fun q => nomatch q), (fun q => absurd q.2.2.1 q2)⟩)
    rw [decide_eq_true q2]
    refine iteT ?_
    refine ⟨_, rfl, s, CS, ds, _, _, rfl, a1, S.cls, S.nr, stF_sr .., _, rfl, s2, CS, ds2, _, _, rfl, b1, S.cls, S.nr, stF_sr .., rfl, ?_⟩
    rw [dec_nat]
    refine kk _ ?_
    rw [decide_eq_true_iff]
    exact ⟨fun q => ⟨hc, q1, q2, q⟩, fun q => q.2.2.2⟩
theorem scWE : FnScope ["self", "other"] ["self", "other"] (defScope (wo 8)) := ⟨rfl, rfl, rfl, by decide +kernel, rfl, by decide +kernel, by decide +kernel⟩
theorem ok_weq {f g C CS CW : Addr} {fd : FuncData} {k : Nat} (F : Fun K "__eq__" "World.__eq__" (wo 8) f fd) (W : WoIn K mg CW) (I : ClsI K CW) (mi : mg "isinstance" = none) (hs : PySem.W.findIn K (.ref CS) "__eq__" = some (some (.ref g))) (hf : PySem.W.isFn K (.ref g) = true) (G : FnR P w K mg base CX0 k g (spSEq K C CS)) : FnOk P w K mg base CX0 (k + 1) f fd ["self", "other"] (spWEq K C CS CW) := by
  refine F.ok scWE (fun vs H Q E h => ?_) (fun cdv A outer s0 H vs Q E hr h => ?_)
  · obtain ⟨L, x, s, ct, x2, s2, ct2, W, W2, as, rfl, _⟩ := h
    rfl
  · obtain ⟨L, x, s, ct, x2, s2, ct2, W1, W2, as, rfl, h1, h2, h3, h4, z1, z2, kk⟩ := h
    refine ⟨_, pss_one (ps_ret (pe_and (pe_callB call_isi (by rfl) mi (by decide +kernel) (pa_cons (pv 1) (pa_cons (pe_glob (v := .ref CW) rfl W.m rfl) pa_nil)))
      (pe_and (pe_cmpR (op_eqTR hr.units) (pe_fld (pv 0) rfl) (pe_fld (pv 1) rfl) (by rfl))
      (pe_one (pe_cmpR (op_eqOwn (E := E0) hs hf G hr pass0) (pe_fld (pv 0) rfl) (pe_fld (pv 1) rfl) (by rfl)))))), ?_⟩
    obtain ⟨dw, t, a1, a2⟩ := h1
    obtain ⟨dw2, t2, b1, b2⟩ := h2
    have a1 := mask_sub _ _ _ _ a1
    have b1 := mask_sub _ _ _ _ b1
    obtain ⟨d3, n3, e3⟩ := h3.self
    obtain ⟨d4, n4, e4⟩ := h4.self
    have kc : PySem.W.kitOne K (.ref CW) (.ref CW) = some true := by unfold PySem.W.kitOne; rw [if_pos (by simp)]
    refine ⟨_, rfl, _, _, _, _, true, rfl, .own CW, TyX.base (TyOf.ins b1 W.cls I.ca I.cn I.ct I.cm), kc, _, rfl, iteT ?_⟩
    refine ⟨_, rfl, x, CW, dw, _, _, rfl, a1, W.cls, W.nt, woF_t .., _, rfl, x2, CW, dw2, _, _, rfl, b1, W.cls, W.nt, woF_t .., t, t2, as, rfl, rfl, Same.seqT (mask_sub _ _) a2, Same.seqT (mask_sub _ _) b2, _, rfl, iteT ?_⟩
    refine ⟨_, rfl, x, CW, dw, _, _, rfl, a1, W.cls, W.ns, woF_s .., _, rfl, x2, CW, dw2, _, _, rfl, b1, W.cls, W.ns, woF_s .., s, d3, _, s2, d4, _, rfl, rfl, e3, e4, ?_⟩
    exact ⟨L, s, ct, s2, ct2, W1, W2, rfl, h3, h4, z1, z2, kk⟩
end
/-- contents told by what each thing has -/
theorem cs_eq {cs1 cs2 : List (Str × PyData)} (hn : names cs1 = names cs2) (hd : (names cs1).Nodup) (h : ∀ n ∈ names cs1, look cs1 n = look cs2 n) : cs1 = cs2 := by
  induction cs1 generalizing cs2 with
  | nil =>
    cases cs2 with
    | nil => rfl
    | cons b r => cases hn
  | cons a r ih =>
    cases cs2 with
    | nil => cases hn
    | cons b r2 =>
      have hn' : a.1 :: names r = b.1 :: names r2 := hn
      injection hn' with e1 e2
      have hd' : (a.1 :: names r).Nodup := hd
      obtain ⟨n1, n2⟩ := List.nodup_cons.mp hd'
      have h0 := h a.1 List.mem_cons_self
      rw [look_pos rfl, look_pos (p := b) e1.symm] at h0
      have eab : a = b := Prod.ext e1 (Option.some.inj h0)
      rw [eab]
      congr 1
      refine ih e2 n2 fun n hn => ?_
      have ne : a.1 ≠ n := fun q => n1 (by rw [q]; exact hn)
      have := h n (List.mem_cons_of_mem _ hn)
      rw [look_neg ne, look_neg (p := b) (by rw [← e1]; exact ne)] at this
      exact this
theorem sameCs_iff {cs2 : List (Str × PyData)} : ∀ {cs1 : List (Str × PyData)}, sameCs cs2 cs1 = true ↔ ∀ p ∈ cs1, ∃ d, look cs2 p.1 = some d ∧ PyData.eqv p.2 d = true
  | [] => ⟨fun _ _ h => (by cases h), fun _ => rfl⟩
  | p :: r => by
    have ih := sameCs_iff (cs2 := cs2) (cs1 := r)
    show (match look cs2 p.1 with | some d => PyData.eqv p.2 d && sameCs cs2 r | none => false) = true ↔ _
    cases e : look cs2 p.1 with
    | none =>
      refine ⟨fun h => (by cases h), fun h => ?_⟩
      obtain ⟨d, e2, _⟩ := h p List.mem_cons_self
      rw [e] at e2; cases e2
    | some d =>
      show (PyData.eqv p.2 d && sameCs cs2 r) = true ↔ _
      rw [Bool.and_eq_true, ih]
      constructor
      · rintro ⟨h1, h2⟩ q hq
        rcases List.mem_cons.mp hq with rfl | hq
        · exact ⟨d, e, h1⟩
        · exact h2 q hq
      · intro h
        obtain ⟨d2, e2, h2⟩ := h p List.mem_cons_self
        rw [e] at e2
        obtain rfl := Option.some.inj e2
        exact ⟨h2, fun q hq => h q (List.mem_cons_of_mem _ hq)⟩
/-- contents of one row of things are the same exactly if they are -/
theorem sameC_iff {th : Ths} {cs1 cs2 : List (Str × PyData)} (hd : (names th).Nodup) (h1 : CsOk th cs1) (h2 : CsOk th cs2) : sameC cs1 cs2 = true ↔ cs1 = cs2 := by
  have hn : names cs1 = names cs2 := h1.nm.trans h2.nm.symm
  have hd1 : (names cs1).Nodup := by rw [h1.nm]; exact hd
  unfold sameC
  rw [Bool.and_eq_true, sameCs_iff, beq_iff_eq]
  constructor
  · rintro ⟨_, h⟩
    refine cs_eq hn hd1 fun n m => ?_
    obtain ⟨d1, e1⟩ := look_some m
    obtain ⟨d2, e2, q⟩ := h (n, d1) (look_mem e1)
    have m' : n ∈ names th := by rw [← h1.nm]; exact m
    obtain ⟨e, he, rfl⟩ := List.mem_map.mp m'
    obtain ⟨d1', f1, c1⟩ := h1.ok e he
    obtain ⟨d2', f2, c2⟩ := h2.ok e he
    have e3 : look cs2 e.1 = some d2 := e2
    clear e2
    rw [f1] at e1
    rw [f2] at e3
    obtain rfl := Option.some.inj e1
    obtain rfl := Option.some.inj e3
    rw [f1, f2, (ct_eqv c1 c2).mp q]
  · rintro rfl
    refine ⟨rfl, fun p hp => ?_⟩
    have e1 := look_of_mem hd1 hp
    refine ⟨p.2, e1, ?_⟩
    have m' : p.1 ∈ names th := by rw [← h1.nm]; exact List.mem_map.mpr ⟨p, hp, rfl⟩
    obtain ⟨e, he, q⟩ := List.mem_map.mp m'
    obtain ⟨d1', f1, c1⟩ := h1.ok e he
    have q : e.1 = p.1 := q
    rw [q, e1] at f1
    obtain rfl := Option.some.inj f1
    exact (ct_eqv c1 c1).mpr rfl
theorem cs_shaped {th : Ths} {cs : List (Str × PyData)} (hd : (names th).Nodup) (h : CsOk th cs) (ok : ∀ e ∈ th, TrOk e) : ∀ p ∈ cs, SeqAt.shaped p.2 = true := fun p hp => by
  have hd1 : (names cs).Nodup := by rw [h.nm]; exact hd
  have e1 := look_of_mem hd1 hp
  have m' : p.1 ∈ names th := by rw [← h.nm]; exact List.mem_map.mpr ⟨p, hp, rfl⟩
  obtain ⟨e, he, q⟩ := List.mem_map.mp m'
  obtain ⟨d1', f1, c1⟩ := h.ok e he
  have q : e.1 = p.1 := q
  rw [q, e1] at f1
  obtain rfl := Option.some.inj f1
  exact ct_shaped (ok e he).keys c1
/-! ### what looks do -/
def twinW (word : Str) : Str := ((look qwords word).getD none).getD word
def traceB (word : Str) : Bool := ((look qwords word).getD none).isSome
/-- a deed that stands and what it does -/
def Doing (P : Program) (w : World) (K : PySem.W.Frag) (mg : Str → Option Value) (base : Heap) (C CS dP dA : Addr) (W : Ws) (x word : Str) (rest : List PyData) (d : PyData) (W' : Ws) : Prop :=
  ∃ (kinds : List Str) (R : Ws → List PyData → Ws → PyData → Prop), ActK P w K mg base C CS dP dA word kinds R ∧ Paired GoodArg kinds (.str x :: rest) ∧ Paired (CheckArg W.th (.str x)) kinds (.str x :: rest) ∧ R W (.str x :: rest) W' d
def markR (word : Str) (mark : Str) (rest : List Str) : List PyData := rest.map .str ++ (if word = "mark" then [.str mark] else [])
/-- a look's answers: the twin's, the look's, once more -/
structure LookOk (P : Program) (w : World) (K : PySem.W.Frag) (mg : Str → Option Value) (base : Heap) (C CS dP dA : Addr) (W : Ws) (e : Tr) (word mark : Str) (rest : List Str) (dh dt d2 : PyData) (W' W'' : Ws) : Prop where
  hear : Doing P w K mg base C CS dP dA W e.1 (twinW word) (rest.map .str) dh W
  tell : Doing P w K mg base C CS dP dA W e.1 word (markR word mark rest) dt W'
  again : Doing P w K mg base C CS dP dA W' e.1 word (markR word mark rest) d2 W''
  th : W'.th = W.th
  th2 : W''.th = W.th
  cs : CsOk W.th W'.cs
  cs2 : CsOk W.th W''.cs
  pair : PairOk word dt dh (gotB W'.cs e.1)
  quiet : traceB word = false → W' = W
  still : word ∉ (["take", "roll"] : List Str) → W'' = W'
  p1 : dp 3 dt
  p2 : dp 3 dh
theorem dropE_twice (es : List (Str × Int)) (k : Str) : dropE (dropE es k) k = dropE es k := by
  unfold dropE
  rw [List.filter_filter]
  congr 1
  funext e
  simp
theorem setD_look (es : List (Str × Int)) (k : Str) (v : Int) : ∃ w, look (setD es k v) k = some w ∧ w = (look es k).getD v := by
  cases e : look es k with
  | some w => exact ⟨w, by rw [setD_some e]; exact e, rfl⟩
  | none =>
    refine ⟨v, ?_, rfl⟩
    rw [(setD_none e).1]
    have := (setD_none (v := v) e).2
    rw [← this, look_put, if_pos rfl]
theorem put_twice {α : Type} {l : List (Str × α)} {n : Str} {v : α} : put (put l n v) n v = put l n v := by
  have h : ∀ l : List (Str × α), (l.any fun p => decide (p.1 = n)) = true → put (l.map fun p => if p.1 = n then (p.1, v) else p) n v = l.map fun p => if p.1 = n then (p.1, v) else p := fun l ha => by
    unfold put
    have hb : ((l.map fun p => if p.1 = n then (p.1, v) else p).any fun p => decide (p.1 = n)) = true := by
      rw [List.any_map]
      rw [List.any_eq_true] at ha ⊢
      obtain ⟨p, hp, e⟩ := ha
      refine ⟨p, hp, ?_⟩
      have e := of_decide_eq_true e
      show decide ((if p.1 = n then (p.1, v) else p).1 = n) = true
      rw [if_pos e]
      exact decide_eq_true e
    rw [if_pos hb, List.map_map]
    refine List.map_congr_left fun p _ => ?_
    show (if (if p.1 = n then (p.1, v) else p).1 = n then _ else _) = _
    by_cases e : p.1 = n
    · simp [e]
    · simp [e]
  by_cases a : (l.any fun p => decide (p.1 = n)) = true
  · have e : put l n v = l.map fun p => if p.1 = n then (p.1, v) else p := by unfold put; rw [if_pos a]
    rw [e]; exact h l a
  · have e : put l n v = l ++ [(n, v)] := by unfold put; rw [if_neg a]
    rw [e]
    have hb : ((l ++ [(n, v)]).any fun p => decide (p.1 = n)) = true := by rw [List.any_append]; simp
    unfold put
    rw [if_pos hb, List.map_append]
    rw [Bool.not_eq_true, List.any_eq_false] at a
    have : l.map (fun p => if p.1 = n then (p.1, v) else p) = l := by
      conv => rhs; rw [← List.map_id l]
      refine List.map_congr_left fun p hp => ?_
      rw [if_neg (by simpa using a p hp)]; rfl
    rw [this]
    simp
theorem LookR.same2 {th : Ths} {n : Nat} {cs cs' : List (Str × PyData)} {x : Str} {d : PyData} (h : LookR th n cs x cs' d) : look cs' x = some d ∧ d ≠ .none ∧ isTab d = false := by
  induction h with
  | full e h ht => exact ⟨e, h, ht⟩
  | @down n cs cs' x o k r d e t h ih => exact ⟨by rw [look_put, if_pos rfl], ih.2⟩
theorem looks_mem {e : Tr} {lk : Str × List Str} (h : lk ∈ looksOf e) : (lk.1 ∈ plainOf e.2.1 ∧ lk.2 = []) ∨ (lk.1 = "spy" ∧ lk.2 = []) ∨ (e.2.1 = "table" ∧ ∃ k ∈ e.2.2, lk ∈ keyLooks k) := by
  rcases List.mem_append.mp h with h | h
  · obtain ⟨z, hz, rfl⟩ := List.mem_map.mp h
    rcases List.mem_append.mp hz with hz | hz
    · exact .inl ⟨hz, rfl⟩
    · exact .inr (.inl ⟨List.mem_singleton.mp hz, rfl⟩)
  · obtain ⟨k, hk, hl⟩ := List.mem_flatMap.mp h
    by_cases q : e.2.1 = "table"
    · rw [if_pos q] at hk
      exact .inr (.inr ⟨q, k, hk, hl⟩)
    · rw [if_neg q] at hk; cases hk
section
variable {P : Program} {w : World} {K : PySem.W.Frag} {mg : Str → Option Value} {base : Heap}
theorem got_put {cs : List (Str × PyData)} {n : Str} {d : PyData} : gotB (put cs n d) n = d := by
  unfold gotB
  rw [look_put, if_pos rfl]; rfl
theorem got_some {cs : List (Str × PyData)} {n : Str} {d : PyData} (h : look cs n = some d) : gotB cs n = d := by
  unfold gotB
  rw [h]; rfl
theorem looks_all {C CS dP dA : Addr} (A : Acts P w K mg base C CS dP dA) {ns : List Str} {W : Ws} (t : ThW ns W.th) (hc : CsOk W.th W.cs) {e : Tr} (he : e ∈ W.th) {word : Str} {rest : List Str} (hl : (word, rest) ∈ looksOf e) {mark : Str} (hm : IsWord mark) :
    ∃ dh dt d2 W' W'', LookOk P w K mg base C CS dP dA W e word mark rest dh dt d2 W' W'' := by
  have hok := t.ok.ok e he
  have hkd : e.2.1 ∈ k7 := (by decide +kernel : ∀ z ∈ kindsS, z ∈ k7) _ (t.ok.kd e he)
  obtain ⟨i, ei⟩ := List.getElem?_of_mem he
  have hi8 : i ≤ 8 := by have := (List.getElem?_eq_some_iff.mp ei).1; have := t.l8; omega
  obtain ⟨nm, kd, ps⟩ := e
  have hkd : kd ∈ k7 := hkd
  have lk0 := look_th t.nd ei
  have hwn : IsWord nm := by cases hok <;> assumption
  obtain ⟨d0, e0, hd0⟩ := hc.ok _ he
  have e0 : look W.cs nm = some d0 := e0
  have keys := hok.keys
  have dd0 := ct_dp keys hd0
  have g1 : ∀ {k : Str}, k ≠ "length" → k ≠ "keys" → GoodArg k (.str nm) := fun a b => .name a b hwn
  have c1 : kd ∈ kindsS → CheckArg W.th (.str nm) kd (.str nm) := fun h => .kind h lk0
  have cT : CheckArg W.th (.str nm) "thing" (.str nm) := .thing lk0
  have gk : kd ∈ kindsS := t.ok.kd _ he
  have n1 : kd ≠ "length" := fun q => by rw [q] at gk; exact absurd gk (by decide +kernel)
  have n2 : kd ≠ "keys" := fun q => by rw [q] at gk; exact absurd gk (by decide +kernel)
  -- a deed at the thing alone
  have one : ∀ {W1 : Ws} {word : Str} {R : Ws → List PyData → Ws → PyData → Prop} {d : PyData} {W2 : Ws}, ActK P w K mg base C CS dP dA word [kd] R → W1.th = W.th → R W1 [.str nm] W2 d → Doing P w K mg base C CS dP dA W1 nm word [] d W2 := fun {W1 word R d W2} a hth r =>
    ⟨[kd], R, a, .cons (g1 n1 n2) .nil, .cons (by rw [hth]; exact c1 gk) .nil, r⟩
  have spy : ∀ {W1 : Ws}, W1.th = W.th → Doing P w K mg base C CS dP dA W1 nm "spy" [] .none W1 := fun {W1} hth =>
    ⟨["thing"], rSpy, A.aSpy, .cons (g1 (by decide +kernel) (by decide +kernel)) .nil, .cons (by rw [hth]; exact cT) .nil, ⟨nm, rfl, rfl, rfl⟩⟩
  have two : ∀ {W1 : Ws} {word k : Str} {R : Ws → List PyData → Ws → PyData → Prop} {d : PyData} {W2 : Ws}, kd = "table" → k ∈ ps → ActK P w K mg base C CS dP dA word ["table", "key"] R → W1.th = W.th → R W1 [.str nm, .str k] W2 d → Doing P w K mg base C CS dP dA W1 nm word [.str k] d W2 := fun {W1 word k R d W2} hk hks a hth r => by
    subst hk
    obtain ⟨hw, _, _⟩ := keys rfl
    exact ⟨_, R, a, .cons (g1 (by decide +kernel) (by decide +kernel)) (.cons (.name (by decide +kernel) (by decide +kernel) (hw k hks)) .nil), .cons (by rw [hth]; exact c1 gk) (.cons (.key rfl (by rw [hth]; exact lk0) hks) .nil), r⟩
  have put1 : ∀ {d : PyData}, CtOk (nm, kd, ps) d → CsOk W.th (put W.cs nm d) := fun h => hc.put t.nd he h
  have same : ∀ {W1 : Ws} {d : PyData}, look W1.cs nm = some d → gotB W1.cs nm = d := fun h => got_some h
  rcases looks_mem hl with ⟨h, hr⟩ | ⟨h, hr⟩ | ⟨h, k, hk, hkl⟩
  · have hr : rest = [] := hr
    subst hr
    simp only [k7, List.mem_cons, List.not_mem_nil, or_false] at hkd
    rcases hkd with rfl | rfl | rfl | rfl | rfl | rfl | rfl
    · have h : word ∈ (["take", "drain"] : List Str) := h
      simp only [List.mem_cons, List.not_mem_nil, or_false] at h
      obtain ⟨f, tt, len, rfl⟩ : ∃ f t len, d0 = triple f t len := by cases hd0; exact ⟨_, _, _, rfl⟩
      have l100 : W.th.length ≤ 100 := by have := t.l8; omega
      have un : ∀ {t2 : Int} {W1 : Ws}, W1.th = W.th → CsOk W.th W1.cs → CsOk W.th (tkU W1.th f t2 len W1.cs) := fun {t2 W1} q z => by rw [q]; exact CsOk.until t.nd (fun e m => m) z
      rcases h with rfl | rfl
      · -- take: once, and again
        have step : ∀ {W1 : Ws}, W1.th = W.th → CsOk W.th W1.cs → ∃ d W2, rTake W1 [.str nm] W2 d ∧ W2.th = W.th ∧ CsOk W.th W2.cs ∧ dp 3 d := fun {W1} hth h1 => by
          obtain ⟨a1, a2, a3, f1⟩ := h1.feeds _ he rfl
          by_cases hq : a2 = a3
          · exact ⟨.none, W1, ⟨by rw [hth]; exact h1.feeds, by rw [hth]; exact l100, nm, a1, a2, a3, rfl, f1, fun _ => ⟨rfl, rfl⟩, fun q => absurd hq q⟩, hth, h1, by simp [dp]⟩
          · refine ⟨pair a1 a2, { W1 with cs := tkU W1.th a1 (a2 + 1) a3 W1.cs }, ⟨by rw [hth]; exact h1.feeds, by rw [hth]; exact l100, nm, a1, a2, a3, rfl, f1, fun q => absurd q hq, fun _ => ⟨rfl, rfl⟩⟩, hth, ?_, by simp [pair, dp]⟩
            show CsOk W.th (tkU W1.th a1 (a2 + 1) a3 W1.cs)
            rw [hth]; exact CsOk.until t.nd (fun e m => m) h1
        obtain ⟨dt, W1, r1, h1, c1', p1⟩ := step rfl hc
        obtain ⟨d2, W2, r2, h2, c2', _⟩ := step h1 c1'
        exact ⟨.none, dt, d2, W1, W2, spy rfl, one A.aTake rfl r1, one A.aTake h1 r2, h1, h2, c1', c2', ⟨fun q => absurd q (by decide +kernel), fun _ q => absurd q (by decide +kernel), fun _ _ q => absurd q (by decide +kernel), fun _ _ _ => .inl (by decide +kernel)⟩, fun q => absurd q (by decide +kernel), fun q => absurd (by decide +kernel) q, p1, by simp [dp]⟩
      · have c1' : CsOk W.th (tkU W.th f len len W.cs) := un rfl hc
        have l1 : look (tkU W.th f len len W.cs) nm = some (triple f len len) := by
          rw [tkU_look t.nd he, if_pos ⟨rfl, by rw [show look W.cs (nm, "feed", ps).1 = look W.cs nm from rfl, e0]; exact fstIs_tri.mpr rfl⟩]
        have e2 : tkU W.th f len len (tkU W.th f len len W.cs) = tkU W.th f len len W.cs := by
          have c2' : CsOk W.th (tkU W.th f len len (tkU W.th f len len W.cs)) := un (W1 := { W with cs := tkU W.th f len len W.cs }) rfl c1'
          refine cs_eq (c2'.nm.trans c1'.nm.symm) (by rw [c2'.nm]; exact t.nd) fun n hn => ?_
          rw [c2'.nm] at hn
          obtain ⟨b, hb, rfl⟩ := List.mem_map.mp hn
          rw [tkU_look t.nd hb]
          split
          case isTrue h =>
            rw [tkU_look t.nd hb] at h
            rw [tkU_look t.nd hb]
            by_cases q : b.2.1 = "feed" ∧ fstIs f (look W.cs b.1) = true
            · rw [if_pos q]
            · rw [if_neg q] at h; exact absurd h q
          case isFalse h => rfl
        exact ⟨.none, .none, .none, _, _, spy rfl, one A.aDrain rfl ⟨hc.feeds, l100, nm, f, tt, len, rfl, e0, rfl, rfl⟩, one (W1 := { W with cs := tkU W.th f len len W.cs }) A.aDrain rfl ⟨c1'.feeds, l100, nm, f, len, len, rfl, l1, rfl, rfl⟩, rfl, rfl, c1', by show CsOk W.th (tkU W.th f len len (tkU W.th f len len W.cs)); rw [e2]; exact c1',
          ⟨fun q => absurd q (by decide +kernel), fun _ q => absurd q (by decide +kernel), fun _ _ q => absurd q (by decide +kernel), fun _ _ _ => .inr rfl⟩, fun q => absurd q (by decide +kernel), fun _ => by show ({ W with cs := _ } : Ws) = _; rw [show ({ W with cs := tkU W.th f len len W.cs } : Ws).th = W.th from rfl]; simp only [e2], by simp [dp], by simp [dp]⟩
    · have h : word ∈ (["size", "keys"] : List Str) := h
      simp only [List.mem_cons, List.not_mem_nil, or_false] at h
      obtain ⟨_, _, hkl⟩ := keys rfl
      obtain ⟨es, rfl, hes⟩ : ∃ es, d0 = TbD es ∧ EsOk ps es := by
        cases hd0 with
        | @table _ _ es hes => exact ⟨es, rfl, hes⟩
      have tb := hes.tab hkl
      rcases h with rfl | rfl
      · have D := one A.aSize rfl ⟨nm, es, rfl, e0, tb, rfl, rfl⟩
        exact ⟨_, _, _, W, W, D, D, D, rfl, rfl, hc, hc, ⟨fun q => absurd q (by decide +kernel), fun _ _ => rfl, fun _ q => absurd (by decide +kernel) q, fun _ q => absurd (by decide +kernel) q⟩, fun _ => rfl, fun _ => rfl, by simp [dp], by simp [dp]⟩
      · have D := one A.aKeys rfl ⟨nm, es, rfl, e0, tb, rfl, rfl⟩
        have hl4 := hes.len hkl
        have p : dp 3 (.tuple (es.map fun e => .str e.1)) := by
          simp only [dp, List.length_map]
          refine ⟨by omega, fun x hx => ?_⟩
          obtain ⟨y, _, rfl⟩ := List.mem_map.mp hx
          trivial
        exact ⟨_, _, _, W, W, D, D, D, rfl, rfl, hc, hc, ⟨fun q => absurd q (by decide +kernel), fun _ _ => rfl, fun _ q => absurd (by decide +kernel) q, fun _ q => absurd (by decide +kernel) q⟩, fun _ => rfl, fun _ => rfl, p, p⟩
    · have h : word ∈ (["roll"] : List Str) := h
      obtain rfl := List.mem_singleton.mp h
      have step : ∀ {W1 : Ws}, W1.th = W.th → CsOk W.th W1.cs → ∃ d W2, rRoll W1 [.str nm] W2 d ∧ W2.th = W.th ∧ CsOk W.th W2.cs ∧ dp 3 d := fun {W1} hth h1 => by
        obtain ⟨d1, f1, k1⟩ := h1.ok _ he
        obtain ⟨a, b, rfl⟩ : ∃ a b, d1 = pair a b := by cases k1; exact ⟨_, _, rfl⟩
        exact ⟨_, { W1 with cs := put W1.cs nm (pair a (b + 1)) }, ⟨nm, a, b, rfl, f1, rfl, rfl⟩, hth, h1.put t.nd he (.dice _ _), by simp [pair, dp]⟩
      obtain ⟨dt, W1, r1, h1, c1', p1⟩ := step rfl hc
      obtain ⟨d2, W2, r2, h2, c2', _⟩ := step h1 c1'
      exact ⟨.none, dt, d2, W1, W2, spy rfl, one A.aRoll rfl r1, one A.aRoll h1 r2, h1, h2, c1', c2', ⟨fun q => absurd q (by decide +kernel), fun _ q => absurd q (by decide +kernel), fun _ _ q => absurd q (by decide +kernel), fun _ _ _ => .inl (by decide +kernel)⟩, fun q => absurd q (by decide +kernel), fun q => absurd (by decide +kernel) q, p1, by simp [dp]⟩
    · have h : word ∈ ([] : List Str) := h
      cases h
    · have h : word ∈ (["look", "renew", "glance"] : List Str) := h
      simp only [List.mem_cons, List.not_mem_nil, or_false] at h
      have gl : ∀ {W1 : Ws} {d : PyData}, W1.th = W.th → look W1.cs nm = some d → Doing P w K mg base C CS dP dA W1 nm "glance" [] d W1 := fun {W1 d} hth q => one A.aGlance hth ⟨nm, rfl, q, rfl⟩
      rcases h with rfl | rfl | rfl
      · obtain ⟨cs', z, l1, l2⟩ := look_all t.nd t.ok.ff 8 i (nm, "field", ps) W.cs hi8 ei (.inr rfl) hc
        obtain ⟨q1, q2, q3⟩ := l1.same2
        have D2 := one (W1 := { W with cs := cs' }) (d := .int z) A.aLook rfl ⟨nm, cs', rfl, .full q1 q2 q3, rfl⟩
        refine ⟨d0, .int z, .int z, { W with cs := cs' }, { W with cs := cs' }, gl rfl e0, one A.aLook rfl ⟨nm, cs', rfl, l1, rfl⟩, D2, rfl, rfl, l2, l2, ⟨fun q => absurd q (by decide +kernel), fun _ q => absurd q (by decide +kernel), fun _ _ _ => ⟨(same (W1 := { W with cs := cs' }) q1).symm, ?_⟩, fun _ _ q => absurd rfl q⟩, fun q => absurd q (by decide +kernel), fun _ => rfl, by simp [dp], dd0⟩
        by_cases hn : d0 = .none
        · exact .inl hn
        · right
          have k1 := l1.keep nm d0 e0 hn
          have q1 : look cs' nm = some (.int z) := q1
          rw [k1] at q1
          exact Option.some.inj q1
      · have e2 : put (put W.cs nm .none) nm .none = put W.cs nm .none := put_twice
        exact ⟨d0, .none, .none, { W with cs := put W.cs nm .none }, { W with cs := put W.cs nm .none }, gl rfl e0, one A.aRenew rfl ⟨nm, rfl, rfl, rfl⟩, one (W1 := { W with cs := put W.cs nm .none }) A.aRenew rfl ⟨nm, rfl, by show _ = ({ W with cs := put (put W.cs nm .none) nm .none } : Ws); rw [e2], rfl⟩, rfl, rfl, put1 .field0, put1 .field0,
          ⟨fun q => absurd q (by decide +kernel), fun _ q => absurd q (by decide +kernel), fun _ _ q => absurd q (by decide +kernel), fun _ _ _ => .inr rfl⟩, fun q => absurd q (by decide +kernel), fun _ => rfl, by simp [dp], dd0⟩
      · have D := gl (W1 := W) rfl e0
        exact ⟨d0, d0, d0, W, W, D, D, D, rfl, rfl, hc, hc, ⟨fun q => absurd q (by decide +kernel), fun _ _ => rfl, fun _ q => absurd (by decide +kernel) q, fun _ q => absurd (by decide +kernel) q⟩, fun _ => rfl, fun _ => rfl, dd0, dd0⟩
    · have h : word ∈ (["read", "watch"] : List Str) := h
      simp only [List.mem_cons, List.not_mem_nil, or_false] at h
      have D := one (W1 := W) (d := d0) A.aWatch rfl ⟨nm, rfl, e0, rfl⟩
      rcases h with rfl | rfl
      · have e2 : put (put W.cs nm (.bool false)) nm (.bool false) = put W.cs nm (.bool false) := put_twice
        exact ⟨d0, d0, .bool false, { W with cs := put W.cs nm (.bool false) }, { W with cs := put W.cs nm (.bool false) }, D, one A.aRead rfl ⟨nm, rfl, e0, rfl⟩, one (W1 := { W with cs := put W.cs nm (.bool false) }) A.aRead rfl ⟨nm, rfl, by show look (put W.cs nm (.bool false)) nm = _; rw [look_put, if_pos rfl], by show _ = ({ W with cs := put (put W.cs nm (.bool false)) nm (.bool false) } : Ws); rw [e2]⟩, rfl, rfl, put1 (.flag _), put1 (.flag _),
          ⟨fun q => absurd q (by decide +kernel), fun _ _ => rfl, fun _ q => absurd (by decide +kernel) q, fun _ q => absurd (by decide +kernel) q⟩, fun q => absurd q (by decide +kernel), fun _ => rfl, dd0, dd0⟩
      · exact ⟨d0, d0, d0, W, W, D, D, D, rfl, rfl, hc, hc, ⟨fun q => absurd q (by decide +kernel), fun _ _ => rfl, fun _ q => absurd (by decide +kernel) q, fun _ q => absurd (by decide +kernel) q⟩, fun _ => rfl, fun _ => rfl, dd0, dd0⟩
    · have h : word ∈ (["mark", "tell", "bound"] : List Str) := h
      simp only [List.mem_cons, List.not_mem_nil, or_false] at h
      have Db := one (W1 := W) A.aBound rfl ⟨nm, d0, rfl, e0, rfl, rfl⟩
      rcases h with rfl | rfl | rfl
      · have e2 : put (put W.cs nm (.str mark)) nm (.str mark) = put W.cs nm (.str mark) := put_twice
        have mk : ∀ {W1 : Ws}, W1.th = W.th → Doing P w K mg base C CS dP dA W1 nm "mark" [.str mark] .none { W1 with cs := put W1.cs nm (.str mark) } := fun {W1} hth =>
          ⟨_, rMark, A.aMark, .cons (g1 (by decide +kernel) (by decide +kernel)) (.cons (.name (by decide +kernel) (by decide +kernel) hm) .nil), .cons (by rw [hth]; exact c1 gk) (.cons (.other (by decide +kernel) (by decide +kernel) (by decide +kernel)) .nil), ⟨nm, mark, rfl, rfl, rfl⟩⟩
        refine ⟨_, .none, .none, { W with cs := put W.cs nm (.str mark) }, { W with cs := put (put W.cs nm (.str mark)) nm (.str mark) }, Db, mk rfl, mk (W1 := { W with cs := put W.cs nm (.str mark) }) rfl, rfl, rfl, put1 (.slotS hm), by show CsOk W.th (put (put W.cs nm (.str mark)) nm (.str mark)); rw [e2]; exact put1 (.slotS hm),
          ⟨fun q => absurd q (by decide +kernel), fun _ q => absurd q (by decide +kernel), fun _ _ q => absurd q (by decide +kernel), fun _ _ _ => .inr rfl⟩, fun q => absurd q (by decide +kernel), fun _ => by rw [e2], by simp [dp], by simp [dp]⟩
      · have D := one (W1 := W) (d := d0) A.aTell rfl ⟨nm, rfl, e0, rfl⟩
        exact ⟨d0, d0, d0, W, W, D, D, D, rfl, rfl, hc, hc, ⟨fun q => absurd q (by decide +kernel), fun _ _ => rfl, fun _ q => absurd (by decide +kernel) q, fun _ q => absurd (by decide +kernel) q⟩, fun _ => rfl, fun _ => rfl, dd0, dd0⟩
      · exact ⟨_, _, _, W, W, Db, Db, Db, rfl, rfl, hc, hc, ⟨fun q => absurd q (by decide +kernel), fun _ _ => rfl, fun _ q => absurd (by decide +kernel) q, fun _ q => absurd (by decide +kernel) q⟩, fun _ => rfl, fun _ => rfl, by simp [dp], by simp [dp]⟩
  · have h : word = "spy" := h
    have hr : rest = [] := hr
    subst h hr
    exact ⟨_, _, _, W, W, spy rfl, spy rfl, spy rfl, rfl, rfl, hc, hc, ⟨fun q => absurd q (by decide +kernel), fun _ q => absurd q (by decide +kernel), fun _ _ q => absurd q (by decide +kernel), fun _ _ _ => .inr rfl⟩, fun _ => rfl, fun _ => rfl, by simp [dp], by simp [dp]⟩
  · have h : kd = "table" := h
    subst h
    obtain ⟨_, _, hkl4⟩ := keys rfl
    obtain ⟨es, rfl, hes⟩ : ∃ es, d0 = TbD es ∧ EsOk ps es := by
      cases hd0 with
      | @table _ _ es hes => exact ⟨es, rfl, hes⟩
    have tb := hes.tab hkl4
    have hk : k ∈ ps := hk
    simp only [keyLooks, List.mem_cons, List.not_mem_nil, or_false, Prod.mk.injEq] at hkl
    have Dp_ := two (W1 := W) rfl hk A.aPeek rfl ⟨nm, k, es, rfl, e0, tb, rfl, rfl⟩
    have Dh := two (W1 := W) rfl hk A.aHas rfl ⟨nm, k, es, rfl, e0, tb, rfl, rfl⟩
    have pk : dp 3 (match look es k with | some v => .int v | none => .none) := by split <;> simp [dp]
    rcases hkl with ⟨rfl, rfl⟩ | ⟨rfl, rfl⟩ | ⟨rfl, rfl⟩ | ⟨rfl, rfl⟩
    · have cs1 := put1 (.table (hes.setD (v := 0) hk))
      have l1 : look (put W.cs nm (TbD (setD es k 0))) nm = some (TbD (setD es k 0)) := by rw [look_put, if_pos rfl]
      obtain ⟨v2, lv, ev⟩ := setD_look es k 0
      have e3 : setD (setD es k 0) k 0 = setD es k 0 := setD_some lv
      have e2 : put (put W.cs nm (TbD (setD es k 0))) nm (TbD (setD (setD es k 0) k 0)) = put W.cs nm (TbD (setD es k 0)) := by rw [e3]; exact put_twice
      refine ⟨_, _, _, { W with cs := put W.cs nm (TbD (setD es k 0)) }, { W with cs := put W.cs nm (TbD (setD es k 0)) }, Dp_, two rfl hk A.aGet rfl ⟨nm, k, es, rfl, e0, tb, rfl, rfl⟩, two (W1 := { W with cs := put W.cs nm (TbD (setD es k 0)) }) rfl hk A.aGet rfl ⟨nm, k, setD es k 0, rfl, l1, (hes.setD hk).tab hkl4, by show _ = ({ W with cs := put (put W.cs nm (TbD (setD es k 0))) nm (TbD (setD (setD es k 0) k 0)) } : Ws); rw [e2], rfl⟩, rfl, rfl, cs1, cs1, ⟨fun _ => ?_, fun q => absurd rfl q, fun q => absurd rfl q, fun q => absurd rfl q⟩, fun q => absurd q (by decide +kernel), fun _ => rfl, by simp [dp], pk⟩
      cases look es k with
      | none => exact ⟨fun _ => rfl, fun q => absurd rfl q⟩
      | some v => exact ⟨fun q => (by cases q), fun _ => rfl⟩
    · have cs1 := put1 (.table (hes.drop (k := k)))
      have l1 : look (put W.cs nm (TbD (dropE es k))) nm = some (TbD (dropE es k)) := by rw [look_put, if_pos rfl]
      have e2 : put (put W.cs nm (TbD (dropE es k))) nm (TbD (dropE (dropE es k) k)) = put W.cs nm (TbD (dropE es k)) := by rw [dropE_twice]; exact put_twice
      exact ⟨_, .none, .none, { W with cs := put W.cs nm (TbD (dropE es k)) }, { W with cs := put W.cs nm (TbD (dropE es k)) }, Dh, two rfl hk A.aDrop rfl ⟨nm, k, es, rfl, e0, tb, rfl, rfl⟩, two (W1 := { W with cs := put W.cs nm (TbD (dropE es k)) }) rfl hk A.aDrop rfl ⟨nm, k, dropE es k, rfl, l1, hes.drop.tab hkl4, by show _ = ({ W with cs := put (put W.cs nm (TbD (dropE es k))) nm (TbD (dropE (dropE es k) k)) } : Ws); rw [e2], rfl⟩, rfl, rfl, cs1, cs1,
        ⟨fun q => absurd q (by decide +kernel), fun _ q => absurd q (by decide +kernel), fun _ _ q => absurd q (by decide +kernel), fun _ _ _ => .inr rfl⟩, fun q => absurd q (by decide +kernel), fun _ => rfl, by simp [dp], by simp [dp]⟩
    · exact ⟨_, _, _, W, W, Dp_, Dp_, Dp_, rfl, rfl, hc, hc, ⟨fun q => absurd q (by decide +kernel), fun _ _ => rfl, fun _ q => absurd (by decide +kernel) q, fun _ q => absurd (by decide +kernel) q⟩, fun _ => rfl, fun _ => rfl, pk, pk⟩
    · exact ⟨_, _, _, W, W, Dh, Dh, Dh, rfl, rfl, hc, hc, ⟨fun q => absurd q (by decide +kernel), fun _ _ => rfl, fun _ q => absurd (by decide +kernel) q, fun _ q => absurd (by decide +kernel) q⟩, fun _ => rfl, fun _ => rfl, by simp [dp], by simp [dp]⟩
end
/-! ### looks without a trace -/
theorem neB_iff {th : Ths} {cs1 cs2 : List (Str × PyData)} {e : Tr} {d1 d2 : PyData} (h1 : CtOk e d1) (h2 : CtOk e d2) (l1 : look cs1 e.1 = some d1) (l2 : look cs2 e.1 = some d2) : neB cs1 cs2 e.1 = true ↔ d1 ≠ d2 := by
  unfold neB gotB
  rw [l1, l2]
  show (!(PyData.eqv d1 d2)) = true ↔ _
  rw [Bool.not_eq_true', ← Bool.not_eq_true, ct_eqv h1 h2]
theorem unlike_sym {th : Ths} {cs1 cs2 : List (Str × PyData)} (h1 : CsOk th cs1) (h2 : CsOk th cs2) : unlikeOf th cs1 cs2 = unlikeOf th cs2 cs1 := by
  unfold unlikeOf
  congr 1
  refine List.filter_congr fun e he => ?_
  obtain ⟨d1, l1, c1⟩ := h1.ok e he
  obtain ⟨d2, l2, c2⟩ := h2.ok e he
  rw [Bool.eq_iff_iff, neB_iff (th := th) c1 c2 l1 l2, neB_iff (th := th) c2 c1 l2 l1]
  exact ⟨fun h q => h q.symm, fun h q => h q.symm⟩
theorem ThL.refs {K : PySem.W.Frag} {M : Hp} {C : Addr} : ∀ {l : List (Str × V)} {th : Ths}, ThL K M C l th → ∃ as : List Addr, l.map (·.2) = as.map V.ref
  | _, _, .nil => ⟨[], rfl⟩
  | _, _, .cons (a := a) h t => by
    obtain ⟨as, e⟩ := t.refs
    exact ⟨a :: as, by rw [List.map_cons, e]; rfl⟩
theorem same_chg {Hs Ha Hb : Hp} {l : List Addr} (sm : Same Hs Ha) (c : Chg l Ha Hb) (fresh : ∀ z ∈ l, Hs z = none) : Same Hs Hb := fun b o e => c b o (fun m => ne_of_none e (fresh b m) rfl) (sm b o e)
theorem eqv_tstrs : ∀ xs : List Str, PyData.eqvAll (xs.map .str) (xs.map .str) = true
  | [] => by simp [PyData.eqvAll]
  | x :: r => by
    simp only [List.map_cons, PyData.eqvAll, PyData.eqv, eqv_tstrs r, Bool.and_true, beq_self_eq_true]
theorem look_words {e : Tr} {word : Str} {rest : List Str} (hk : e.2.1 ∈ k7) (h : (word, rest) ∈ looksOf e) : (word, (look qwords word).getD none) ∈ qwords := by
  rcases looks_mem h with ⟨h, _⟩ | ⟨h, _⟩ | ⟨_, k, _, h⟩
  · exact (by decide +kernel : ∀ kd ∈ k7, ∀ z ∈ plainOf kd, (z, (look qwords z).getD none) ∈ qwords) _ hk _ h
  · have h : word = "spy" := h
    rw [h]; decide +kernel
  · simp only [keyLooks, List.mem_cons, List.not_mem_nil, or_false, Prod.mk.injEq] at h
    rcases h with ⟨rfl, _⟩ | ⟨rfl, _⟩ | ⟨rfl, _⟩ | ⟨rfl, _⟩ <;> decide +kernel
theorem look_rest {e : Tr} {word : Str} {rest : List Str} (h : (word, rest) ∈ looksOf e) : rest.length ≤ 1 := by
  rcases looks_mem h with ⟨_, h⟩ | ⟨_, h⟩ | ⟨_, k, _, h⟩
  · have h : rest = [] := h
    rw [h]; exact Nat.zero_le _
  · have h : rest = [] := h
    rw [h]; exact Nat.zero_le _
  · simp only [keyLooks, List.mem_cons, List.not_mem_nil, or_false, Prod.mk.injEq] at h
    rcases h with ⟨_, rfl⟩ | ⟨_, rfl⟩ | ⟨_, rfl⟩ | ⟨_, rfl⟩ <;> exact Nat.le_refl _
theorem look_restW {e : Tr} (ok : TrOk e) {word : Str} {rest : List Str} (h : (word, rest) ∈ looksOf e) : ∀ z ∈ rest, IsWord z := by
  rcases looks_mem h with ⟨_, h⟩ | ⟨_, h⟩ | ⟨hk, k, hm, h⟩
  · have h : rest = [] := h
    rw [h]; intro z m; cases m
  · have h : rest = [] := h
    rw [h]; intro z m; cases m
  · have hw := (ok.keys hk).1 k hm
    simp only [keyLooks, List.mem_cons, List.not_mem_nil, or_false, Prod.mk.injEq] at h
    rcases h with ⟨_, rfl⟩ | ⟨_, rfl⟩ | ⟨_, rfl⟩ | ⟨_, rfl⟩ <;> intro z m <;> rw [List.mem_singleton.mp m] <;> exact hw
theorem strsT_shaped {xs : List Str} (h : ∀ x ∈ xs, PyData.strOk x = true) : SeqAt.shaped (.tuple (xs.map .str)) = true := by
  have h1 : PyData.canLayAll0 (xs.map .str) = true ∧ PyData.depthAll (xs.map .str) ≤ 1 := by
    induction xs with
    | nil => exact ⟨rfl, by simp [PyData.depthAll]⟩
    | cons x r ih =>
      obtain ⟨i1, i2⟩ := ih fun y hy => h y (List.mem_cons_of_mem _ hy)
      simp only [List.map_cons, PyData.canLayAll0, PyData.canLay0, PyData.depthAll, PyData.depth, h x List.mem_cons_self, i1]
      exact ⟨rfl, by omega⟩
  unfold SeqAt.shaped
  simp only [PyData.canLay0, h1.1, PyData.depth, Bool.true_and]
  exact decide_eq_true (by have := h1.2; omega)
theorem new2 {L : List Addr} {H : Hp} {a b : Addr} (h1 : H a = none) (h2 : H b = none) : ∀ z ∈ a :: b :: L, z ∈ L ∨ H z = none := fun z m => by
  rcases List.mem_cons.mp m with q | m
  · exact .inr (by rw [q]; exact h1)
  · rcases List.mem_cons.mp m with q | m
    · exact .inr (by rw [q]; exact h2)
    · exact .inl m
theorem sub2 {L : List Addr} {a b : Addr} : ∀ z ∈ L, z ∈ a :: b :: L := fun _ m => List.mem_cons_of_mem _ (List.mem_cons_of_mem _ m)
theorem alive2 {L : List Addr} {H : Hp} {a b : Addr} (h : Alive L H) (h1 : ∃ o, H a = some o) (h2 : ∃ o, H b = some o) : Alive (a :: b :: L) H := fun z m => by
  rcases List.mem_cons.mp m with q | m
  · rw [q]; exact h1
  · rcases List.mem_cons.mp m with q | m
    · rw [q]; exact h2
    · exact h z m
theorem chg_same {Ha Hb : Hp} {l L : List Addr} (c : Chg l Ha Hb) (h : ∀ z ∈ l, z ∈ L) : Same (mask L Ha) (mask L Hb) := (c.more h).mask
theorem quiet_word {word : Str} (h : traceB word = false) : twinW word = word := by
  unfold traceB at h
  unfold twinW
  cases e : (look qwords word).getD none with
  | none => rfl
  | some z => rw [e] at h; cases h
/-- a copy of the world -/
structure Cp (K : PySem.W.Frag) (C CS CW x s ct : Addr) (tv : List (Str × V)) (L : List Addr) (H : Hp) (W : Ws) : Prop where
  Wo : WoAt K L H CW x s (tv.map (·.2))
  St : StAt K L H C CS s ct W
  Tv : ThL K (mask L H) C tv W.th
section
variable {K : PySem.W.Frag} {C CS CW x s ct : Addr} {tv : List (Str × V)} {L L' : List Addr} {H H' : Hp} {W W' : Ws}
theorem Cp.wide (h : Cp K C CS CW x s ct tv L H W) (c : Same H H') (sub : ∀ z ∈ L, z ∈ L') (new : ∀ z ∈ L', z ∈ L ∨ H z = none) : Cp K C CS CW x s ct tv L' H' W := by
  have m := mask_ext c new
  exact ⟨h.Wo.over m, h.St.over m (sub _ h.St.sL) (sub _ h.St.cL) (fun o e => c _ _ e) fun o e => c _ _ e, h.Tv.same m⟩
theorem Cp.same (h : Cp K C CS CW x s ct tv L H W) (c : Same H H') : Cp K C CS CW x s ct tv L H' W := h.wide c (fun _ m => m) fun _ m => .inl m
/-- a deed at another world -/
theorem Cp.chg (h : Cp K C CS CW x s ct tv L H W) {a b : Addr} (c : Chg [a, b] H H') (aL : a ∈ L) (bL : b ∈ L) (n1 : s ≠ a) (n2 : s ≠ b) (n3 : ct ≠ a) (n4 : ct ≠ b) : Cp K C CS CW x s ct tv L H' W := by
  have m : Same (mask L H) (mask L H') := (c.inL aL bL).mask
  have nin : ∀ {z : Addr}, z ≠ a → z ≠ b → z ∉ [a, b] := fun {z} h1 h2 q => by
    rcases List.mem_cons.mp q with q | q
    · exact h1 q
    · exact h2 (List.mem_singleton.mp q)
  exact ⟨h.Wo.keep m, h.St.keep m (fun o e => c _ _ (nin n1 n2) e) fun o e => c _ _ (nin n3 n4) e, h.Tv.same m⟩
theorem WI.cp {p q tl : Addr} {xs : List V} {n : Nat} (h : WI K C CS CW p q tl x s ct xs tv L H W n) : Cp K C CS CW x s ct tv L H W := ⟨h.Wo, h.St, h.Tv⟩
theorem Cp.live (h : Cp K C CS CW x s ct tv L H W) : (∃ o, H s = some o) ∧ ∃ o, H ct = some o := by
  obtain ⟨_, _, _, e, _⟩ := h.St.dict
  obtain ⟨_, _, _, _, _, _, _, _, _, e4, _⟩ := h.St
  exact ⟨⟨_, e⟩, ⟨_, e4⟩⟩
/-- a deed at a copy -/
theorem Cp.doing {P : Program} {w : World} {mg : Str → Option Value} {base : Heap} {dP dA t : Addr} {word : Str} {args : List V} {rest : List PyData} {d : PyData} {Q : VK} {E' : XK} (h : Cp K C CS CW x s ct tv L H W) {n : Str} (hD : Doing P w K mg base C CS dP dA W n word rest d W') (hcl : W.cs.length ≤ 100) (al : Alive L H) (ht : SqT K (mask L H) t (.str word :: .str n :: args)) (ha : DpAll K (mask L H) args rest) (hr : rest.length ≤ 90) (hth : W'.th = W.th)
    (k : ∀ v H', Chg [s, ct] H H' → Cp K C CS CW x s ct tv L H' W' → Alive L H' → Dp K (mask L H') v d → Q v H') : spDo P w K mg base C CS CW dP dA [.ref x, .ref t] H Q E' := by
  obtain ⟨kinds, R, a1, a2, a3, a4⟩ := hD
  have la := dpAll_len ha
  refine do_gen a1 h.Wo h.St hcl al ht (.cons (.str n) ha) (by rw [List.length_cons]; omega) a2 a3 a4 fun v H' c hW hS hd => ?_
  have m : Same (mask L H) (mask L H') := (c.inL h.St.sL h.St.cL).mask
  have cp : Cp K C CS CW x s ct tv L H' W' := ⟨hW, hS, by rw [hth]; exact h.Tv.same m⟩
  refine k v H' c cp (fun z hz => ?_) hd
  by_cases q : z ∈ [s, ct]
  · rcases List.mem_cons.mp q with q | q
    · rw [q]; exact cp.live.1
    · rw [List.mem_singleton.mp q]; exact cp.live.2
  · obtain ⟨o, e⟩ := al z hz
    exact ⟨o, c _ _ q e⟩
end
structure Law16 (P : Program) (w : World) (K : PySem.W.Frag) (mg : Str → Option Value) (base : Heap) extends WDefs P w K mg base where
  A : Acts P w K mg base C CS dP dA
  (fWi fWo fAd fWd fLk fTw fTr fTh fPr fSE fDu fXo fEq : Addr)
  (xWi xWo xAd xWd xLk xTw xTr xTh xPr xSE xDu : FuncData)
  gWi : FnOk P w K mg base CX0 3 fWi xWi ["pool", "least", "most"] (spWide K)
  gWo : FnOk P w K mg base CX0 8 fWo xWo ["things"] (spWorldOf K C CS CW)
  gAd : FnOk P w K mg base CX0 3 fAd xAd ["pool", "things"] (spAnyW K)
  gWd : FnOk P w K mg base CX0 2 fWd xWd ["pool"] spWord
  gLk : FnOk P w K mg base CX0 1 fLk xLk ["thing"] (spLooks K)
  gTw : FnOk P w K mg base CX0 1 fTw xTw ["look"] (spTwin K)
  gTr : FnOk P w K mg base CX0 1 fTr xTr ["look"] (spTrace K)
  gTh : FnOk P w K mg base CX0 1 fTh xTh ["look"] (spThOf K)
  gPr : FnOk P w K mg base CX0 4 fPr xPr ["look", "told", "heard", "value"] (spPair K)
  gSE : FnOk P w K mg base CX0 3 fSE xSE ["actual", "due"] (spSameE K 3)
  bWi : Binds K xWi ["pool", "least", "most"] []
  bWo : Binds K xWo ["things"] []
  bAd : Binds K xAd ["pool", "things"] []
  bWd : Binds K xWd ["pool"] []
  bLk : Binds K xLk ["thing"] []
  bTw : Binds K xTw ["look"] []
  bTr : Binds K xTr ["look"] []
  bTh : Binds K xTh ["look"] []
  bPr : Binds K xPr ["look", "told", "heard", "value"] []
  bSE : Binds K xSE ["actual", "due"] []
  mWi : mg "_law_wide_things" = some (.ref fWi)
  mWo : mg "_law_world_of" = some (.ref fWo)
  mAd : mg "_law_any_deed" = some (.ref fAd)
  mWd : mg "_law_word" = some (.ref fWd)
  mLk : mg "_law_looks" = some (.ref fLk)
  mTw : mg "quiet_twin" = some (.ref fTw)
  mTr : mg "leaves_trace" = some (.ref fTr)
  mTh : mg "thing_of" = some (.ref fTh)
  mPr : mg "_law_pair" = some (.ref fPr)
  mSE : mg "_law_same" = some (.ref fSE)
  kWi : PySem.W.keepIn K (.ref fWi) = true
  kWo : PySem.W.keepIn K (.ref fWo) = true
  kAd : PySem.W.keepIn K (.ref fAd) = true
  kWd : PySem.W.keepIn K (.ref fWd) = true
  kLk : PySem.W.keepIn K (.ref fLk) = true
  kTw : PySem.W.keepIn K (.ref fTw) = true
  kTr : PySem.W.keepIn K (.ref fTr) = true
  kTh : PySem.W.keepIn K (.ref fTh) = true
  kPr : PySem.W.keepIn K (.ref fPr) = true
  kSE : PySem.W.keepIn K (.ref fSE) = true
  mDu : Meth K CW "duplicate" fDu
  gDu : FnOk P w K mg base CX0 6 fDu xDu ["self"] (spWDup K C CS CW)
  bDu : Binds K xDu ["self"] []
  cXo : PySem.W.selfFirst K CW = true
  sXo : PySem.W.findIn K (.ref CW) (PySem.dunder Operator.BitXor.info.2) = some (some (.ref fXo))
  iXo : PySem.W.isFn K (.ref fXo) = true
  gXo : FnR P w K mg base CX0 7 fXo (spXor K C CS CW)
  sEq : PySem.W.findIn K (.ref CW) "__eq__" = some (some (.ref fEq))
  iEq : PySem.W.isFn K (.ref fEq) = true
  gEq : FnR P w K mg base CX0 4 fEq (spWEq K C CS CW)
def spLaw (K : PySem.W.Frag) : Sp := fun vs H Q _ => ∃ (a : Addr) (ns : List Int), vs = [.ref a] ∧ SqL K H a (ns.map V.int) ∧ ns.length ≤ 63 ∧ ∀ H', Q (.bl true) H'
section
variable {P : Program} {w : World} {K : PySem.W.Frag} {mg : Str → Option Value} {base : Heap}
theorem scL : FnScope ["script", "pool", "things", "world", "turn", "mark", "thing", "look", "deed", "twin", "copied", "other", "heard", "told", "unlike", "one", "again"] ["script"] (defScope sLaw) := ⟨rfl, rfl, rfl, by decide +kernel, rfl, by decide +kernel, by decide +kernel⟩
theorem ok_law {f : Addr} {fd : FuncData} (F : Fun K "law" "law" sLaw f fd) (G : Law16 P w K mg base) : FnOk P w K mg base CX0 13 f fd ["script"] (spLaw K) := by
  refine F.ok scL (fun vs H Q E h => ?_) (fun cdv A outer s0 H vs Q E hr h => ?_)
  · obtain ⟨a, ns, rfl, _⟩ := h
    rfl
  · obtain ⟨a, ns, rfl, hS0, hlen, kk⟩ := h
    have hu := hu_of hr
    have hrP : Room 1 _ := hr.mono (by decide)
    have hrD : Room 1 _ := hr.mono (by decide)
    have hrWi : Room 3 _ := hr.mono (by decide)
    have hrWo : Room 8 _ := hr.mono (by decide)
    have hrAd : Room 3 _ := hr.mono (by decide)
    have hrWd : Room 2 _ := hr.mono (by decide)
    have hrLk : Room 1 _ := hr.mono (by decide)
    have hrTw : Room 1 _ := hr.mono (by decide)
    have hrTr : Room 1 _ := hr.mono (by decide)
    have hrTh : Room 1 _ := hr.mono (by decide)
    have hrPr : Room 4 _ := hr.mono (by decide)
    have hrSE : Room 3 _ := hr.mono (by decide)
    have hrIT : Room 6 _ := hr.mono (by decide)
    have hrDu : Room 6 _ := hr.mono (by decide)
    have hrXo : Room 7 _ := hr.mono (by decide)
    have hrEq : Room 4 _ := hr.mono (by decide)
    have hrDo : Room 12 _ := hr
    refine ⟨_, pss_cons (ps_set (i := 1) scL.nd rfl (.inl rfl) (pe_call G.gP hrP (by rfl) G.mP G.kP G.bP .nil pass0 (pa_cons (pv 0) pa_nil)))
      (pss_cons (ps_set (i := 2) scL.nd rfl (.inl rfl) (pe_call G.gWi hrWi (by rfl) G.mWi G.kWi G.bWi .nil pass0 (pa_cons (pv 1) (pa_cons pe_int (pa_cons pe_int pa_nil)))))
      (pss_cons (ps_set (i := 3) scL.nd rfl (.inr rfl) (pe_call G.gWo hrWo (by rfl) G.mWo G.kWo G.bWo .nil pass0 (pa_cons (pv 2) pa_nil)))
      (pss_cons (ps_for PassesOwn.never rfl (pi_range1 (by rfl) G.B.range (pa_cons (pe_call G.gD hrD (by rfl) G.mD G.kD G.bD .nil pass0 (pa_cons (pv 1) (pa_cons pe_int pa_nil))) pa_nil)) (pg_name (i := 4) scL.nd rfl (.inl rfl))
        (pss_one (ps_expr (pe_meth (pv 3) G.W.cls G.mDo G.gDo hrDo G.bDo .nil pass0 (pa_cons (pe_call G.gAd hrAd (by rfl) G.mAd G.kAd G.bAd .nil pass0 (pa_cons (pv 1) (pa_cons (pv 2) pa_nil))) pa_nil)))))
      (pss_cons (ps_set (i := 5) scL.nd rfl (.inl rfl) (pe_call G.gWd hrWd (by rfl) G.mWd G.kWd G.bWd .nil pass0 (pa_cons (pv 1) pa_nil)))
      (pss_cons (ps_for PassesOwn.never rfl (pi_list (pv 2)) (pg_name (i := 6) scL.nd rfl (.inl rfl))
        (pss_one (ps_for PassesOwn.never rfl (pi_list (pe_call G.gLk hrLk (by rfl) G.mLk G.kLk G.bLk .nil pass0 (pa_cons (pv 6) pa_nil))) (pg_name (i := 7) scL.nd rfl (.inl rfl))
            (C8.pss_cut (ps_set (i := 8) scL.nd rfl (.inl rfl) (pe_ifExp (pt_cmpR op_eq (pe_ix ix_tup (pv 7) pe_int (fun _ _ => rfl)) pe_str (nomark _)) (pe_op op_catA (pv 7) (pe_tup (pa_cons (pv 5) pa_nil))) (pv 7)))
              (pss_cons (ps_set (i := 9) scL.nd rfl (.inl rfl) (pe_call G.gTw hrTw (by rfl) G.mTw G.kTw G.bTw .nil pass0 (pa_cons (pv 7) pa_nil)))
              (pss_cons (ps_set (i := 10) scL.nd rfl (.inl rfl) (pe_meth0 (pv 3) G.W.cls G.mDu G.gDu hrDu G.bDu .nil pass0))
              (pss_cons (ps_set (i := 11) scL.nd rfl (.inr rfl) (pe_meth0 (pv 3) G.W.cls G.mDu G.gDu hrDu G.bDu .nil pass0))
              (pss_cons (ps_set (i := 12) scL.nd rfl (.inl rfl) (pe_meth (pv 10) G.W.cls G.mDo G.gDo hrDo G.bDo .nil pass0 (pa_cons (pv 9) pa_nil)))
              (pss_cons (ps_set (i := 13) scL.nd rfl (.inl rfl) (pe_meth (pv 11) G.W.cls G.mDo G.gDo hrDo G.bDo .nil pass0 (pa_cons (pv 8) pa_nil)))
              (pss_cons (ps_if (PW.pt (pw_or (pt_cmpR op_ne (pe_call G.gTh hrTh (by rfl) G.mTh G.kTh G.bTh .nil pass0 (pa_cons (pv 9) pa_nil)) (pe_ix ix_tup (pv 6) pe_int (fun _ _ => rfl)) (nomark _)) (pw_or1 (pt_not (pt_val (pe_call G.gSE hrSE (by rfl) G.mSE G.kSE G.bSE .nil pass0 (pa_cons (pe_cmpR (op_eqOwn (E := E0) G.sEq G.iEq G.gEq hrEq pass0) (pv 10) (pv 3) (nomark _)) (pa_cons pe_bl pa_nil))))))))
                (pss_one (ps_ret pe_bl))
                pss_nil)
              (C8.pss_cut (ps_if (PW.pt (pw_and (pt_not (pt_val (pe_call G.gTr hrTr (by rfl) G.mTr G.kTr G.bTr .nil pass0 (pa_cons (pv 7) pa_nil)))) (pw_and1 (pt_not (pt_val (pe_call G.gSE hrSE (by rfl) G.mSE G.kSE G.bSE .nil pass0 (pa_cons (pe_lst (pa_cons (pe_cmpR (op_eqOwn (E := E0) G.sEq G.iEq G.gEq hrEq pass0) (pv 11) (pv 3) (nomark _)) (pa_cons (pe_cmpR (op_eqD hr.units) (pv 9) (pv 7) (nomark _)) pa_nil))) (pa_cons (pe_lst (pa_cons pe_bl (pa_cons pe_bl pa_nil))) pa_nil))))))))
                (pss_one (ps_ret pe_bl))
                pss_nil)
              (pss_cons (ps_if (pt_not (pt_val (pe_call G.gPr hrPr (by rfl) G.mPr G.kPr G.bPr .nil pass0 (pa_cons (pv 7) (pa_cons (pv 13) (pa_cons (pv 12) (pa_cons (pe_itemOwn (E := E0) G.aIt G.nIt G.hIt G.gIt hrIT pass0 (pv 11) (pe_ix ix_tup (pv 6) pe_int (fun _ _ => rfl))) pa_nil)))))))
                (pss_one (ps_ret pe_bl))
                pss_nil)
              (pss_cons (ps_setLc (i := 14) (own := [("one", 15)]) (g := gName 15) (te := tOp (rIxT K) (tVar 15) (tC (.int 1))) (tt := tTest (tOp (rNeD K) (tOp (rItemOwn G.CW (spItem K G.C G.CS G.CW) E0) (tVar 3) (tOp (rIxT K) (tVar 15) (tC (.int 1)))) (tOp (rItemOwn G.CW (spItem K G.C G.CS G.CW) E0) (tVar 11) (tOp (rIxT K) (tVar 15) (tC (.int 1)))))) rfl scL.nd rfl rfl (sw_true rfl rfl rfl (by decide +kernel)) (pi_list (pv 2)) (blkOk_by (N := ["script", "pool", "things", "world", "turn", "mark", "thing", "look", "deed", "twin", "copied", "other", "heard", "told", "unlike", "one", "again"]) (sc := defScope sLaw) (by decide +kernel)) (fun _ _ _ _ _ => (pg_name (i := 15) scL.nd rfl (.inl rfl))) (fun _ _ _ _ _ => pts_one (pt_cmpR (opK (K := K) (r := rNeD) (op_neD hr.units)) (pe_itemOwn (E := E0) G.aIt G.nIt G.hIt G.gIt hrIT pass0 (pv 3) (pe_ix (ixK (K := K) (r := rIxT) ix_tup) (pv 15) pe_int (fun _ _ => rfl))) (pe_itemOwn (E := E0) G.aIt G.nIt G.hIt G.gIt hrIT pass0 (pv 11) (pe_ix (ixK (K := K) (r := rIxT) ix_tup) (pv 15) pe_int (fun _ _ => rfl))) (nomark _))) (fun _ _ _ _ _ => (pe_ix (ixK (K := K) (r := rIxT) ix_tup) (pv 15) pe_int (fun _ _ => rfl))))
              (pss_cons (ps_if (pt_not (pt_val (pe_call G.gSE hrSE (by rfl) G.mSE G.kSE G.bSE .nil pass0 (pa_cons (pe_lst (pa_cons (pe_op (op_binOwn (E := E0) G.cXo G.sXo G.iXo G.gXo hrXo pass0) (pv 3) (pv 11)) (pa_cons (pe_op (op_binOwn (E := E0) G.cXo G.sXo G.iXo G.gXo hrXo pass0) (pv 11) (pv 3)) pa_nil))) (pa_cons (pe_lst (pa_cons (pv 14) (pa_cons (pv 14) pa_nil))) pa_nil)))))
                (pss_one (ps_ret pe_bl))
                pss_nil)
              (pss_cons (ps_set (i := 16) scL.nd rfl (.inl rfl) (pe_meth0 (pv 11) G.W.cls G.mDu G.gDu hrDu G.bDu .nil pass0))
              (pss_cons (ps_expr (pe_meth (pv 16) G.W.cls G.mDo G.gDo hrDo G.bDo .nil pass0 (pa_cons (pv 8) pa_nil)))
              (pss_one (ps_if (PW.pt (pw_and (pt_cmpR op_notIn_seq (pe_ix ix_tup (pv 7) pe_int (fun _ _ => rfl)) (pe_tup (pa_cons pe_str (pa_cons pe_str pa_nil))) (by rfl)) (pw_and1 (pt_not (pt_val (pe_call G.gSE hrSE (by rfl) G.mSE G.kSE G.bSE .nil pass0 (pa_cons (pe_cmpR (op_eqOwn (E := E0) G.sEq G.iEq G.gEq hrEq pass0) (pv 16) (pv 11) (nomark _)) (pa_cons pe_bl pa_nil))))))))
                (pss_one (ps_ret pe_bl))
                pss_nil))))))))))))))))))
      (pss_one (ps_ret pe_bl))))))), ?_⟩
    refine ⟨.ref a, rfl, a, ns, rfl, hS0, hlen, fun p q H1 np nq P1 s1 => ?_⟩
    refine ⟨.ref p, rfl, p, q, 0, 1, 8, rfl, P1, by omega, by omega, by omega, by omega, fun tl xs nms th n2 H2 ntl hl1 hl8 hnd ok P2 hn2 K2 etl hpr => ?_⟩
    have hnd' : (names th).Nodup := by rw [ok.nm]; exact hnd
    have lth : th.length = nms.length := by
      have := congrArg List.length ok.nm
      unfold names at this
      rw [List.length_map] at this
      exact this
    have tw : ThW nms th := ⟨ok, hnd', by omega, fun q => by rw [q] at lth; simp at lth; omega⟩
    refine ⟨.ref tl, rfl, p, q, n2, tl, xs, th, rfl, P2, SqL.of etl, paired_imp (fun _ _ r => r.same (mask_sub _ _)) hpr, ok.ok, hnd', tw.ne, tw.l8, ok.kd, ok.ff, fun x s ct tv H3 s3 ns3 nct3 nsp ncp hW hS hT => ?_⟩
    have tlp := P1.alive.not ntl
    have wi0 : WI K G.C G.CS G.CW p q tl x s ct xs tv [s, ct, p, q] H3 ⟨th, firsts th, 0, 0, 0⟩ n2 := by
      have tlL : tl ∉ [s, ct, p, q] := fun m => by
        rcases List.mem_cons.mp m with z | m
        · exact ne_of_none etl ns3 z
        · rcases List.mem_cons.mp m with z | m
          · exact ne_of_none etl nct3 z
          · exact tlp m
      refine ⟨by simp, by simp, P2.same s3, SqL.of (by rw [mask_out tlL]; exact s3 _ _ etl), paired_imp (fun _ _ r => r.same ?_) hpr, hW, hS, hT, firsts_ok ok hnd', firsts_ft hnd' 0 0 0⟩
      refine (mask_fewer (L := [p, q]) (fun z m => List.mem_cons_of_mem _ m)).trans (mask_ext s3 fun z m => ?_)
      rcases List.mem_cons.mp m with z' | m
      · exact .inr (by rw [z']; exact ns3)
      · rcases List.mem_cons.mp m with z' | m
        · exact .inr (by rw [z']; exact nct3)
        · exact .inl m
    obtain ⟨L, hL⟩ : ∃ L, L = [s, ct, p, q] := ⟨_, rfl⟩
    rw [← hL] at wi0
    clear hW hS hT hpr etl s3 ns3 nct3 nsp ncp P2 K2 ntl P1 s1 np nq
    refine ⟨_, rfl, p, q, n2, 31, rfl, wi0.P, by omega, by decide, by decide, fun d H4 d0 d1 P4 K4 => ?_⟩
    have wi1 := wi0.pool P4 K4
    refine ⟨d, rfl, by omega, by omega, for_range (lo := 0) (n := d.toNat) (fun i σ H => ∃ (W : Ws) (n : Nat) (y4 : Option V), σ = [some (.ref a), some (.ref p), some (.ref tl), some (.ref x), y4, none, none, none, none, none, none, none, none, none, none, none, none] ∧ W.th = th ∧ n ≤ 700 + 20 * i ∧ WI K G.C G.CS G.CW p q tl x s ct xs tv L H W n) ⟨_, n2 + 1, none, rfl, rfl, by omega, wi1⟩ ?_ ?_⟩
    · rintro i σ H5 hi ⟨W, n, y4, rfl, hth, hn, wi⟩
      have al := wi.alive hL
      obtain ⟨dw, t, ew⟩ := wi.Wo.of
      have tw' : ThW nms W.th := by rw [hth]; exact tw
      refine ⟨_, rfl, x, dw, _, rfl, ew, rfl, ?_⟩
      refine ⟨_, rfl, _, rfl, L, p, q, n, tl, xs, W.th, nms, rfl, wi.P, by omega, wi.pL, wi.qL, al, wi.T, wi.R, tw'.ok, tw'.ne, tw'.l8, fun b e word args rest n' H6 he P6 hn6 K6 hb ha hd => ?_⟩
      have wi6 := wi.pool P6 K6
      exact do_drawn (E' := E0) G.A wi6 tw' (wi6.alive hL) he hb ha hd fun v H7 W' _ hth' wi7 _ _ => ⟨W', n', _, rfl, hth'.trans hth, by omega, wi7⟩
    rintro σ H5 ⟨W, n5, y4, rfl, hth5, hn5, wi5⟩
    have hdn : d.toNat ≤ 30 := by omega
    clear wi0 wi1 P4 K4 d1
    subst hth5
    -- the mark
    refine ⟨_, rfl, p, q, n5, rfl, wi5.P, by omega, fun mark n6 H6 hmk hn6 hn6' P6 K6 => ?_⟩
    have wi6 := wi5.pool P6 K6
    clear wi5 P6 K6
    have lxs := paired_len wi6.R
    have hcl := wi6.cl tw.l8
    have al6 := wi6.alive hL
    -- the things
    refine ⟨_, rfl, tl, rfl, ⟨_, (mask_sub _ _).seq wi6.T⟩, for_list (K := K) (a := tl) (xs := xs) (fun i σ H => ∃ (y6 y7 y8 y9 y10 y11 y12 y13 y14 y16 : Option V), σ = [some (.ref a), some (.ref p), some (.ref tl), some (.ref x), y4, some (.str mark), y6, y7, y8, y9, y10, y11, y12, y13, y14, none, y16] ∧ Same H6 H) ⟨_, _, _, _, _, _, _, _, _, _, rfl, Same.refl _⟩ (fun i σ H _ hI => by obtain ⟨_, _, _, _, _, _, _, _, _, _, _, s⟩ := hI; exact s.seq ((mask_sub _ _).seq wi6.T)) (fun i y σ H7 hy hI => ?_) (fun σ H7 hI => ?_)⟩
    case refine_2 =>
      obtain ⟨_, _, _, _, _, _, _, _, _, _, rfl, _⟩ := hI
      exact kk H7
    obtain ⟨y6, y7, y8, y9, y10, y11, y12, y13, y14, y16, rfl, s67⟩ := hI
    obtain ⟨e, ee, t, pt, rfl, ht, hpt⟩ := paired_get wi6.R hy
    have he := List.mem_of_getElem? ee
    have hkd : e.2.1 ∈ k7 := (by decide +kernel : ∀ z ∈ kindsS, z ∈ k7) _ (tw.ok.kd e he)
    have hps : e.2.2.length ≤ 4 := by
      have := tw.ok.ok e he
      cases this with
      | one _ _ => exact Nat.zero_le _
      | field _ _ => exact Nat.le_succ_of_le (Nat.le_succ_of_le (Nat.le_succ _))
      | table _ _ _ h => exact h
    have ht7 := Same.seqT s67 (Same.seqT (mask_sub _ _) ht)
    have wi7 := wi6.same s67
    have al7 := al6.same s67
    refine ⟨_, rfl, L, .ref t, e, rfl, ⟨t, pt, rfl, Same.seqT (mask_same s67) ht, Same.seqT (mask_same s67) hpt⟩, al7, hkd, hps, fun lkl ys H8 s78 nlkl elkl hlk => ?_⟩
    have wi8 := wi7.same s78
    have al8 := al7.same s78
    have s68 := s67.trans s78
    have lys := paired_len hlk
    clear wi7 al7
    refine ⟨lkl, rfl, ⟨_, SqL.of elkl⟩, for_list (K := K) (a := lkl) (xs := ys) (fun i σ H => ∃ (y7 y8 y9 y10 y11 y12 y13 y14 y16 : Option V), σ = [some (.ref a), some (.ref p), some (.ref tl), some (.ref x), y4, some (.str mark), some (.ref t), y7, y8, y9, y10, y11, y12, y13, y14, none, y16] ∧ Same H8 H) ⟨_, _, _, _, _, _, _, _, _, rfl, Same.refl _⟩ (fun i σ H _ hI => by obtain ⟨_, _, _, _, _, _, _, _, _, _, s⟩ := hI; exact s.seq (SqL.of elkl)) (fun j yj σ H9 hyj hI => ?_) (fun σ H9 hI => ?_)⟩
    case refine_2 =>
      obtain ⟨y7, y8, y9, y10, y11, y12, y13, y14, y16, rfl, s89⟩ := hI
      exact ⟨_, _, _, _, _, _, _, _, _, _, rfl, s68.trans s89⟩
    obtain ⟨y7, y8, y9, y10, y11, y12, y13, y14, y16, rfl, s89⟩ := hI
    obtain ⟨⟨word, rest⟩, el, lt, rfl, hlt⟩ := paired_get hlk hyj
    have hl : (word, rest) ∈ looksOf e := List.mem_of_getElem? el
    have hlt : SqT K (mask L H8) lt (.str word :: .str e.1 :: rest.map V.str) := hlt
    have hrl := look_rest hl
    have hqw := look_words hkd hl
    obtain ⟨dh, dt, d2, W', W'', LO⟩ := looks_all G.A tw wi6.cs he hl hmk
    have wi9 := wi8.same s89
    have al9 := al8.same s89
    have hlt9 := Same.seqT (mask_same s89) hlt
    have ht9 := Same.seqT (s78.trans s89) ht7
    have fr8 : ∀ {H' : Hp} {z : Addr}, Same H8 H' → H' z = none → H8 z = none := fun {H' z} sm e => by
      cases q : H8 z with
      | none => rfl
      | some o => rw [sm _ _ q] at e; cases e
    have hR9 := wi9.R
    clear wi8 al8 hlt ht7
    -- the deed
    refine ⟨fun σ H' => (∃ dd : Addr, σ = [some (.ref a), some (.ref p), some (.ref tl), some (.ref x), y4, some (.str mark), some (.ref t), some (.ref lt), some (.ref dd), y9, y10, y11, y12, y13, y14, none, y16] ∧ ∃ dargs, SqT K (mask L H') dd (.str word :: .str e.1 :: dargs) ∧ DpAll K (mask L H') dargs (markR word mark rest)) ∧ Same H9 H', ?_, ?_⟩
    · refine ⟨_, rfl, lt, _, 0, _, rfl, rfl, Same.seqT (mask_sub _ _) hlt9, atI_nat (j := 0) rfl, rfl, _, rfl, ?_⟩
      show (if decide (V.str word = V.str "mark") = true then _ else _)
      by_cases hm : word = "mark"
      · rw [decide_eq_true (show V.str word = V.str "mark" by rw [hm])]
        refine iteT ⟨_, rfl, _, rfl, by show 1 ≤ sizeLine; decide, fun m1 nm1 => ?_⟩
        have sm := same_new (o := .tup [.str mark]) nm1
        have em1 : (upd H9 m1 (.tup [.str mark])) m1 = some (.tup [.str mark]) := upd_same
        generalize upd H9 m1 (.tup [.str mark]) = J1 at *
        refine ⟨lt, m1, _, _, rfl, rfl, Same.seqT sm (Same.seqT (mask_sub _ _) hlt9), SqT.of em1, len1000 (n := (V.str word :: .str e.1 :: rest.map V.str).length + 1) (by rw [List.length_cons, List.length_cons, List.length_map]; omega), fun q => (by cases q), fun _ q => (by cases q), fun _ _ dd ndd => ?_⟩
        have s2 := same_new (o := .tup ((V.str word :: .str e.1 :: rest.map V.str) ++ [.str mark])) ndd
        have ddL := (al9.same sm).not ndd
        refine ⟨⟨dd, rfl, rest.map V.str ++ [.str mark], SqT.of (mask_upd ddL), ?_⟩, sm.trans s2⟩
        unfold markR
        rw [if_pos hm]
        exact dpAll_app (strs_dp rest) (.cons (.str mark) .nil)
      · rw [show decide (V.str word = V.str "mark") = false from decide_eq_false fun z => hm (by injection z)]
        refine iteF ⟨_, rfl, ⟨lt, rfl, rest.map V.str, hlt9, ?_⟩, Same.refl _⟩
        unfold markR
        rw [if_neg hm, List.append_nil]
        exact strs_dp rest
    rintro σ HA ⟨⟨dd, rfl, dargs, hdd, hdr⟩, s9A⟩
    have mrl : (markR word mark rest).length ≤ 90 := by
      unfold markR
      rw [List.length_append, List.length_map]
      split <;> simp <;> omega
    have hltA := Same.seqT (mask_same s9A) hlt9
    have alA := al9.same s9A
    -- the twin
    refine ⟨_, rfl, .ref lt, (word, (look qwords word).getD none), .str e.1, rest.map .str, L, rfl, .tup hltA (.cons (.str word) (.cons (.str e.1) (strs_dp rest))), by rw [List.length_map]; omega, hqw, alA, fun u HB sAB hu => ?_⟩
    obtain ⟨ta, xsT, rfl, hta, hxa⟩ := dp_tup hu
    obtain ⟨v0, r0, rfl, hv0, hxa⟩ := dpAll_cons hxa
    obtain ⟨v1, targs, rfl, hv1, htr⟩ := dpAll_cons hxa
    obtain rfl := dp_str hv0
    obtain rfl := dp_str hv1
    have hta : SqT K (mask L HB) ta (.str (twinW word) :: .str e.1 :: targs) := hta
    clear hu hxa hv0 hv1
    have s9B := s9A.trans sAB
    have wiB := wi9.same s9B
    have alB := al9.same s9B
    obtain ⟨dwB, tB, ewB⟩ := wiB.Wo.of
    -- two copies
    refine ⟨_, rfl, x, dwB, _, rfl, ewB, rfl, L, x, s, ct, W, tv, rfl, wiB.Wo, wiB.St, alB, wiB.Tv, tw.nd, tw.l8, tw.ok.kd, tw.ok.ff, fun x1 s1 ct1 HC sBC nx1 ns1 nct1 hW1 hS1 => ?_⟩
    have n1 := new2 (L := L) ns1 nct1
    have o1 := wiB.off ns1
    have p1 := wiB.off nct1
    have wiC := wiB.wide sBC sub2 n1
    have cp1C : Cp K G.C G.CS G.CW x1 s1 ct1 tv (s1 :: ct1 :: L) HC W := ⟨hW1, hS1, wiB.Tv.same (mask_ext sBC n1)⟩
    have alC := alive2 (alB.same sBC) cp1C.live.1 cp1C.live.2
    obtain ⟨dwC, tC, ewC⟩ := wiC.Wo.of
    have f9 : ∀ {H' : Hp} {z : Addr}, Same H9 H' → H' z = none → H9 z = none := fun {H' z} sm e => by
      cases q : H9 z with
      | none => rfl
      | some o => rw [sm _ _ q] at e; cases e
    have ns19 := f9 s9B ns1
    have nct19 := f9 s9B nct1
    refine ⟨_, rfl, x, dwC, _, rfl, ewC, rfl, s1 :: ct1 :: L, x, s, ct, W, tv, rfl, wiC.Wo, wiC.St, alC, wiC.Tv, tw.nd, tw.l8, tw.ok.kd, tw.ok.ff, fun x2 s2 ct2 HD sCD nx2 ns2 nct2 hW2 hS2 => ?_⟩
    have n2' := new2 (L := s1 :: ct1 :: L) ns2 nct2
    have o2 := wiC.off ns2
    have p2 := wiC.off nct2
    have wiD := wiC.wide sCD sub2 n2'
    have cp2D : Cp K G.C G.CS G.CW x2 s2 ct2 tv (s2 :: ct2 :: s1 :: ct1 :: L) HD W := ⟨hW2, hS2, wiC.Tv.same (mask_ext sCD n2')⟩
    have cp1D := cp1C.wide sCD sub2 n2'
    have alD := alive2 (alC.same sCD) cp2D.live.1 cp2D.live.2
    have q12 : s1 ≠ s2 ∧ s1 ≠ ct2 ∧ ct1 ≠ s2 ∧ ct1 ≠ ct2 := by
      obtain ⟨⟨_, e1⟩, _, e2⟩ := cp1C.live
      exact ⟨ne_of_none e1 ns2, ne_of_none e1 nct2, ne_of_none e2 ns2, ne_of_none e2 nct2⟩
    have s9C := s9B.trans sBC
    have s9D := s9C.trans sCD
    have ns29 := f9 s9C ns2
    have nct29 := f9 s9C nct2
    have mBD : Same (mask L HB) (mask (s2 :: ct2 :: s1 :: ct1 :: L) HD) := (mask_ext sBC n1).trans (mask_ext sCD n2')
    have htaD := Same.seqT mBD hta
    have htrD := dpAll_same mBD _ _ htr
    have mAB : Same (mask L HA) (mask L HB) := mask_same sAB
    have hddD := Same.seqT (mAB.trans mBD) hdd
    have hdrD := dpAll_same (mAB.trans mBD) _ _ hdr
    have hltD := Same.seqT (mAB.trans mBD) hltA
    obtain ⟨L2, hL2⟩ : ∃ L2, L2 = s2 :: ct2 :: s1 :: ct1 :: L := ⟨_, rfl⟩
    have m1 : s1 ∈ L2 := by rw [hL2]; simp
    have m2 : ct1 ∈ L2 := by rw [hL2]; simp
    have m3 : s2 ∈ L2 := by rw [hL2]; simp
    have m4 : ct2 ∈ L2 := by rw [hL2]; simp
    have subL : ∀ z ∈ L, z ∈ L2 := fun z m => by rw [hL2]; exact sub2 z (sub2 z m)
    have new9 : ∀ z ∈ L2, z ∈ L ∨ H9 z = none := fun z m => by
      rw [hL2] at m
      rcases new2 (L := s1 :: ct1 :: L) ns29 nct29 z m with m | m
      · exact new2 ns19 nct19 z m
      · exact .inr m
    rw [← hL2] at wiD cp2D cp1D alD mBD htaD htrD hddD hdrD hltD
    clear wiB wiC cp1C alC alB alA hW1 hS1 hW2 hS2 hta htr hdd hdr hltA mAB mBD n1 n2' nx1 nx2 ns1 nct1 ns2 nct2 ewB ewC
    obtain ⟨dw1, t1, ew1⟩ := cp1D.Wo.of
    -- heard
    have rl90 : (rest.map PyData.str).length ≤ 90 := by rw [List.length_map]; omega
    refine ⟨_, rfl, x1, dw1, _, rfl, ew1, rfl, _, rfl, cp1D.doing (E' := E0) LO.hear (by omega) alD htaD htrD rl90 rfl fun vh HE cE cp1E alE hvh => ?_⟩
    have z2 : ∀ z ∈ [s1, ct1], z ∈ L2 := fun z m => by
      rcases List.mem_cons.mp m with q | m
      · rw [q]; exact m1
      · rw [List.mem_singleton.mp m]; exact m2
    have z3 : ∀ z ∈ [s2, ct2], z ∈ L2 := fun z m => by
      rcases List.mem_cons.mp m with q | m
      · rw [q]; exact m3
      · rw [List.mem_singleton.mp m]; exact m4
    have fr1 : ∀ z ∈ [s1, ct1], H9 z = none := fun z m => by
      rcases List.mem_cons.mp m with q | m
      · rw [q]; exact ns19
      · rw [List.mem_singleton.mp m]; exact nct19
    have fr2 : ∀ z ∈ [s2, ct2], H9 z = none := fun z m => by
      rcases List.mem_cons.mp m with q | m
      · rw [q]; exact ns29
      · rw [List.mem_singleton.mp m]; exact nct29
    have s9E := same_chg s9D cE fr1
    have cp2E := cp2D.chg cE m1 m2 (fun q => q12.1 q.symm) (fun q => q12.2.2.1 q.symm) (fun q => q12.2.1 q.symm) (fun q => q12.2.2.2 q.symm)
    have mDE := chg_same cE z2
    have hddE := Same.seqT mDE hddD
    have hdrE := dpAll_same mDE _ _ hdrD
    obtain ⟨dw2, t2, ew2⟩ := cp2E.Wo.of
    -- told
    refine ⟨_, rfl, x2, dw2, _, rfl, ew2, rfl, _, rfl, cp2E.doing (E' := E0) LO.tell (by omega) alE hddE hdrE mrl LO.th fun vt HF cF cp2F alF hvt => ?_⟩
    have s9F := same_chg s9E cF fr2
    have cp1F := cp1E.chg cF m3 m4 q12.1 q12.2.1 q12.2.2.1 q12.2.2.2
    have mEF := chg_same cF z3
    have hddF := Same.seqT mEF hddE
    have hdrF := dpAll_same mEF _ _ hdrE
    have htaF := Same.seqT (mDE.trans mEF) htaD
    have htrF := dpAll_same (mDE.trans mEF) _ _ htrD
    have hltF := Same.seqT (mDE.trans mEF) hltD
    have hvhF := dp_same mEF _ _ hvh
    have wiF := wi9.wide s9F subL new9
    have htF := Same.seqT s9F ht9
    clear cp1D cp2D cp1E cp2E alD alE hddD hdrD htaD htrD hltD hddE hdrE mDE mEF hvh wiD ew1 ew2
    obtain ⟨as, has⟩ := wiF.Tv.refs
    have hsh := cs_shaped tw.nd wi6.cs tw.ok.ok
    have hsh' := cs_shaped tw.nd LO.cs tw.ok.ok
    have sC := (sameC_iff tw.nd wi6.cs wi6.cs).mpr rfl
    have woF := wiF.Wo
    have wo1F := cp1F.Wo
    have wo2F := cp2F.Wo
    rw [has] at woF wo1F wo2F
    obtain ⟨dwF, tF, ewF⟩ := wiF.Wo.of
    obtain ⟨dw1, t1, ew1⟩ := cp1F.Wo.of
    obtain ⟨dw2, t2, ew2⟩ := cp2F.Wo.of
    have dtw : Dp K (mask L2 HF) (.ref ta) (.tuple (.str (twinW word) :: .str e.1 :: rest.map .str)) := .tup htaF (.cons (.str _) (.cons (.str _) htrF))
    have dlk : Dp K (mask L2 HF) (.ref lt) (.tuple (.str word :: .str e.1 :: rest.map .str)) := .tup hltF (.cons (.str _) (.cons (.str _) (strs_dp rest)))
    have tt1 : SeqAt.shaped (.bool true) = true := rfl
    refine ⟨_, rfl, .ref ta, .str (twinW word), e.1, rest.map .str, rfl, dp_same (mask_sub _ _) _ _ dtw, _, rfl, t, _, 1, _, rfl, rfl, htF, atI_nat (j := 1) rfl, rfl, _, rfl, ?_⟩
    show (if (!decide (V.str e.1 = V.str e.1)) = true then _ else _)
    rw [decide_eq_true rfl]
    refine iteF ?_
    refine ⟨_, rfl, _, rfl, x1, dw1, _, x, dwF, _, rfl, rfl, ew1, ewF, L2, x1, s1, ct1, x, s, ct, W, W, as, rfl, wo1F, woF, cp1F.St, wiF.St, hsh, hsh, fun b hb => ?_⟩
    obtain rfl := hb.mpr ⟨sC, rfl, rfl, rfl⟩
    refine ⟨.bl true, .bl true, .bool true, .bool true, rfl, .bl true, .bl true, by simp [dp], by simp [dp], fun b hb => ⟨_, rfl, ?_⟩⟩
    obtain rfl := hb.mpr rfl
    refine iteF ?_
    -- a quiet look
    refine ⟨fun σ H' => σ = [some (.ref a), some (.ref p), some (.ref tl), some (.ref x), y4, some (.str mark), some (.ref t), some (.ref lt), some (.ref dd), some (.ref ta), some (.ref x1), some (.ref x2), some vh, some vt, y14, none, y16] ∧ Same HF H', ?_, ?_⟩
    · refine ⟨_, rfl, .ref lt, (word, (look qwords word).getD none), .str e.1 :: rest.map .str, rfl, dp_same (mask_sub _ _) _ _ dlk, hqw, _, rfl, ?_⟩
      show (if (!(traceB word)) = true then _ else _)
      cases hq : traceB word with
      | true => exact iteF ⟨rfl, Same.refl _⟩
      | false =>
        refine iteT ?_
        have eW := LO.quiet hq
        have ew := quiet_word hq
        refine ⟨_, rfl, _, rfl, x2, dw2, _, x, dwF, _, rfl, rfl, ew2, ewF, L2, x2, s2, ct2, x, s, ct, W', W, as, rfl, wo2F, woF, cp2F.St, wiF.St, hsh', hsh, fun b hb => ?_⟩
        obtain rfl := hb.mpr ⟨by rw [eW]; exact sC, by rw [eW], by rw [eW], by rw [eW]⟩
        have hwr := look_restW (tw.ok.ok e he) hl
        have hwn : IsWord e.1 := by have := tw.ok.ok e he; cases this <;> assumption
        have hwo : PyData.strOk word = true := (by decide +kernel : ∀ p ∈ qwords, PyData.strOk p.1 = true) _ hqw
        have shl : SeqAt.shaped (.tuple (.str word :: .str e.1 :: rest.map .str)) = true := strsT_shaped (xs := word :: e.1 :: rest) fun z m => by
          rcases List.mem_cons.mp m with q | m
          · rw [q]; exact hwo
          · rcases List.mem_cons.mp m with q | m
            · rw [q]; exact word_str hwn
            · exact word_str (hwr z m)
        rw [ew] at dtw
        refine ⟨_, rfl, _, rfl, _, _, dp_same (mask_sub _ _) _ _ dtw, dp_same (mask_sub _ _) _ _ dlk, shl, shl, by show 2 ≤ sizeLine; decide, fun q1 nq1 => ?_⟩
        have eT : PyData.eqv (.tuple (.str word :: .str e.1 :: rest.map .str)) (.tuple (.str word :: .str e.1 :: rest.map .str)) = true := by
          simp only [PyData.eqv]
          exact eqv_tstrs (word :: e.1 :: rest)
        rw [eT]
        have a1 := same_new (o := .lst [.bl true, .bl true]) nq1
        have e1 : (upd HF q1 (.lst [.bl true, .bl true])) q1 = some (.lst [.bl true, .bl true]) := upd_same
        generalize upd HF q1 (.lst [.bl true, .bl true]) = J1 at *
        refine ⟨by show 2 ≤ sizeLine; decide, fun q2 nq2 => ?_⟩
        have a2 := same_new (o := .lst [.bl true, .bl true]) nq2
        refine ⟨.ref q1, .ref q2, .list [.bool true, .bool true], .list [.bool true, .bool true], rfl, .lst (SqL.of (a2 _ _ e1)) (.cons (.bl _) (.cons (.bl _) .nil)), .lst (SqL.of upd_same) (.cons (.bl _) (.cons (.bl _) .nil)), by simp [dp], by simp [dp], fun b hb => ⟨_, rfl, ?_⟩⟩
        obtain rfl := hb.mpr rfl
        exact iteF ⟨rfl, a1.trans a2⟩
    rintro σ HG ⟨rfl, sFG⟩
    -- the pair
    have wiG := wiF.same sFG
    have cp1G := cp1F.same sFG
    have cp2G := cp2F.same sFG
    have htG := Same.seqT sFG htF
    have hltG := Same.seqT (mask_same sFG) hltF
    have s9G := s9F.trans sFG
    obtain ⟨dv, hdv, cdv'⟩ := LO.cs.ok e he
    have keys := (tw.ok.ok e he).keys
    obtain ⟨dw2, t2, ew2⟩ := cp2G.Wo.of
    refine ⟨_, rfl, _, rfl, _, rfl, _, rfl, _, rfl, t, _, 1, _, rfl, rfl, htG, atI_nat (j := 1) rfl, x2, dw2, _, rfl, ew2, x2, s2, ct2, L2, _, W', e.1, dv, rfl, cp2G.Wo, cp2G.St, hdv, fun v3 hv3 => ?_⟩
    refine ⟨.non, vt, vh, v3, lt, word, .str e.1 :: rest.map V.str, dt, dh, dv, rfl, Same.seqT (mask_sub _ _) hltG, dp_same ((mask_same sFG).trans (mask_sub _ _)) _ _ hvt, dp_same ((mask_same sFG).trans (mask_sub _ _)) _ _ hvhF, dp_same (mask_sub _ _) _ _ hv3, LO.p1, LO.p2, ct_dp keys cdv', by rw [← got_some hdv]; exact LO.pair, fun HH sGH => ⟨_, rfl, iteF ?_⟩⟩
    -- unlike
    have s9H := s9G.trans sGH
    have wiH := wiG.same sGH
    have cp2H := cp2G.same sGH
    have hltH := Same.seqT (mask_same sGH) hltG
    have alH := (alF.same sFG).same sGH
    have hddH := Same.seqT (mask_same (sFG.trans sGH)) hddF
    have hdrH := dpAll_same (mask_same (sFG.trans sGH)) _ _ hdrF
    clear wiG cp1G cp2G htG hltG wiF cp1F cp2F hltF htF hvt hvhF hv3 woF wo1F wo2F ewF ew1 ew2 dtw dlk htaF htrF hddF hdrF alF
    have l100 : W.th.length ≤ 100 := by have := tw.l8; omega
    refine ⟨_, rfl, tl, rfl, ⟨_, (mask_sub _ _).seq wiH.T⟩, fun D nD => ?_⟩
    refine lc_list (K := K) (a := tl) (xs := xs) (fun i H' => H' D = some (.lst ((unlikeOf (W.th.take i) W.cs W'.cs).map V.str)) ∧ Same HH H') ⟨upd_same, same_new nD⟩ (fun i H' _ hI => hI.2.seq ((mask_sub _ _).seq wiH.T)) (fun i yy H' hy hI => ?_) (fun HI hI => ?_)
    · obtain ⟨eD, sD⟩ := hI
      have wi' := wiH.same sD
      have cp' := cp2H.same sD
      obtain ⟨e1, ee1, u, pu, rfl, hu0, _⟩ := paired_get wi'.R hy
      have hu1 := Same.seqT (mask_sub _ _) hu0
      have he1 := List.mem_of_getElem? ee1
      obtain ⟨d1, l1, k1⟩ := wi6.cs.ok e1 he1
      obtain ⟨d3, l3, k3⟩ := LO.cs.ok e1 he1
      have kz := (tw.ok.ok e1 he1).keys
      obtain ⟨dwx, tx, ewx⟩ := wi'.Wo.of
      obtain ⟨dwy, ty, ewy⟩ := cp'.Wo.of
      refine ⟨rfl, ?_⟩
      refine ⟨_, rfl, _, rfl, u, _, 1, _, rfl, rfl, hu1, atI_nat (j := 1) rfl, x, dwx, _, rfl, ewx, x, s, ct, L2, _, W, e1.1, d1, rfl, wi'.Wo, wi'.St, l1, fun w1 hw1 => ?_⟩
      refine ⟨_, rfl, _, rfl, u, _, 1, _, rfl, rfl, hu1, atI_nat (j := 1) rfl, x2, dwy, _, rfl, ewy, x2, s2, ct2, L2, _, W', e1.1, d3, rfl, cp'.Wo, cp'.St, l3, fun w2 hw2 => ?_⟩
      refine ⟨d1, d3, dp_same (mask_sub _ _) _ _ hw1, dp_same (mask_sub _ _) _ _ hw2, ct_shaped kz k1, ct_shaped kz k3, _, rfl, ?_⟩
      have hs := unlike_snoc (cs1 := W.cs) (cs2 := W'.cs) ee1
      have nb : neB W.cs W'.cs e1.1 = !(PyData.eqv d1 d3) := by
        unfold neB
        rw [got_some l1, got_some l3]
      rw [nb] at hs
      cases hb : !(PyData.eqv d1 d3) with
      | false =>
        rw [hb, if_neg (by decide), List.append_nil] at hs
        exact iteF ⟨by rw [hs]; exact eD, sD⟩
      | true =>
        rw [hb, if_pos rfl] at hs
        have hle := unlike_len (th := W.th) (cs1 := W.cs) (cs2 := W'.cs) (i := i)
        have h8 := tw.l8
        refine iteT ⟨_, rfl, u, _, 1, _, rfl, rfl, hu1, atI_nat (j := 1) rfl, _, eD, small1000 (by rw [List.length_map]; omega), by rw [upd_same, hs, List.map_append]; rfl, same_off sD nD⟩
    obtain ⟨eD, sD⟩ := hI
    rw [lxs, List.take_length] at eD
    have wiI := wiH.same sD
    have cp2I := cp2H.same sD
    have hltI := Same.seqT (mask_same sD) hltH
    have alI := alH.same sD
    have hddI := Same.seqT (mask_same sD) hddH
    have hdrI := dpAll_same (mask_same sD) _ _ hdrH
    have s9I := s9H.trans sD
    clear wiH cp2H hltH alH hddH hdrH sD nD sGH
    have hc : ∀ e ∈ W.th, ∃ d1 d2, look W.cs e.1 = some d1 ∧ look W'.cs e.1 = some d2 ∧ SeqAt.shaped d1 = true ∧ SeqAt.shaped d2 = true := fun e he => by
      obtain ⟨d, hd, cd⟩ := wi6.cs.ok e he
      obtain ⟨d', hd', cd'⟩ := LO.cs.ok e he
      have keys := (tw.ok.ok e he).keys
      exact ⟨d, d', hd, hd', ct_shaped keys cd, ct_shaped keys cd'⟩
    have hc' : ∀ e ∈ W'.th, ∃ d1 d2, look W'.cs e.1 = some d1 ∧ look W.cs e.1 = some d2 ∧ SeqAt.shaped d1 = true ∧ SeqAt.shaped d2 = true := fun e he => by
      obtain ⟨d1, d2, h1, h2, h3, h4⟩ := hc e (by rw [← LO.th]; exact he)
      exact ⟨d2, d1, h2, h1, h4, h3⟩
    obtain ⟨dwx, tx, ewx⟩ := wiI.Wo.of
    obtain ⟨dwy, ty, ewy⟩ := cp2I.Wo.of
    refine ⟨_, rfl, _, rfl, x, dwx, _, x2, dwy, _, rfl, rfl, ewx, ewy, L2, x, s, ct, x2, s2, ct2, W, W', tv, _, rfl, wiI.Wo, wiI.St, cp2I.Wo, cp2I.St, wiI.Tv, l100, hc, fun u1 Ja sa nu1 eu1 => ?_⟩
    have wia := wiI.same sa
    have cpa := cp2I.same sa
    obtain ⟨dwx, tx, ewx⟩ := wia.Wo.of
    obtain ⟨dwy, ty, ewy⟩ := cpa.Wo.of
    refine ⟨_, rfl, _, rfl, x2, dwy, _, x, dwx, _, rfl, rfl, ewy, ewx, L2, x2, s2, ct2, x, s, ct, W', W, tv, _, rfl, cpa.Wo, cpa.St, wia.Wo, wia.St, cpa.Tv, by rw [LO.th]; exact l100, hc', fun u2 Jb sb nu2 eu2 => ?_⟩
    rw [LO.th, unlike_sym LO.cs wi6.cs] at eu2
    refine ⟨by show 2 ≤ sizeLine; decide, fun q1 nq1 => ?_⟩
    refine ⟨_, rfl, _, rfl, by show 2 ≤ sizeLine; decide, fun q2 nq2 => ?_⟩
    have sx := (same_new (o := .lst [.ref u1, .ref u2]) nq1).trans (same_new (o := .lst [.ref D, .ref D]) nq2)
    have el1 : (upd (upd Jb q1 (.lst [.ref u1, .ref u2])) q2 (.lst [.ref D, .ref D])) q1 = some (.lst [.ref u1, .ref u2]) := same_new nq2 _ _ upd_same
    have el2 : (upd (upd Jb q1 (.lst [.ref u1, .ref u2])) q2 (.lst [.ref D, .ref D])) q2 = some (.lst [.ref D, .ref D]) := upd_same
    have sIx := (sa.trans sb).trans sx
    have eu1x := sx _ _ (sb _ _ eu1)
    have eu2x := sx _ _ eu2
    have eDx := sIx _ _ eD
    generalize upd (upd Jb q1 (.lst [.ref u1, .ref u2])) q2 (.lst [.ref D, .ref D]) = HJ at *
    have da : ∀ {u : Addr}, HJ u = some (.lst ((unlikeOf W.th W.cs W'.cs).map V.str)) → Dp K HJ (.ref u) (.list ((unlikeOf W.th W.cs W'.cs).map .str)) := fun {u} e => .lst (SqL.of e) (strs_dp _)
    have h9 : (unlikeOf W.th W.cs W'.cs).length ≤ 1000000 := by
      have := unlike_len (th := W.th) (cs1 := W.cs) (cs2 := W'.cs) (i := W.th.length)
      rw [List.take_length] at this
      omega
    have dpx : dp 3 (.list [.list ((unlikeOf W.th W.cs W'.cs).map .str), .list ((unlikeOf W.th W.cs W'.cs).map .str)]) := by simp [dp, h9]
    refine ⟨.ref q1, .ref q2, .list [.list ((unlikeOf W.th W.cs W'.cs).map .str), .list ((unlikeOf W.th W.cs W'.cs).map .str)], _, rfl, .lst (SqL.of el1) (.cons (da eu1x) (.cons (da eu2x) .nil)), .lst (SqL.of el2) (.cons (da eDx) (.cons (da eDx) .nil)), dpx, dpx, fun bb hbb => ⟨_, rfl, ?_⟩⟩
    obtain rfl := hbb.mpr rfl
    refine iteF ?_
    -- again
    have wiJ := wiI.same sIx
    have cp2J := cp2I.same sIx
    have alJ := alI.same sIx
    have hltJ := Same.seqT (mask_same sIx) hltI
    have hddJ := Same.seqT (mask_same sIx) hddI
    have hdrJ := dpAll_same (mask_same sIx) _ _ hdrI
    have s9J := s9I.trans sIx
    clear wiI cp2I alI hltI hddI hdrI wia cpa sa sb sx sIx el1 el2 eu1 eu2 eu1x eu2x eDx eD ewx ewy nu1 nu2 nq1 nq2
    obtain ⟨dwy, ty, ewy⟩ := cp2J.Wo.of
    refine ⟨_, rfl, x2, dwy, _, rfl, ewy, rfl, L2, x2, s2, ct2, W', tv, rfl, cp2J.Wo, cp2J.St, alJ, cp2J.Tv, by rw [LO.th]; exact tw.nd, by rw [LO.th]; exact tw.l8, by rw [LO.th]; exact tw.ok.kd, by rw [LO.th]; exact tw.ok.ff, fun x3 s3 ct3 HK sJK nx3 ns3 nct3 hW3 hS3 => ?_⟩
    have n3 := new2 (L := L2) ns3 nct3
    have cp3K : Cp K G.C G.CS G.CW x3 s3 ct3 tv (s3 :: ct3 :: L2) HK W' := ⟨hW3, hS3, cp2J.Tv.same (mask_ext sJK n3)⟩
    have cp2K := cp2J.wide sJK sub2 n3
    have alK := alive2 (alJ.same sJK) cp3K.live.1 cp3K.live.2
    have q23 : s2 ≠ s3 ∧ s2 ≠ ct3 ∧ ct2 ≠ s3 ∧ ct2 ≠ ct3 := by
      obtain ⟨⟨_, e1⟩, _, e2⟩ := cp2J.live
      exact ⟨ne_of_none e1 ns3, ne_of_none e1 nct3, ne_of_none e2 ns3, ne_of_none e2 nct3⟩
    have s9K := s9J.trans sJK
    have hddK := Same.seqT (mask_ext sJK n3) hddJ
    have hdrK := dpAll_same (mask_ext sJK n3) _ _ hdrJ
    have hltK := Same.seqT (mask_ext sJK n3) hltJ
    have fr3 : ∀ z ∈ [s3, ct3], H9 z = none := fun z m => by
      rcases List.mem_cons.mp m with q | m
      · rw [q]; exact f9 s9J ns3
      · rw [List.mem_singleton.mp m]; exact f9 s9J nct3
    obtain ⟨L3, hL3⟩ : ∃ L3, L3 = s3 :: ct3 :: L2 := ⟨_, rfl⟩
    have m5 : s3 ∈ L3 := by rw [hL3]; simp
    have m6 : ct3 ∈ L3 := by rw [hL3]; simp
    rw [← hL3] at cp3K cp2K alK hddK hdrK hltK
    obtain ⟨dw3, t3, ew3⟩ := cp3K.Wo.of
    have hcl' : W'.cs.length ≤ 100 := by
      have := congrArg List.length LO.cs.nm
      unfold names at this
      rw [List.length_map, List.length_map] at this
      omega
    refine ⟨_, rfl, x3, dw3, _, rfl, ew3, rfl, _, rfl, cp3K.doing (E' := E0) LO.again hcl' alK hddK hdrK mrl (LO.th2.trans LO.th.symm) fun v9 HM cM cp3M alM _ => ?_⟩
    have s9M := same_chg s9K cM fr3
    have cp2M := cp2K.chg cM m5 m6 q23.1 q23.2.1 q23.2.2.1 q23.2.2.2
    have hltM := Same.seqT (chg_same cM fun z m => by
      rcases List.mem_cons.mp m with q | m
      · rw [q]; exact m5
      · rw [List.mem_singleton.mp m]; exact m6) hltK
    clear cp3K cp2K alK hddK hdrK hltK wiJ cp2J alJ hltJ hddJ hdrJ
    refine ⟨_, rfl, lt, _, 0, _, rfl, rfl, Same.seqT (mask_sub _ _) hltM, atI_nat (j := 0) rfl, by show 2 ≤ sizeLine; decide, fun t9 nt9 => ?_⟩
    have sN := same_new (o := .tup [.str "take", .str "roll"]) nt9
    have et9 : SqT K (upd HM t9 (.tup [.str "take", .str "roll"])) t9 [.str "take", .str "roll"] := SqT.of upd_same
    have s8N : Same H8 (upd HM t9 (.tup [.str "take", .str "roll"])) := s89.trans (s9M.trans sN)
    have cp2N := cp2M.same sN
    have cp3N := cp3M.same sN
    generalize upd HM t9 (.tup [.str "take", .str "roll"]) = HN at *
    refine ⟨t9, _, rfl, .inr et9, rfl, rfl, _, rfl, ?_⟩
    show (if (!inV (V.str word) [.str "take", .str "roll"]) = true then _ else _)
    rw [inW (xs := ["take", "roll"]) (vs := [.str "take", .str "roll"]) rfl]
    by_cases hw : word ∈ (["take", "roll"] : List Str)
    · rw [decide_eq_true hw]
      exact iteF ⟨_, _, _, _, _, _, _, _, _, rfl, s8N⟩
    · rw [decide_eq_false hw]
      have eW := LO.still hw
      have wo2 := cp2N.Wo
      have wo3 := cp3N.Wo
      rw [has] at wo2 wo3
      obtain ⟨dwy, ty, ewy⟩ := cp2N.Wo.of
      obtain ⟨dwz, tz, ewz⟩ := cp3N.Wo.of
      have hsh2 := cs_shaped tw.nd LO.cs2 tw.ok.ok
      refine iteT ⟨_, rfl, _, rfl, x3, dwz, _, x2, dwy, _, rfl, rfl, ewz, ewy, L3, x3, s3, ct3, x2, s2, ct2, W'', W', as, rfl, wo3, wo2, cp3N.St, cp2N.St, hsh2, hsh', fun b hb => ?_⟩
      obtain rfl := hb.mpr ⟨by rw [eW]; exact (sameC_iff tw.nd LO.cs LO.cs).mpr rfl, by rw [eW], by rw [eW], by rw [eW]⟩
      refine ⟨.bl true, .bl true, .bool true, .bool true, rfl, .bl true, .bl true, by simp [dp], by simp [dp], fun b hb => ⟨_, rfl, ?_⟩⟩
      obtain rfl := hb.mpr rfl
      exact iteF ⟨_, _, _, _, _, _, _, _, _, rfl, s8N⟩
end
/-! ### what the top has written -/
structure FunIn (K : PySem.W.Frag) (mg : Str → Option Value) (x : Str) (st : Stmt) (f : Addr) (fd : FuncData) : Prop where
  F : Fun K x x st f fd
  m : mg x = some (.ref f)
theorem fun_in {K : PySem.W.Frag} {h : Heap} {mg : Str → Option Value} {x : Str} {st : Stmt} {f : Addr} {oc : Value} {od an : Option Addr} {osl : Array (Option Value)} {kV doc pm cdv ct : Value} (X : K.In h) (G : h.Ns mainGlobals mg)
    (a : PySem.W.nsIn K mainGlobals x = some (some (.ref f))) (l : K.lookup f = some ⟨oc, od, .func (PySem.W.fnOf x x (defArgs st) (defBody st) (defScope st) .none kV doc pm an cdv ct), osl⟩)
    (c : PySem.W.codeIn K cdv x = true) (k : PySem.W.keepIn K (.ref f) = true) : ∃ f fd, FunIn K mg x st f fd :=
  ⟨f, _, fun_mk l c k, PySem.W.mg_of X G a⟩
theorem bts_in {K : PySem.W.Frag} {h : Heap} {mg : Str → Option Value} (X : K.In h) (G : h.Ns mainGlobals mg) (z1 : PySem.W.nsIn K mainGlobals "isinstance" = some none) (z2 : PySem.W.nsIn K mainGlobals "bool" = some none) (z3 : PySem.W.nsIn K mainGlobals "str" = some none)
    (z4 : PySem.W.nsIn K mainGlobals "int" = some none) (z5 : PySem.W.nsIn K mainGlobals "list" = some none) (z6 : PySem.W.nsIn K mainGlobals "tuple" = some none) (z7 : PySem.W.nsIn K mainGlobals "len" = some none) (z8 : PySem.W.nsIn K mainGlobals "range" = some none) : Bts mg :=
  ⟨PySem.W.mg_none_of X G z1, PySem.W.mg_none_of X G z2, PySem.W.mg_none_of X G z3, PySem.W.mg_none_of X G z4, PySem.W.mg_none_of X G z5, PySem.W.mg_none_of X G z6, PySem.W.mg_none_of X G z7, PySem.W.mg_none_of X G z8⟩
/-! ### what the top says of worlds -/
section
variable {K : PySem.W.Frag} {h : Heap} {mg : Str → Option Value} {w : World}
theorem kd_in {x : Str} {d : Addr} {es : Array DictEntry} {n : Nat} (X : K.In h) (G : h.Ns mainGlobals mg) (a : PySem.W.nsIn K mainGlobals x = some (some (.ref d))) (l : K.lookup d = some ⟨.type "dict", none, .dict es n, #[]⟩) (k : PySem.W.KeysLit w.params es.toList) (z : (d == sysModules) = false) :
    ∃ d es n, mg x = some (.ref d) ∧ KDict K w d es n ∧ K.lookup d = some ⟨.type "dict", none, .dict es n, #[]⟩ := ⟨d, es, n, PySem.W.mg_of X G a, ⟨l, k, z⟩, l⟩
theorem kdct_of {d : Addr} {es : Array DictEntry} {n : Nat} (D : KDict K w d es n) {x : Str} {u : Value} {v : V} (e : PySem.W.nsIn K d x = some (some u)) (r : RelV v u) : KDct K w d x v := ⟨es, n, u, D.at_, D.lit, e, r⟩
theorem sqt_of {t : Addr} {dd : Option Addr} {its : Array Value} {n : Nat} {sl : Array (Option Value)} {xs : List V} (l : K.lookup t = some ⟨.type "tuple", dd, .seq its n, sl⟩) (z : its.size ≤ sizeLine) (v : Vals xs its.toList) (H : Hp) : SqT K H t xs := .inr ⟨_, its, n, l, rfl, rfl, z, v⟩
theorem parts1 {d t : Addr} {es : Array DictEntry} {n m : Nat} {word k1 : Str} {t1 : Tok} {dd : Option Addr} {sl : Array (Option Value)} (D : KDict K w d es n) (e : PySem.W.nsIn K d word = some (some (.ref t))) (l : K.lookup t = some ⟨.type "tuple", dd, .seq #[.str k1 t1] m, sl⟩) : PartsK K w d word [k1] :=
  ⟨⟨_, e⟩, t, kdct_of D e rfl, sqt_of l (by show 1 ≤ sizeLine; decide) (.cons ⟨_, rfl⟩ .nil)⟩
theorem parts2 {d t : Addr} {es : Array DictEntry} {n m : Nat} {word k1 k2 : Str} {t1 t2 : Tok} {dd : Option Addr} {sl : Array (Option Value)} (D : KDict K w d es n) (e : PySem.W.nsIn K d word = some (some (.ref t))) (l : K.lookup t = some ⟨.type "tuple", dd, .seq #[.str k1 t1, .str k2 t2] m, sl⟩) : PartsK K w d word [k1, k2] :=
  ⟨⟨_, e⟩, t, kdct_of D e rfl, sqt_of l (by show 2 ≤ sizeLine; decide) (.cons ⟨_, rfl⟩ (.cons ⟨_, rfl⟩ .nil))⟩
def KDctF (K : PySem.W.Frag) (w : World) (d : Addr) (word : Str) (f : Addr) : Prop := KDct K w d word (.ref f)
theorem act_in {d f : Addr} {es : Array DictEntry} {n : Nat} {word x : Str} {st : Stmt} {oc : Value} {od an : Option Addr} {osl : Array (Option Value)} {kV doc pm cdv ct : Value} (D : KDict K w d es n) (e : PySem.W.nsIn K d word = some (some (.ref f)))
    (l : K.lookup f = some ⟨oc, od, .func (PySem.W.fnOf x x (defArgs st) (defBody st) (defScope st) .none kV doc pm an cdv ct), osl⟩) (c : PySem.W.codeIn K cdv x = true) (k : PySem.W.keepIn K (.ref f) = true) : ∃ f fd, KDctF K w d word f ∧ Fun K x x st f fd :=
  ⟨f, _, kdct_of D e rfl, fun_mk l c k⟩
theorem first_in {d a1 a2 a3 : Addr} {es : Array DictEntry} {n n1 n2 n3 : Nat} {d1 d2 : Option Addr} {s1 s2 s3 : Array (Option Value)} {t1 t2 t3 t4 t5 t6 : Tok} (D : KDict K w d es n)
    (e1 : PySem.W.nsIn K d "feed" = some (some (.ref a1))) (l1 : K.lookup a1 = some ⟨.type "tuple", d1, .seq #[.int 0 t1, .int 0 t2, .int 0 t3] n1, s1⟩) (e2 : PySem.W.nsIn K d "dice" = some (some (.ref a2))) (l2 : K.lookup a2 = some ⟨.type "tuple", d2, .seq #[.int 0 t4, .int 0 t5] n2, s2⟩)
    (e3 : PySem.W.nsIn K d "table" = some (some (.ref a3))) (l3 : K.lookup a3 = some ⟨.type "tuple", none, .seq #[] n3, s3⟩) (e4 : PySem.W.nsIn K d "source" = some (some (.int 0 t6))) (e5 : PySem.W.nsIn K d "field" = some (some .none)) (e6 : PySem.W.nsIn K d "flag" = some (some (.bool false))) (e7 : PySem.W.nsIn K d "slot" = some (some .none)) : FirstK K w d := by
  refine ⟨fun kind hk => ?_⟩
  simp only [kindsS, List.mem_cons, List.not_mem_nil, or_false] at hk
  rcases hk with rfl | rfl | rfl | rfl | rfl | rfl | rfl
  · exact ⟨.ref a1, kdct_of D e1 rfl, fun H => dq_of (.tup (sqt_of (xs := [.int 0, .int 0, .int 0]) l1 (by show 3 ≤ sizeLine; decide) (.cons ⟨_, rfl⟩ (.cons ⟨_, rfl⟩ (.cons ⟨_, rfl⟩ .nil))) H) (.cons (.int 0) (.cons (.int 0) (.cons (.int 0) .nil)))) rfl⟩
  · exact ⟨.ref a2, kdct_of D e2 rfl, fun H => dq_of (.tup (sqt_of (xs := [.int 0, .int 0]) l2 (by show 2 ≤ sizeLine; decide) (.cons ⟨_, rfl⟩ (.cons ⟨_, rfl⟩ .nil)) H) (.cons (.int 0) (.cons (.int 0) .nil))) rfl⟩
  · exact ⟨.ref a3, kdct_of D e3 rfl, fun H => ⟨.tup (sqt_of (xs := []) l3 (by show 0 ≤ sizeLine; decide) .nil H) .nil, fun _ => ⟨a3, rfl, .inr ⟨_, l3, rfl, rfl⟩⟩⟩⟩
  · exact ⟨.int 0, kdct_of D e4 ⟨_, rfl⟩, fun H => dq_of (.int 0) rfl⟩
  · exact ⟨.non, kdct_of D e5 rfl, fun H => dq_of (.non) rfl⟩
  · exact ⟨.bl false, kdct_of D e6 rfl, fun H => dq_of (.bl false) rfl⟩
  · exact ⟨.non, kdct_of D e7 rfl, fun H => dq_of (.non) rfl⟩
/-- a method of a class -/
def MtAll (K : PySem.W.Frag) (C : Addr) (m qual : Str) (st : Stmt) : Prop := ∃ g fd, Meth K C m g ∧ PySem.W.fnIn K g = true ∧ Fun K m qual st g fd
theorem mt_in {C g : Addr} {m qual : Str} {st : Stmt} {oc : Value} {od an : Option Addr} {osl : Array (Option Value)} {kV doc pm cdv ct : Value}
    (at_ : PySem.W.findIn K (.ref C) m = some (some (.ref g))) (fn : PySem.W.isFn K (.ref g) = true) (kp : PySem.W.keepIn K (.ref g) = true)
    (l : K.lookup g = some ⟨oc, od, .func (PySem.W.fnOf m qual (defArgs st) (defBody st) (defScope st) .none kV doc pm an cdv ct), osl⟩) (c : PySem.W.codeIn K cdv qual = true) : MtAll K C m qual st :=
  ⟨g, _, ⟨at_, fn, kp⟩, by unfold PySem.W.fnIn; rw [l], fun_mk l c kp⟩
theorem state_in {C : Addr} (X : K.In h) (G : h.Ns mainGlobals mg) (a : PySem.W.nsIn K mainGlobals "State" = some (some (.ref C))) (pg : PySem.W.plainGet K C Str.empty = true) (hd : PySem.W.hasDictIn K C = true) (po : PySem.W.plainOver K C = true) (sa : PySem.W.findIn K (.ref C) "__setattr__" = some (some (.builtin "object.__setattr__")))
    (n1 : PySem.W.findIn K (.ref C) "by_name" = some none) (n2 : PySem.W.findIn K (.ref C) "contents" = some none) (n3 : PySem.W.findIn K (.ref C) "fetchings" = some none) (n4 : PySem.W.findIn K (.ref C) "seedings" = some none) (n5 : PySem.W.findIn K (.ref C) "serials" = some none)
    (mk : PySem.W.makesIn K C = true) (kp : PySem.W.keepIn K (.ref C) = true) (ini : MtAll K C "__init__" "State.__init__" (st 0)) (m3 : MtAll K C "new_serial" "State.new_serial" (st 3)) (m4 : MtAll K C "take_until" "State.take_until" (st 4)) : ∃ C fI fd, StIn K mg C ∧ Mk K C fI ∧ Fun K "__init__" "State.__init__" (st 0) fI fd ∧ MtAll K C "new_serial" "State.new_serial" (st 3) ∧ MtAll K C "take_until" "State.take_until" (st 4) := by
  obtain ⟨g, fd, m, _, F⟩ := ini
  exact ⟨C, g, fd, ⟨PySem.W.mg_of X G a, ⟨pg, hd, po, sa⟩, n1, n2, n3, n4, n5⟩, ⟨mk, m.at_, m.fn, kp⟩, F, m3, m4⟩
theorem world_in {C : Addr} (X : K.In h) (G : h.Ns mainGlobals mg) (a : PySem.W.nsIn K mainGlobals "World" = some (some (.ref C))) (pg : PySem.W.plainGet K C Str.empty = true) (hd : PySem.W.hasDictIn K C = true) (po : PySem.W.plainOver K C = true) (sa : PySem.W.findIn K (.ref C) "__setattr__" = some (some (.builtin "object.__setattr__")))
    (n1 : PySem.W.findIn K (.ref C) "things" = some none) (n2 : PySem.W.findIn K (.ref C) "_state" = some none) (n3 : PySem.W.findIn K (.ref C) "_log" = some none)
    (mk : PySem.W.makesIn K C = true) (kp : PySem.W.keepIn K (.ref C) = true) (ini : MtAll K C "__init__" "World.__init__" (wo 0)) (m1 : MtAll K C "do" "World.do" (wo 1)) (m4 : MtAll K C "__getitem__" "World.__getitem__" (wo 4)) (m6 : MtAll K C "__contains__" "World.__contains__" (wo 6)) :
    ∃ C fI fd, WoIn K mg C ∧ Mk K C fI ∧ Fun K "__init__" "World.__init__" (wo 0) fI fd ∧ MtAll K C "do" "World.do" (wo 1) ∧ MtAll K C "__getitem__" "World.__getitem__" (wo 4) ∧ MtAll K C "__contains__" "World.__contains__" (wo 6) := by
  obtain ⟨g, fd, m, _, F⟩ := ini
  exact ⟨C, g, fd, ⟨PySem.W.mg_of X G a, ⟨pg, hd, po, sa⟩, n1, n2, n3⟩, ⟨mk, m.at_, m.fn, kp⟩, F, m1, m4, m6⟩
theorem kinds_in {C kt : Addr} {dd : Option Addr} {n : Nat} {sl : Array (Option Value)} {t1 t2 t3 t4 t5 t6 t7 : Tok} (kd : PySem.W.findCls K (.ref C) (.type "type") "KINDS" = some (.val (.ref kt)))
    (l : K.lookup kt = some ⟨.type "tuple", dd, .seq #[.str "feed" t1, .str "dice" t2, .str "table" t3, .str "source" t4, .str "field" t5, .str "flag" t6, .str "slot" t7] n, sl⟩) : KindsK K C :=
  ⟨kt, ⟨kd, rfl⟩, sqt_of l (by show 7 ≤ sizeLine; decide) (.cons ⟨_, rfl⟩ (.cons ⟨_, rfl⟩ (.cons ⟨_, rfl⟩ (.cons ⟨_, rfl⟩ (.cons ⟨_, rfl⟩ (.cons ⟨_, rfl⟩ (.cons ⟨_, rfl⟩ .nil)))))))⟩
end
/-- all that the top says -/
structure WTop (K : PySem.W.Frag) (w : World) (mg : Str → Option Value) where
  B : Bts mg
  mE : mg "enumerate" = none
  mA : mg "all" = none
  mZ : mg "zip" = none
  tL : Tok
  mL : mg "LONGEST_NAME" = some (.int 8 tL)
  tK : Tok
  mK : mg "MOST_KEYS" = some (.int 4 tK)
  tR : Tok
  mR : mg "LONGEST_ROW" = some (.int longest tR)
  tT : Tok
  mT : mg "MOST_THINGS" = some (.int 8 tT)
  (C CS CW dP dA dF : Addr)
  (eP eA eF : Array DictEntry)
  (nP nA nF : Nat)
  T : ThAll K mg C
  KK : KindsK K C
  S : StIn K mg CS
  fS : Addr
  xS : FuncData
  MS : Mk K CS fS
  FS : Fun K "__init__" "State.__init__" (st 0) fS xS
  W : WoIn K mg CW
  fW : Addr
  xW : FuncData
  MW : Mk K CW fW
  FW : Fun K "__init__" "World.__init__" (wo 0) fW xW
  mDo : MtAll K CW "do" "World.do" (wo 1)
  mIt : MtAll K CW "__getitem__" "World.__getitem__" (wo 4)
  mCo : MtAll K CW "__contains__" "World.__contains__" (wo 6)
  mP : mg "PARTS" = some (.ref dP)
  DP : KDict K w dP eP nP
  mAc : mg "ACTIONS" = some (.ref dA)
  DA : KDict K w dA eA nA
  mF : mg "AT_FIRST" = some (.ref dF)
  FK : FirstK K w dF
theorem wdefs_of {P : Program} {w : World} {K : PySem.W.Frag} {mg : Str → Option Value} (base : Heap) (R : WTop K w mg) {f1 f2 f3 f4 f5 f6 f7 f8 f9 f10 f11 f12 f13 f14 : Addr} {x1 x2 x3 x4 x5 x6 x7 x8 x9 x10 x11 x12 x13 x14 : FuncData}
    (F1 : FunIn K mg "_law_pool" sPool f1 x1) (F2 : FunIn K mg "_law_draw" sDraw f2 x2) (F3 : FunIn K mg "_law_names" sLNames f3 x3) (F4 : FunIn K mg "_law_same" sSame f4 x4) (F5 : FunIn K mg "is_int" sIsInt f5 x5) (F6 : FunIn K mg "is_name" sIsName f6 x6) (F7 : FunIn K mg "check_names" sNames f7 x7) (F8 : FunIn K mg "check_unlike" sUnlike f8 x8)
    (F9 : FunIn K mg "is_deed" sIsDeed f9 x9) (F10 : FunIn K mg "_is_part" sIsPart f10 x10) (F11 : FunIn K mg "is_length" sIsLength f11 x11) (F12 : FunIn K mg "check_deed" sCheckDeed f12 x12) (F13 : FunIn K mg "done" sDone f13 x13) (F14 : FunIn K mg "_check_fields" sFields f14 x14) : ∃ G : WDefs P w K mg base, G.C = R.C ∧ G.CS = R.CS ∧ G.CW = R.CW ∧ G.dP = R.dP ∧ G.dA = R.dA := by
  have bP := F1.F.binds (ps := ["script"]) fun _ _ _ _ _ _ us hl => match us, hl with | [_], _ => rfl
  have bD := F2.F.binds (ps := ["pool", "many"]) fun _ _ _ _ _ _ us hl => match us, hl with | [_, _], _ => rfl
  have bL := F3.F.binds (ps := ["pool", "many"]) fun _ _ _ _ _ _ us hl => match us, hl with | [_, _], _ => rfl
  have bS := F4.F.binds (ps := ["actual", "due"]) fun _ _ _ _ _ _ us hl => match us, hl with | [_, _], _ => rfl
  have bI := F5.F.binds (ps := ["thing"]) fun _ _ _ _ _ _ us hl => match us, hl with | [_], _ => rfl
  have bN := F6.F.binds (ps := ["thing"]) fun _ _ _ _ _ _ us hl => match us, hl with | [_], _ => rfl
  have bCN := F7.F.binds (ps := ["things"]) fun _ _ _ _ _ _ us hl => match us, hl with | [_], _ => rfl
  have bU := F8.F.binds (ps := ["names"]) fun _ _ _ _ _ _ us hl => match us, hl with | [_], _ => rfl
  have bDe := F9.F.binds (ps := ["deed"]) fun _ _ _ _ _ _ us hl => match us, hl with | [_], _ => rfl
  have bIP := F10.F.binds (ps := ["part", "given"]) fun _ _ _ _ _ _ us hl => match us, hl with | [_, _], _ => rfl
  have bIL := F11.F.binds (ps := ["given"]) fun _ _ _ _ _ _ us hl => match us, hl with | [_], _ => rfl
  have bCD := F12.F.binds (ps := ["by_name", "deed"]) fun _ _ _ _ _ _ us hl => match us, hl with | [_, _], _ => rfl
  have bDn := F13.F.binds (ps := ["state", "deed"]) fun _ _ _ _ _ _ us hl => match us, hl with | [_, _], _ => rfl
  have bF := F14.F.binds (ps := ["things"]) fun _ _ _ _ _ _ us hl => match us, hl with | [_], _ => rfl
  have bSI := R.FS.binds (ps := ["self", "things"]) fun _ _ _ _ _ _ us hl => match us, hl with | [_, _], _ => rfl
  obtain ⟨fDo, xDo, mDo, _, FDo⟩ := R.mDo
  obtain ⟨fIt, xIt, mIt, iIt, FIt⟩ := R.mIt
  obtain ⟨fCo, xCo, mCo, _, FCo⟩ := R.mCo
  have bDo := FDo.binds (ps := ["self", "deed"]) fun _ _ _ _ _ _ us hl => match us, hl with | [_, _], _ => rfl
  have bIt := FIt.binds (ps := ["self", "name"]) fun _ _ _ _ _ _ us hl => match us, hl with | [_, _], _ => rfl
  have bCo := FCo.binds (ps := ["self", "name"]) fun _ _ _ _ _ _ us hl => match us, hl with | [_, _], _ => rfl
  have gD := ok_draw (P := P) (w := w) (base := base) (k := 0) F2.F R.B.int
  have gII := ok_isint (P := P) (w := w) (base := base) (k := 0) F5.F R.B
  have gIN := ok_isname (P := P) (w := w) (base := base) (k := 0) F6.F R.B R.mL
  have gIL := ok_islength F11.F gII F5.m F5.F.kp bI R.mR
  have gIP := ok_ispart F10.F R.B R.mA gIL F11.m F11.F.kp bIL gIN F6.m F6.F.kp bN
  have gDe := (ok_isdeed F9.F R.B R.mA R.mZ R.DP R.mP gIP F10.m F10.F.kp bIP).mono (show 4 ≤ 11 by decide)
  have gCN := ok_names0 F7.F gIN F6.m F6.F.kp bN
  have gU0 := ok_unlike0 (P := P) (w := w) (base := base) (k := 1) F8.F R.mE
  have gUL := ok_unlikeL (P := P) (w := w) (base := base) (k := 2) F8.F R.mE
  have gFi := ok_fields (P := P) (w := w) (base := base) (k := 2) F14.F R.mE R.T.T
  have gCD := (ok_check (P := P) (w := w) (base := base) F12.F R.mZ R.mP R.T.T R.KK).mono (show 1 ≤ 11 by decide)
  have gDn := ok_done (P := P) (w := w) (base := base) F13.F R.mAc
  have gSI := ok_sinit (P := P) (w := w) (base := base) (k := 1) R.FS R.T.T R.S R.mF R.FK
  have gW := ok_winit R.FW R.T.T R.S R.W R.MS gSI bSI gUL F8.m F8.F.kp bU gFi F14.m F14.F.kp bF R.B.len R.mT
  have gDo := ok_do FDo R.S R.W gDe F9.m F9.F.kp bDe gCD F12.m F12.F.kp bCD gDn F13.m F13.F.kp bDn
  have gCo := fnR0 (ok_cont (P := P) (w := w) (base := base) (k := 3) FCo (C := R.C) R.S R.W R.B) bCo
  have gIt := fnR0 (ok_item FIt R.S R.W mCo.at_ mCo.fn gCo) bIt
  have D := t_defs R.T gCN F7.m F7.F.kp bCN gU0 F8.m F8.F.kp bU R.B.len R.mK
  exact ⟨{ C := R.C, CS := R.CS, CW := R.CW, dP := R.dP, dA := R.dA, T := R.T.T, S := R.S, W := R.W, B := R.B, fP := f1, fD := f2, fL := f3, fS := f4, xP := x1, xD := x2, xL := x3, xS := x4, gP := ok_pool F1.F R.B.list, gD := gD, gL := ok_lnames F3.F gD F2.m F2.F.kp bD R.B.range, gS := ok_same F4.F R.B F4.m bS 3, bP := bP, bD := bD, bL := bL, bS := bS, mP := F1.m, mD := F2.m, mL := F3.m, mS := F4.m, kP := F1.F.kp, kD := F2.F.kp, kL := F3.F.kp, kS := F4.F.kp, td := D, fW := R.fW, MW := R.MW, gW := gW, fDo := fDo, xDo := xDo, mDo := mDo, gDo := gDo, bDo := bDo, fIt := fIt, aIt := mIt.at_, nIt := iIt, hIt := mIt.fn, gIt := gIt }, rfl, rfl, rfl, rfl, rfl⟩
def KdTop (K : PySem.W.Frag) (w : World) (mg : Str → Option Value) (x : Str) (R : PySem.W.Frag → World → Addr → Prop) : Prop := ∃ d es n, mg x = some (.ref d) ∧ KDict K w d es n ∧ R K w d
theorem kd_with {K : PySem.W.Frag} {h : Heap} {mg : Str → Option Value} {w : World} {x : Str} {d : Addr} {es : Array DictEntry} {n : Nat} {R : PySem.W.Frag → World → Addr → Prop} (X : K.In h) (G : h.Ns mainGlobals mg) (a : PySem.W.nsIn K mainGlobals x = some (some (.ref d))) (l : K.lookup d = some ⟨.type "dict", none, .dict es n, #[]⟩) (k : PySem.W.KeysLit w.params es.toList) (z : (d == sysModules) = false)
    (more : KDict K w d es n → R K w d) : KdTop K w mg x R := ⟨d, es, n, PySem.W.mg_of X G a, ⟨l, k, z⟩, more ⟨l, k, z⟩⟩
theorem kinds_top {K : PySem.W.Frag} {h : Heap} {mg : Str → Option Value} {C : Addr} (X : K.In h) (G : h.Ns mainGlobals mg) (a : PySem.W.nsIn K mainGlobals "Thing" = some (some (.ref C))) (k : KindsK K C) : ∃ C, mg "Thing" = some (.ref C) ∧ KindsK K C := ⟨C, PySem.W.mg_of X G a, k⟩
theorem actK_of {P : Program} {w : World} {K : PySem.W.Frag} {mg : Str → Option Value} {base : Heap} {C CS dP dA f : Addr} {fd : FuncData} {word : Str} {kinds ps : List Str} {R : Ws → List PyData → Ws → PyData → Prop} {k : Nat} (p : PartsK K w dP word kinds) (e : KDct K w dA word (.ref f)) (F : FnOk P w K mg base CX0 k f fd ps (spAct K C CS R)) (hk : k ≤ 10) (b : Binds K fd ps []) (kp : PySem.W.keepIn K (.ref f) = true) : ActK P w K mg base C CS dP dA word kinds R :=
  ⟨p, f, e, (fnR0 F b).mono hk, kp⟩
abbrev MoreS (K : PySem.W.Frag) (C : Addr) : Prop := MtAll K C "duplicate" "State.duplicate" (st 2) ∧ MtAll K C "__eq__" "State.__eq__" (st 1)
abbrev MoreW (K : PySem.W.Frag) (C : Addr) : Prop := MtAll K C "duplicate" "World.duplicate" (wo 2) ∧ MtAll K C "__xor__" "World.__xor__" (wo 7) ∧ MtAll K C "__eq__" "World.__eq__" (wo 8) ∧ PySem.W.selfFirst K C = true
/-! ### more methods -/
section
variable {K : PySem.W.Frag} {h : Heap} {mg : Str → Option Value}
theorem state_in2 {C : Addr} (X : K.In h) (G : h.Ns mainGlobals mg) (a : PySem.W.nsIn K mainGlobals "State" = some (some (.ref C))) (pg : PySem.W.plainGet K C Str.empty = true) (hd : PySem.W.hasDictIn K C = true) (po : PySem.W.plainOver K C = true) (sa : PySem.W.findIn K (.ref C) "__setattr__" = some (some (.builtin "object.__setattr__")))
    (n1 : PySem.W.findIn K (.ref C) "by_name" = some none) (n2 : PySem.W.findIn K (.ref C) "contents" = some none) (n3 : PySem.W.findIn K (.ref C) "fetchings" = some none) (n4 : PySem.W.findIn K (.ref C) "seedings" = some none) (n5 : PySem.W.findIn K (.ref C) "serials" = some none)
    (mk : PySem.W.makesIn K C = true) (kp : PySem.W.keepIn K (.ref C) = true) (ini : MtAll K C "__init__" "State.__init__" (st 0)) (m3 : MtAll K C "new_serial" "State.new_serial" (st 3)) (m4 : MtAll K C "take_until" "State.take_until" (st 4)) (more : MoreS K C) : ∃ C fI fd, StIn K mg C ∧ Mk K C fI ∧ Fun K "__init__" "State.__init__" (st 0) fI fd ∧ MtAll K C "new_serial" "State.new_serial" (st 3) ∧ MtAll K C "take_until" "State.take_until" (st 4) ∧ MoreS K C := by
  obtain ⟨g, fd, m, _, F⟩ := ini
  exact ⟨C, g, fd, ⟨PySem.W.mg_of X G a, ⟨pg, hd, po, sa⟩, n1, n2, n3, n4, n5⟩, ⟨mk, m.at_, m.fn, kp⟩, F, m3, m4, more⟩
theorem world_in2 {C : Addr} (X : K.In h) (G : h.Ns mainGlobals mg) (a : PySem.W.nsIn K mainGlobals "World" = some (some (.ref C))) (pg : PySem.W.plainGet K C Str.empty = true) (hd : PySem.W.hasDictIn K C = true) (po : PySem.W.plainOver K C = true) (sa : PySem.W.findIn K (.ref C) "__setattr__" = some (some (.builtin "object.__setattr__")))
    (n1 : PySem.W.findIn K (.ref C) "things" = some none) (n2 : PySem.W.findIn K (.ref C) "_state" = some none) (n3 : PySem.W.findIn K (.ref C) "_log" = some none)
    (mk : PySem.W.makesIn K C = true) (kp : PySem.W.keepIn K (.ref C) = true) (ini : MtAll K C "__init__" "World.__init__" (wo 0)) (m1 : MtAll K C "do" "World.do" (wo 1)) (m4 : MtAll K C "__getitem__" "World.__getitem__" (wo 4)) (m6 : MtAll K C "__contains__" "World.__contains__" (wo 6)) (more : MoreW K C) :
    ∃ C fI fd, WoIn K mg C ∧ Mk K C fI ∧ Fun K "__init__" "World.__init__" (wo 0) fI fd ∧ MtAll K C "do" "World.do" (wo 1) ∧ MtAll K C "__getitem__" "World.__getitem__" (wo 4) ∧ MtAll K C "__contains__" "World.__contains__" (wo 6) ∧ MoreW K C := by
  obtain ⟨g, fd, m, _, F⟩ := ini
  exact ⟨C, g, fd, ⟨PySem.W.mg_of X G a, ⟨pg, hd, po, sa⟩, n1, n2, n3⟩, ⟨mk, m.at_, m.fn, kp⟩, F, m1, m4, m6, more⟩
end
/-! ### all actions of the top -/
structure PartsIn (K : PySem.W.Frag) (w : World) (d : Addr) : Prop where
  p_take : PartsK K w d "take" ["feed"]
  p_skip : PartsK K w d "skip" ["feed"]
  p_drain : PartsK K w d "drain" ["feed"]
  p_fetch : PartsK K w d "fetch" ["feed", "length"]
  p_bind : PartsK K w d "bind" ["feed", "feed"]
  p_roll : PartsK K w d "roll" ["dice"]
  p_seed : PartsK K w d "seed" ["dice"]
  p_get : PartsK K w d "get" ["table", "key"]
  p_peek : PartsK K w d "peek" ["table", "key"]
  p_has : PartsK K w d "has" ["table", "key"]
  p_put : PartsK K w d "put" ["table", "key"]
  p_fill : PartsK K w d "fill" ["table", "key"]
  p_drop : PartsK K w d "drop" ["table", "key"]
  p_size : PartsK K w d "size" ["table"]
  p_keys : PartsK K w d "keys" ["table"]
  p_load : PartsK K w d "load" ["table", "keys"]
  p_wipe : PartsK K w d "wipe" ["table"]
  p_change : PartsK K w d "change" ["source"]
  p_look : PartsK K w d "look" ["field"]
  p_glance : PartsK K w d "glance" ["field"]
  p_renew : PartsK K w d "renew" ["field"]
  p_lift : PartsK K w d "lift" ["flag"]
  p_read : PartsK K w d "read" ["flag"]
  p_watch : PartsK K w d "watch" ["flag"]
  p_keep : PartsK K w d "keep" ["slot"]
  p_copy : PartsK K w d "copy" ["slot", "slot"]
  p_tell : PartsK K w d "tell" ["slot"]
  p_bound : PartsK K w d "bound" ["slot"]
  p_mark : PartsK K w d "mark" ["slot", "mark"]
  p_spy : PartsK K w d "spy" ["thing"]
structure ActsF (K : PySem.W.Frag) (w : World) (d : Addr) : Prop where
  f_take : ∃ f fd, KDctF K w d "take" f ∧ Fun K "_take" "_take" sTake f fd
  f_skip : ∃ f fd, KDctF K w d "skip" f ∧ Fun K "_skip" "_skip" sSkip f fd
  f_drain : ∃ f fd, KDctF K w d "drain" f ∧ Fun K "_drain" "_drain" sDrain f fd
  f_fetch : ∃ f fd, KDctF K w d "fetch" f ∧ Fun K "_fetch" "_fetch" sFetch f fd
  f_bind : ∃ f fd, KDctF K w d "bind" f ∧ Fun K "_bind" "_bind" sBind f fd
  f_roll : ∃ f fd, KDctF K w d "roll" f ∧ Fun K "_roll" "_roll" sRoll f fd
  f_seed : ∃ f fd, KDctF K w d "seed" f ∧ Fun K "_seed" "_seed" sSeed f fd
  f_get : ∃ f fd, KDctF K w d "get" f ∧ Fun K "_get" "_get" sGet f fd
  f_peek : ∃ f fd, KDctF K w d "peek" f ∧ Fun K "_peek" "_peek" sPeek f fd
  f_has : ∃ f fd, KDctF K w d "has" f ∧ Fun K "_has" "_has" sHas f fd
  f_put : ∃ f fd, KDctF K w d "put" f ∧ Fun K "_put" "_put" sPut f fd
  f_fill : ∃ f fd, KDctF K w d "fill" f ∧ Fun K "_fill" "_fill" sFill f fd
  f_drop : ∃ f fd, KDctF K w d "drop" f ∧ Fun K "_drop" "_drop" sDrop f fd
  f_size : ∃ f fd, KDctF K w d "size" f ∧ Fun K "_size" "_size" sSize f fd
  f_keys : ∃ f fd, KDctF K w d "keys" f ∧ Fun K "_keys" "_keys" sKeys f fd
  f_load : ∃ f fd, KDctF K w d "load" f ∧ Fun K "_load" "_load" sLoad f fd
  f_wipe : ∃ f fd, KDctF K w d "wipe" f ∧ Fun K "_wipe" "_wipe" sWipe f fd
  f_change : ∃ f fd, KDctF K w d "change" f ∧ Fun K "_change" "_change" sChange f fd
  f_look : ∃ f fd, KDctF K w d "look" f ∧ Fun K "_look" "_look" sLook f fd
  f_glance : ∃ f fd, KDctF K w d "glance" f ∧ Fun K "_value" "_value" sValue f fd
  f_renew : ∃ f fd, KDctF K w d "renew" f ∧ Fun K "_renew" "_renew" sRenew f fd
  f_lift : ∃ f fd, KDctF K w d "lift" f ∧ Fun K "_lift" "_lift" sLift f fd
  f_read : ∃ f fd, KDctF K w d "read" f ∧ Fun K "_read" "_read" sRead f fd
  f_watch : ∃ f fd, KDctF K w d "watch" f ∧ Fun K "_value" "_value" sValue f fd
  f_keep : ∃ f fd, KDctF K w d "keep" f ∧ Fun K "_keep" "_keep" sKeep f fd
  f_copy : ∃ f fd, KDctF K w d "copy" f ∧ Fun K "_copy" "_copy" sCopy f fd
  f_tell : ∃ f fd, KDctF K w d "tell" f ∧ Fun K "_value" "_value" sValue f fd
  f_bound : ∃ f fd, KDctF K w d "bound" f ∧ Fun K "_bound" "_bound" sBound f fd
  f_mark : ∃ f fd, KDctF K w d "mark" f ∧ Fun K "_mark" "_mark" sMark f fd
  f_spy : ∃ f fd, KDctF K w d "spy" f ∧ Fun K "_spy" "_spy" sSpy f fd
theorem acts_of {P : Program} {w : World} {K : PySem.W.Frag} {mg : Str → Option Value} (base : Heap) (R : WTop K w mg) (mNS : MtAll K R.CS "new_serial" "State.new_serial" (st 3)) (mTU : MtAll K R.CS "take_until" "State.take_until" (st 4)) (mDi : mg "dict" = none) {ft fl : Addr} {xt xl : FuncData} (FT : FunIn K mg "_take" sTake ft xt) (FL : FunIn K mg "_look" sLook fl xl) (PI : PartsIn K w R.dP) (AI : ActsF K w R.dA) : Acts P w K mg base R.C R.CS R.dP R.dA := by
  have S := R.S
  have B := R.B
  obtain ⟨fNs, xNs, mNs, _, FNs⟩ := mNS
  obtain ⟨fTu, xTu, mTu, _, FTu⟩ := mTU
  have bNs := FNs.binds (ps := ["self"]) fun _ _ _ _ _ _ us hl => match us, hl with | [_], _ => rfl
  have bTu := FTu.binds (ps := ["self", "name", "taken"]) fun _ _ _ _ _ _ us hl => match us, hl with | [_, _, _], _ => rfl
  have bTk := FT.F.binds (ps := ["state", "feed"]) fun _ _ _ _ _ _ us hl => match us, hl with | [_, _], _ => rfl
  have bLk := FL.F.binds (ps := ["state", "field"]) fun _ _ _ _ _ _ us hl => match us, hl with | [_, _], _ => rfl
  have gNs := ok_serial (P := P) (w := w) (mg := mg) (base := base) (C := R.C) FNs S
  refine ⟨?_, ?_, ?_, ?_, ?_, ?_, ?_, ?_, ?_, ?_, ?_, ?_, ?_, ?_, ?_, ?_, ?_, ?_, ?_, ?_, ?_, ?_, ?_, ?_, ?_, ?_, ?_, ?_, ?_, ?_⟩
  · obtain ⟨g, y, e, F⟩ := AI.f_take
    have b := F.binds (ps := ["state", "feed"]) fun _ _ _ _ _ _ us hl => match us, hl with | [_, _], _ => rfl
    exact actK_of PI.p_take e (ok_take F S mTu (ok_until FTu R.T.T S) bTu) (by decide) b F.kp
  · obtain ⟨g, y, e, F⟩ := AI.f_skip
    have b := F.binds (ps := ["state", "feed"]) fun _ _ _ _ _ _ us hl => match us, hl with | [_, _], _ => rfl
    exact actK_of PI.p_skip e (ok_skip F (ok_take FT.F S mTu (ok_until FTu R.T.T S) bTu) FT.m FT.F.kp bTk) (by decide) b F.kp
  · obtain ⟨g, y, e, F⟩ := AI.f_drain
    have b := F.binds (ps := ["state", "feed"]) fun _ _ _ _ _ _ us hl => match us, hl with | [_, _], _ => rfl
    exact actK_of PI.p_drain e (ok_drain F S mTu (ok_until FTu R.T.T S) bTu) (by decide) b F.kp
  · obtain ⟨g, y, e, F⟩ := AI.f_fetch
    have b := F.binds (ps := ["state", "feed", "length"]) fun _ _ _ _ _ _ us hl => match us, hl with | [_, _, _], _ => rfl
    exact actK_of PI.p_fetch e (ok_fetch F S) (by decide) b F.kp
  · obtain ⟨g, y, e, F⟩ := AI.f_bind
    have b := F.binds (ps := ["state", "feed", "other"]) fun _ _ _ _ _ _ us hl => match us, hl with | [_, _, _], _ => rfl
    exact actK_of PI.p_bind e (ok_bind F S) (by decide) b F.kp
  · obtain ⟨g, y, e, F⟩ := AI.f_roll
    have b := F.binds (ps := ["state", "dice"]) fun _ _ _ _ _ _ us hl => match us, hl with | [_, _], _ => rfl
    exact actK_of PI.p_roll e (ok_roll F S) (by decide) b F.kp
  · obtain ⟨g, y, e, F⟩ := AI.f_seed
    have b := F.binds (ps := ["state", "dice"]) fun _ _ _ _ _ _ us hl => match us, hl with | [_, _], _ => rfl
    exact actK_of PI.p_seed e (ok_seed F S) (by decide) b F.kp
  · obtain ⟨g, y, e, F⟩ := AI.f_get
    have b := F.binds (ps := ["state", "table", "key"]) fun _ _ _ _ _ _ us hl => match us, hl with | [_, _, _], _ => rfl
    exact actK_of PI.p_get e (ok_get F B mDi S) (by decide) b F.kp
  · obtain ⟨g, y, e, F⟩ := AI.f_peek
    have b := F.binds (ps := ["state", "table", "key"]) fun _ _ _ _ _ _ us hl => match us, hl with | [_, _, _], _ => rfl
    exact actK_of PI.p_peek e (ok_peek F mDi S) (by decide) b F.kp
  · obtain ⟨g, y, e, F⟩ := AI.f_has
    have b := F.binds (ps := ["state", "table", "key"]) fun _ _ _ _ _ _ us hl => match us, hl with | [_, _, _], _ => rfl
    exact actK_of PI.p_has e (ok_has F mDi S) (by decide) b F.kp
  · obtain ⟨g, y, e, F⟩ := AI.f_put
    have b := F.binds (ps := ["state", "table", "key"]) fun _ _ _ _ _ _ us hl => match us, hl with | [_, _, _], _ => rfl
    exact actK_of PI.p_put e (ok_put F B mDi S mNs gNs bNs) (by decide) b F.kp
  · obtain ⟨g, y, e, F⟩ := AI.f_fill
    have b := F.binds (ps := ["state", "table", "key"]) fun _ _ _ _ _ _ us hl => match us, hl with | [_, _, _], _ => rfl
    exact actK_of PI.p_fill e (ok_fill F B mDi S mNs gNs bNs) (by decide) b F.kp
  · obtain ⟨g, y, e, F⟩ := AI.f_drop
    have b := F.binds (ps := ["state", "table", "key"]) fun _ _ _ _ _ _ us hl => match us, hl with | [_, _, _], _ => rfl
    exact actK_of PI.p_drop e (ok_drop F B mDi S) (by decide) b F.kp
  · obtain ⟨g, y, e, F⟩ := AI.f_size
    have b := F.binds (ps := ["state", "table"]) fun _ _ _ _ _ _ us hl => match us, hl with | [_, _], _ => rfl
    exact actK_of PI.p_size e (ok_size F B S) (by decide) b F.kp
  · obtain ⟨g, y, e, F⟩ := AI.f_keys
    have b := F.binds (ps := ["state", "table"]) fun _ _ _ _ _ _ us hl => match us, hl with | [_, _], _ => rfl
    exact actK_of PI.p_keys e (ok_keys F B S) (by decide) b F.kp
  · obtain ⟨g, y, e, F⟩ := AI.f_load
    have b := F.binds (ps := ["state", "table", "keys"]) fun _ _ _ _ _ _ us hl => match us, hl with | [_, _, _], _ => rfl
    exact actK_of PI.p_load e (ok_load F B R.T.T S mNs gNs bNs) (by decide) b F.kp
  · obtain ⟨g, y, e, F⟩ := AI.f_wipe
    have b := F.binds (ps := ["state", "table"]) fun _ _ _ _ _ _ us hl => match us, hl with | [_, _], _ => rfl
    exact actK_of PI.p_wipe e (ok_wipe F S) (by decide) b F.kp
  · obtain ⟨g, y, e, F⟩ := AI.f_change
    have b := F.binds (ps := ["state", "source"]) fun _ _ _ _ _ _ us hl => match us, hl with | [_, _], _ => rfl
    exact actK_of PI.p_change e (ok_change F S mNs gNs bNs) (by decide) b F.kp
  · obtain ⟨g, y, e, F⟩ := AI.f_look
    have b := F.binds (ps := ["state", "field"]) fun _ _ _ _ _ _ us hl => match us, hl with | [_, _], _ => rfl
    exact actK_of PI.p_look e (ok_look2 F FL.F R.T.T S FL.m FL.F.kp bLk 7) (by decide) b F.kp
  · obtain ⟨g, y, e, F⟩ := AI.f_glance
    have b := F.binds (ps := ["state", "name"]) fun _ _ _ _ _ _ us hl => match us, hl with | [_, _], _ => rfl
    exact actK_of PI.p_glance e (ok_value F S) (by decide) b F.kp
  · obtain ⟨g, y, e, F⟩ := AI.f_renew
    have b := F.binds (ps := ["state", "field"]) fun _ _ _ _ _ _ us hl => match us, hl with | [_, _], _ => rfl
    exact actK_of PI.p_renew e (ok_renew F S) (by decide) b F.kp
  · obtain ⟨g, y, e, F⟩ := AI.f_lift
    have b := F.binds (ps := ["state", "flag"]) fun _ _ _ _ _ _ us hl => match us, hl with | [_, _], _ => rfl
    exact actK_of PI.p_lift e (ok_lift F S) (by decide) b F.kp
  · obtain ⟨g, y, e, F⟩ := AI.f_read
    have b := F.binds (ps := ["state", "flag"]) fun _ _ _ _ _ _ us hl => match us, hl with | [_, _], _ => rfl
    exact actK_of PI.p_read e (ok_read F S) (by decide) b F.kp
  · obtain ⟨g, y, e, F⟩ := AI.f_watch
    have b := F.binds (ps := ["state", "name"]) fun _ _ _ _ _ _ us hl => match us, hl with | [_, _], _ => rfl
    exact actK_of PI.p_watch e (ok_value F S) (by decide) b F.kp
  · obtain ⟨g, y, e, F⟩ := AI.f_keep
    have b := F.binds (ps := ["state", "slot"]) fun _ _ _ _ _ _ us hl => match us, hl with | [_, _], _ => rfl
    exact actK_of PI.p_keep e (ok_keep F S mNs gNs bNs) (by decide) b F.kp
  · obtain ⟨g, y, e, F⟩ := AI.f_copy
    have b := F.binds (ps := ["state", "slot", "other"]) fun _ _ _ _ _ _ us hl => match us, hl with | [_, _, _], _ => rfl
    exact actK_of PI.p_copy e (ok_copy F S) (by decide) b F.kp
  · obtain ⟨g, y, e, F⟩ := AI.f_tell
    have b := F.binds (ps := ["state", "name"]) fun _ _ _ _ _ _ us hl => match us, hl with | [_, _], _ => rfl
    exact actK_of PI.p_tell e (ok_value F S) (by decide) b F.kp
  · obtain ⟨g, y, e, F⟩ := AI.f_bound
    have b := F.binds (ps := ["state", "slot"]) fun _ _ _ _ _ _ us hl => match us, hl with | [_, _], _ => rfl
    exact actK_of PI.p_bound e (ok_bound F S) (by decide) b F.kp
  · obtain ⟨g, y, e, F⟩ := AI.f_mark
    have b := F.binds (ps := ["state", "slot", "probe"]) fun _ _ _ _ _ _ us hl => match us, hl with | [_, _, _], _ => rfl
    exact actK_of PI.p_mark e (ok_mark F S) (by decide) b F.kp
  · obtain ⟨g, y, e, F⟩ := AI.f_spy
    have b := F.binds (ps := ["state", "name"]) fun _ _ _ _ _ _ us hl => match us, hl with | [_, _], _ => rfl
    exact actK_of PI.p_spy e (ok_spy F) (by decide) b F.kp
theorem law16_of {P : Program} {w : World} {K : PySem.W.Frag} {mg : Str → Option Value} (base : Heap) (R : WTop K w mg) {f1 f2 f3 f4 f5 f6 f7 f8 f9 f10 f11 f12 f13 f14 f15 f16 f17 f18 f19 f20 f21 f22 f23 f24 f25 f26 f27 f28 dQ : Addr} {x1 x2 x3 x4 x5 x6 x7 x8 x9 x10 x11 x12 x13 x14 x15 x16 x17 x18 x19 x20 x21 x22 x23 x24 x25 x26 x27 x28 : FuncData}
    (F1 : FunIn K mg "_law_pool" sPool f1 x1) (F2 : FunIn K mg "_law_draw" sDraw f2 x2) (F3 : FunIn K mg "_law_names" sLNames f3 x3) (F4 : FunIn K mg "_law_same" sSame f4 x4) (F5 : FunIn K mg "is_int" sIsInt f5 x5) (F6 : FunIn K mg "is_name" sIsName f6 x6) (F7 : FunIn K mg "check_names" sNames f7 x7) (F8 : FunIn K mg "check_unlike" sUnlike f8 x8)
    (F9 : FunIn K mg "is_deed" sIsDeed f9 x9) (F10 : FunIn K mg "_is_part" sIsPart f10 x10) (F11 : FunIn K mg "is_length" sIsLength f11 x11) (F12 : FunIn K mg "check_deed" sCheckDeed f12 x12) (F13 : FunIn K mg "done" sDone f13 x13) (F14 : FunIn K mg "_check_fields" sFields f14 x14)
    (F15 : FunIn K mg "_law_wide_things" sWide f15 x15) (F16 : FunIn K mg "_law_table_of" sTableOf f16 x16) (F17 : FunIn K mg "_law_thing" sThing f17 x17) (F18 : FunIn K mg "_law_thing_of" sThingOf f18 x18) (F19 : FunIn K mg "_law_world_of" sWorldOf f19 x19) (F20 : FunIn K mg "_law_word" sWord f20 x20) (F21 : FunIn K mg "_law_any_deed" sAnyDeed f21 x21) (F22 : FunIn K mg "_law_looks" sLooks f22 x22) (F23 : FunIn K mg "_take" sTake f23 x23) (F24 : FunIn K mg "_look" sLook f24 x24) (F25 : FunIn K mg "_law_pair" sPair f25 x25) (F26 : FunIn K mg "quiet_twin" sQuiet f26 x26) (F27 : FunIn K mg "leaves_trace" sTrace f27 x27) (F28 : FunIn K mg "thing_of" sThOf f28 x28)
    (mDi : mg "dict" = none) (mNS : MtAll K R.CS "new_serial" "State.new_serial" (st 3)) (mTU : MtAll K R.CS "take_until" "State.take_until" (st 4)) (mSD : MoreS K R.CS) (mW : MoreW K R.CW) (PI : PartsIn K w R.dP) (AI : ActsF K w R.dA) (mQ : mg "QUIET_WORDS" = some (.ref dQ)) (QW : Quiet K w dQ) (IS : ClsI K R.CS) (IW : ClsI K R.CW) : Nonempty (Law16 P w K mg base) := by
  have A := acts_of (P := P) base R mNS mTU mDi F23 F24 PI AI
  obtain ⟨D, e1, e2, e3, e4, e5⟩ := wdefs_of (P := P) base R F1 F2 F3 F4 F5 F6 F7 F8 F9 F10 F11 F12 F13 F14
  rw [← e1, ← e2, ← e4, ← e5] at A
  obtain ⟨w_dup, w_xor, w_eq, w_sf⟩ := mW
  obtain ⟨mSD, mSE⟩ := mSD
  have bS := F4.F.binds (ps := ["actual", "due"]) fun _ _ _ _ _ _ us hl => match us, hl with | [_, _], _ => rfl
  have bWi := F15.F.binds (ps := ["pool", "least", "most"]) fun _ _ _ _ _ _ us hl => match us, hl with | [_, _, _], _ => rfl
  have bTo := F16.F.binds (ps := ["name", "keys"]) fun _ _ _ _ _ _ us hl => match us, hl with | [_, _], _ => rfl
  have bTh := F17.F.binds (ps := ["thing"]) fun _ _ _ _ _ _ us hl => match us, hl with | [_], _ => rfl
  have bTf := F18.F.binds (ps := ["thing"]) fun _ _ _ _ _ _ us hl => match us, hl with | [_], _ => rfl
  have bWo := F19.F.binds (ps := ["things"]) fun _ _ _ _ _ _ us hl => match us, hl with | [_], _ => rfl
  have bWd := F20.F.binds (ps := ["pool"]) fun _ _ _ _ _ _ us hl => match us, hl with | [_], _ => rfl
  have bAd := F21.F.binds (ps := ["pool", "things"]) fun _ _ _ _ _ _ us hl => match us, hl with | [_, _], _ => rfl
  have bLk := F22.F.binds (ps := ["thing"]) fun _ _ _ _ _ _ us hl => match us, hl with | [_], _ => rfl
  have bPr := F25.F.binds (ps := ["look", "told", "heard", "value"]) fun _ _ _ _ _ _ us hl => match us, hl with | [_, _, _, _], _ => rfl
  have bTw := F26.F.binds (ps := ["look"]) fun _ _ _ _ _ _ us hl => match us, hl with | [_], _ => rfl
  have bTr := F27.F.binds (ps := ["look"]) fun _ _ _ _ _ _ us hl => match us, hl with | [_], _ => rfl
  have bTh2 := F28.F.binds (ps := ["look"]) fun _ _ _ _ _ _ us hl => match us, hl with | [_], _ => rfl
  have gWi := ok_wide F15.F D.B D.gD D.mD D.kD D.bD D.gL D.mL D.kL D.bL
  have gTo := ok_tableof F16.F D.B D.T D.td.table
  have gTh := ok_lthing F17.F D.T D.td
  have gTf := ok_thingof F18.F gTo F16.m F16.F.kp bTo gTh F17.m F17.F.kp bTh
  have gWo := ok_worldof F19.F D.B D.W D.MW D.gW gTf F18.m F18.F.kp bTf
  have gWd := ok_word F20.F D.gD D.mD D.kD D.bD D.B.range
  have gAd := ok_any F21.F D.B D.gD D.mD D.kD D.bD gWd F20.m F20.F.kp bWd
  have gLk := ok_looks (P := P) (w := w) (mg := mg) (base := base) F22.F
  have gTw := ok_twin (P := P) (w := w) (mg := mg) (base := base) (k := 0) F26.F mQ QW
  have gTr := ok_trace (P := P) (w := w) (mg := mg) (base := base) (k := 0) F27.F mQ QW
  have gTh2 := ok_thof (P := P) (w := w) (mg := mg) (base := base) (k := 0) F28.F
  obtain ⟨fSd, xSd, mSd, _, FSd⟩ := mSD
  obtain ⟨fDu, xDu, mDu, _, FDu⟩ := w_dup
  obtain ⟨fXo, xXo, mXo, _, FXo⟩ := w_xor
  have bSd := FSd.binds (ps := ["self"]) fun _ _ _ _ _ _ us hl => match us, hl with | [_], _ => rfl
  have bDu := FDu.binds (ps := ["self"]) fun _ _ _ _ _ _ us hl => match us, hl with | [_], _ => rfl
  have bXo := FXo.binds (ps := ["self", "other"]) fun _ _ _ _ _ _ us hl => match us, hl with | [_, _], _ => rfl
  have bSi := R.FS.binds (ps := ["self", "things"]) fun _ _ _ _ _ _ us hl => match us, hl with | [_, _], _ => rfl
  have gSi := ok_sinitL (P := P) (w := w) (mg := mg) (base := base) (k := 1) R.FS R.T.T R.S R.mF R.FK
  have gSd := ok_sdup FSd R.B mDi R.S R.MS gSi bSi
  have gW := D.gW
  rw [e1, e2] at gW
  have gDu := ok_wdup FDu R.S D.W D.MW gW mSd gSd bSd
  rw [← e1, ← e2] at gDu
  have mDu2 := mDu
  rw [← e3] at mDu2
  have sXo := mXo.at_
  rw [← e3] at sXo w_sf
  have gXo := fnR0 (ok_xor FXo D.T D.W D.aIt D.nIt D.hIt D.gIt) bXo
  have gSE := ok_sameE (P := P) (w := w) (base := base) F4.F R.B F4.m bS 3
  have gPr := ok_pair F25.F gSE F4.m F4.F.kp bS
  obtain ⟨fSq, xSq, mSq, _, FSq⟩ := mSE
  obtain ⟨fEq, xEq, mEq, _, FEq⟩ := w_eq
  have bSq := FSq.binds (ps := ["self", "other"]) fun _ _ _ _ _ _ us hl => match us, hl with | [_, _], _ => rfl
  have bEq := FEq.binds (ps := ["self", "other"]) fun _ _ _ _ _ _ us hl => match us, hl with | [_, _], _ => rfl
  have gSq := fnR0 (ok_seq (P := P) (w := w) (mg := mg) (base := base) (k := 1) (C := R.C) FSq R.S IS R.B.isinstance) bSq
  have sEq := mEq.at_
  rw [← e3] at sEq IW
  have gEq := fnR0 (ok_weq (P := P) (w := w) (mg := mg) (base := base) (k := 3) (C := R.C) FEq D.W IW R.B.isinstance mSq.at_ mSq.fn gSq) bEq
  rw [← e1, ← e2] at gEq
  exact ⟨{ D with A := A, fWi := f15, xWi := x15, gWi := gWi, bWi := bWi, mWi := F15.m, kWi := F15.F.kp, fWo := f19, xWo := x19, gWo := gWo, bWo := bWo, mWo := F19.m, kWo := F19.F.kp, fAd := f21, xAd := x21, gAd := gAd, bAd := bAd, mAd := F21.m, kAd := F21.F.kp, fWd := f20, xWd := x20, gWd := gWd, bWd := bWd, mWd := F20.m, kWd := F20.F.kp, fLk := f22, xLk := x22, gLk := gLk, bLk := bLk, mLk := F22.m, kLk := F22.F.kp, fTw := f26, xTw := x26, gTw := gTw, bTw := bTw, mTw := F26.m, kTw := F26.F.kp, fTr := f27, xTr := x27, gTr := gTr, bTr := bTr, mTr := F27.m, kTr := F27.F.kp, fTh := f28, xTh := x28, gTh := gTh2, bTh := bTh2, mTh := F28.m, kTh := F28.F.kp, fPr := f25, xPr := x25, gPr := gPr, bPr := bPr, mPr := F25.m, kPr := F25.F.kp, fEq := fEq, sEq := sEq, iEq := mEq.fn, gEq := gEq, fSE := f4, xSE := x4, gSE := gSE, bSE := bS, mSE := F4.m, kSE := F4.F.kp, fDu := fDu, xDu := xDu, mDu := mDu2, gDu := gDu, bDu := bDu, fXo := fXo, cXo := w_sf, sXo := sXo, iXo := mXo.fn, gXo := gXo }⟩
/-! ### the head's facts, read by a Hook of its own: defs of the module and of classes, static methods, tables -/
namespace Qh
/-- a static method's record; its def -/
def smP (K : PySem.W.Frag) (C : Addr) (m : Str) : Addr := match PySem.W.findCls K (.ref C) (.type "type") m with
  | some (.get (.builtin _) (.ref p) .none (.ref _)) => p
  | _ => 0
def smG (K : PySem.W.Frag) (p : Addr) : Addr := match PySem.W.recIn K p "staticmethod" with
  | some (.ref g :: _) => g
  | _ => 0
inductive At where
  | gl (x : Str)
  | me (C m : Str)
  | sm (C m : Str)
def At.a (K : PySem.W.Frag) : At → Addr
  | .gl x => He.ga K x
  | .me C x => He.ma K (He.ga K C) x
  | .sm C x => smG K (smP K (He.ga K C) x)
def smB (K : PySem.W.Frag) (C : Addr) (m : Str) : Bool := match PySem.W.findCls K (.ref C) (.type "type") m with
  | some (.get (.builtin b) (.ref p) .none (.ref D)) => decide (b = "staticmethod.__get__") && (decide (D = C) && (match PySem.W.recIn K p "staticmethod" with
    | some (.ref _ :: _) => true
    | _ => false))
  | _ => false
theorem smB_ok {K : PySem.W.Frag} {C : Addr} {m : Str} (h : smB K C m = true) : PySem.W.findCls K (.ref C) (.type "type") m = some (.get (.builtin "staticmethod.__get__") (.ref (smP K C m)) .none (.ref C)) ∧ ∃ rest, PySem.W.recIn K (smP K C m) "staticmethod" = some (.ref (smG K (smP K C m)) :: rest) := by
  unfold smB at h
  split at h
  · rename_i b p D e
    obtain ⟨h1, h2⟩ := He.ba h
    obtain ⟨h3, h4⟩ := He.ba h2
    have ep : smP K C m = p := by
      unfold smP
      rw [e]
    rw [ep]
    split at h4
    · rename_i g r e2
      refine ⟨by rw [e, of_decide_eq_true h1, of_decide_eq_true h3], r, ?_⟩
      rw [e2]
      have : smG K p = g := by
        unfold smG
        rw [e2]
      rw [this]
    · cases h4
  · cases h
def At.okB (K : PySem.W.Frag) : At → Bool
  | .gl x => (He.Fa.glo x).ok K
  | .me C x => (He.Fa.meth C x).ok K
  | .sm C x => smB K (He.ga K C) x
/-- a def of the text: where it stands, name, qualified name, statement -/
structure Fd where
  at_ : At
  name : Str
  qual : Str
  st : Stmt
def fnA (K : PySem.W.Frag) (a : Addr) : He.FnW := match K.lookup a with
  | some ⟨_, _, .func y, _⟩ => some (y.name, y.qualname, y.params, y.body, y.scope, y.globals, y.closure, y.builtins)
  | _ => none
def Fd.val (d : Fd) : He.FnW := some (d.name, d.qual, defArgs d.st, .stmts (defBody d.st), defScope d.st, mainGlobals, [], builtinsNs)
def isNon : Value → Bool
  | .none => true
  | _ => false
def Fd.ok (K : PySem.W.Frag) (d : Fd) : Bool := d.at_.okB K && (PySem.W.keepIn K (.ref (d.at_.a K)) && (match K.lookup (d.at_.a K) with
  | some ⟨_, _, .func fd, _⟩ => PySem.W.codeIn K fd.code d.qual && isNon fd.defaults
  | _ => false))
theorem Fd.fun_ {K : PySem.W.Frag} {d : Fd} (e : fnA K (d.at_.a K) = d.val) (c : d.ok K = true) : d.at_.okB K = true ∧ PySem.W.fnIn K (d.at_.a K) = true ∧ ∃ fd, Fun K d.name d.qual d.st (d.at_.a K) fd := by
  obtain ⟨c0, c1⟩ := He.ba c
  obtain ⟨kp, c2⟩ := He.ba c1
  refine ⟨c0, ?_⟩
  unfold fnA at e
  cases q : K.lookup (d.at_.a K) with
  | none =>
    rw [q] at c2
    cases c2
  | some o =>
    obtain ⟨oc, od, dt, osl⟩ := o
    rw [q] at c2 e
    cases dt with
    | func fd =>
      obtain ⟨m1, m2, m3, m4, m5, m6, m7, n8, m9, m10, m11, m12, n13, m14, m15⟩ := fd
      have e2 : (some (m1, m2, m3, m4, m5, m6, m7, m15) : He.FnW) = some (d.name, d.qual, defArgs d.st, .stmts (defBody d.st), defScope d.st, mainGlobals, [], builtinsNs) := e
      simp only [Prod.mk.injEq, Option.some.injEq] at e2
      obtain ⟨rfl, rfl, rfl, rfl, rfl, rfl, rfl, rfl⟩ := e2
      obtain ⟨k1, k2⟩ := He.ba (show (PySem.W.codeIn K n13 d.qual && isNon n8) = true from c2)
      have k3 : n8 = .none := by
        cases n8 with
        | none => rfl
        | _ => cases k2
      subst k3
      exact ⟨by unfold PySem.W.fnIn; rw [q], _, fun_mk q k1 kp⟩
    | _ => cases c2
/-! ### tables -/
def ptB (K : PySem.W.Frag) (d : Addr) (word : Str) (vs : List V) : Bool := match PySem.W.nsIn K d word with
  | some (some (.ref t)) => (match K.lookup t with
    | some ⟨.type c, none, .seq its _, _⟩ => decide (c = "tuple") && (decide (its.size ≤ sizeLine) && He.relAll vs its.toList)
    | _ => false)
  | _ => false
theorem ptB_ok {K : PySem.W.Frag} {d : Addr} {word : Str} {vs : List V} (h : ptB K d word vs = true) : ∃ (t : Addr) (its : Array Value) (n : Nat) (sl : Array (Option Value)), PySem.W.nsIn K d word = some (some (.ref t)) ∧ K.lookup t = some ⟨.type "tuple", none, .seq its n, sl⟩ ∧ its.size ≤ sizeLine ∧ Vals vs its.toList := by
  unfold ptB at h
  split at h
  · rename_i t e
    split at h
    · rename_i c its n sl l
      obtain ⟨h1, h2⟩ := He.ba h
      obtain ⟨h3, h4⟩ := He.ba h2
      refine ⟨t, its, n, sl, e, ?_, of_decide_eq_true h3, He.relAll_ok h4⟩
      rw [l, of_decide_eq_true h1]
    · cases h
  · cases h
theorem parts_ok {K : PySem.W.Frag} {w : World} {d : Addr} {es : Array DictEntry} {n : Nat} {word : Str} {ks : List Str} (D : KDict K w d es n) (h : ptB K d word (ks.map V.str) = true) : PartsK K w d word ks := by
  obtain ⟨t, its, m, sl, e, l, z, v⟩ := ptB_ok h
  exact ⟨⟨_, e⟩, t, kdct_of D e rfl, sqt_of l z v⟩
def vlB (K : PySem.W.Frag) (d : Addr) (word : Str) (v : V) : Bool := match PySem.W.nsIn K d word with
  | some (some u) => He.relB v u
  | _ => false
theorem vlB_ok {K : PySem.W.Frag} {w : World} {d : Addr} {es : Array DictEntry} {n : Nat} {word : Str} {v : V} (D : KDict K w d es n) (h : vlB K d word v = true) : KDct K w d word v := by
  unfold vlB at h
  split at h
  · rename_i u e
    exact kdct_of D e (He.relB_ok h)
  · cases h
def firstB (K : PySem.W.Frag) (d : Addr) : Bool := ptB K d "feed" [.int 0, .int 0, .int 0] && (ptB K d "dice" [.int 0, .int 0] && (ptB K d "table" [] && (vlB K d "source" (.int 0) && (vlB K d "field" .non && (vlB K d "flag" (.bl false) && vlB K d "slot" .non)))))
theorem first_ok {K : PySem.W.Frag} {w : World} {d : Addr} {es : Array DictEntry} {n : Nat} (D : KDict K w d es n) (h : firstB K d = true) : FirstK K w d := by
  obtain ⟨h1, h⟩ := He.ba h
  obtain ⟨h2, h⟩ := He.ba h
  obtain ⟨h3, h⟩ := He.ba h
  obtain ⟨h4, h⟩ := He.ba h
  obtain ⟨h5, h⟩ := He.ba h
  obtain ⟨h6, h7⟩ := He.ba h
  obtain ⟨a1, i1, m1, s1, e1, l1, z1, v1⟩ := ptB_ok h1
  obtain ⟨a2, i2, m2, s2, e2, l2, z2, v2⟩ := ptB_ok h2
  obtain ⟨a3, i3, m3, s3, e3, l3, z3, v3⟩ := ptB_ok h3
  have i3e : i3 = #[] := by
    have : i3.toList = [] := by
      cases q : i3.toList with
      | nil => rfl
      | cons a b =>
        rw [q] at v3
        cases v3
    exact Array.toList_eq_nil_iff.mp this
  subst i3e
  refine ⟨fun kind hk => ?_⟩
  simp only [kindsS, List.mem_cons, List.not_mem_nil, or_false] at hk
  rcases hk with rfl | rfl | rfl | rfl | rfl | rfl | rfl
  · exact ⟨.ref a1, kdct_of D e1 rfl, fun H => dq_of (.tup (sqt_of l1 z1 v1 H) (.cons (.int 0) (.cons (.int 0) (.cons (.int 0) .nil)))) rfl⟩
  · exact ⟨.ref a2, kdct_of D e2 rfl, fun H => dq_of (.tup (sqt_of l2 z2 v2 H) (.cons (.int 0) (.cons (.int 0) .nil))) rfl⟩
  · exact ⟨.ref a3, kdct_of D e3 rfl, fun H => ⟨.tup (sqt_of (xs := []) l3 z3 .nil H) .nil, fun _ => ⟨a3, rfl, .inr ⟨_, l3, rfl, rfl⟩⟩⟩⟩
  · exact ⟨.int 0, vlB_ok D h4, fun H => dq_of (.int 0) rfl⟩
  · exact ⟨.non, vlB_ok D h5, fun H => dq_of (.non) rfl⟩
  · exact ⟨.bl false, vlB_ok D h6, fun H => dq_of (.bl false) rfl⟩
  · exact ⟨.non, vlB_ok D h7, fun H => dq_of (.non) rfl⟩
/-! ### the classes -/
def thB (K : PySem.W.Frag) : Bool := PySem.W.readsIn K (He.ga K "Thing") (.type "type") && (He.eqO (PySem.W.specialIn K (.ref (He.ga K "Thing")) "__getattribute__") (some (some (.builtin "type.__getattribute__"))) &&
  (He.eqO (PySem.W.findIn K (.ref (He.ga K "Thing")) "__class__") (some (some (.builtin "object.__class__"))) && (He.eqO (PySem.W.specialIn K (.builtin "object.__class__") "__get__") (some (some (.builtin "getset_descriptor.__get__"))) &&
  (decide (PySem.W.takesIn K (.builtin "object.__class__") = some true) && decide (PySem.W.mroIn K (He.ga K "Thing") (.type "object") = some true)))))
def kdB (K : PySem.W.Frag) (C : Addr) : Bool := match PySem.W.findCls K (.ref C) (.type "type") "KINDS" with
  | some (.val (.ref t)) => (match K.lookup t with
    | some ⟨.type c, none, .seq its _, _⟩ => decide (c = "tuple") && (decide (its.size ≤ sizeLine) && He.relAll (kindsS.map V.str) its.toList)
    | _ => false)
  | _ => false
theorem kdB_ok {K : PySem.W.Frag} {C : Addr} (h : kdB K C = true) : KindsK K C := by
  unfold kdB at h
  split at h
  · rename_i t e
    split at h
    · rename_i c its n sl l
      obtain ⟨h1, h2⟩ := He.ba h
      obtain ⟨h3, h4⟩ := He.ba h2
      rw [of_decide_eq_true h1] at l
      exact ⟨t, ⟨e, rfl⟩, sqt_of l (of_decide_eq_true h3) (He.relAll_ok h4)⟩
    · cases h
  · cases h
/-! ### the Hook -/
def refsQ (o : Obj) : List Addr := match o.data with
  | .seq its _ => its.toList.flatMap He.refV
  | .dict es _ => es.toList.flatMap fun e => He.refV e.val
  | .func fd => He.refV fd.code
  | .cls cd => [cd.ns]
  | .fields vs => vs.toList.flatMap He.refV
  | _ => []
def frQ (g : Addr → Option Obj) : Nat → List Addr → List Addr
  | 0, as => as
  | n + 1, as => as ++ frQ g n (as.flatMap fun a => match g a with
    | some o => refsQ o
    | none => [])
def asQ (g : Addr → Option Obj) (n : Nat) : List Addr := cStatics :: frQ g n [mainGlobals]
abbrev AlQ : Type := (Bool × List He.FnW) × List (Option (List (Option (Str × Int))))
def obsQ (fa : List He.Fa) (fn : List Fd) (ts : List He.Tab) (ex : PySem.W.Frag → Bool) (K : PySem.W.Frag) : AlQ := (((fa.all fun f => f.ok K) && ((fn.all fun d => d.ok K) && ex K), fn.map fun d => fnA K (d.at_.a K)), ts.map fun t => He.dicW K (t.1 K))
def valQ (fn : List Fd) (ts : List He.Tab) (w : World) : AlQ := ((true, fn.map Fd.val), ts.map fun t => some (He.keysIn w.params t.2))
def SaysQ (fa : List He.Fa) (fn : List Fd) (ts : List He.Tab) (ex : PySem.W.Frag → Bool) (w : World) (K : PySem.W.Frag) : Prop := obsQ fa fn ts ex K = valQ fn ts w
def obsQG (n : Nat) (fa : List He.Fa) (fn : List Fd) (ts : List He.Tab) (ex : PySem.W.Frag → Bool) (g : Addr → Option Obj) : AlQ := obsQ fa fn ts ex (He.frG g (asQ g n))
def hookQ (n : Nat) (fa : List He.Fa) (fn : List Fd) (ts : List He.Tab) (ex : PySem.W.Frag → Bool) : PySem.W.Hook where
  α := AlQ
  obs := fun s => obsQG n fa fn ts ex s.heap.get?
  val := fun w => valQ fn ts w
  says := fun w h => ∃ K : PySem.W.Frag, K.In h ∧ SaysQ fa fn ts ex w K
  of := fun _ _ e => ⟨_, He.frG_in, e⟩
  keeps := fun _ _ _ ⟨K, a, c⟩ k => ⟨K, a.keeps k, c⟩
theorem obsQG_eq {n : Nat} {fa : List He.Fa} {fn : List Fd} {ts : List He.Tab} {ex : PySem.W.Frag → Bool} {g : Addr → Option Obj} {s : Shared} (h : ∀ a, g a = s.heap.get? a) : obsQG n fa fn ts ex g = (hookQ n fa fn ts ex).obs s := by
  cases (funext h : g = s.heap.get?)
  rfl
section
variable {fa : List He.Fa} {fn : List Fd} {ts : List He.Tab} {ex : PySem.W.Frag → Bool} {w : World} {K : PySem.W.Frag}
theorem SaysQ.b (c : SaysQ fa fn ts ex w K) : ((fa.all fun f => f.ok K) && ((fn.all fun d => d.ok K) && ex K)) = true := congrArg (fun z : AlQ => z.1.1) c
theorem SaysQ.fact (c : SaysQ fa fn ts ex w K) {f : He.Fa} (h : f ∈ fa) : f.ok K = true := List.all_eq_true.mp (He.ba c.b).1 f h
theorem SaysQ.more (c : SaysQ fa fn ts ex w K) : ex K = true := (He.ba (He.ba c.b).2).2
theorem SaysQ.def_ (c : SaysQ fa fn ts ex w K) (i : Nat) {d : Fd} (h : fn[i]? = some d := by rfl) : d.at_.okB K = true ∧ PySem.W.fnIn K (d.at_.a K) = true ∧ ∃ fd, Fun K d.name d.qual d.st (d.at_.a K) fd := by
  have c2 := (He.ba (He.ba c.b).2).1
  have e : fn.map (fun d => fnA K (d.at_.a K)) = fn.map Fd.val := congrArg (fun z : AlQ => z.1.2) c
  have e2 : (fn.map fun d => fnA K (d.at_.a K))[i]? = (fn.map Fd.val)[i]? := by rw [e]
  simp only [List.getElem?_map, h] at e2
  exact Fd.fun_ (Option.some.inj e2) (List.all_eq_true.mp c2 d (List.mem_of_getElem? h))
theorem SaysQ.glo (c : SaysQ fa fn ts ex w K) (i : Nat) {x : Str} {st : Stmt} {h : Heap} {mg : Str → Option Value} (X : K.In h) (G : h.Ns mainGlobals mg) (e : fn[i]? = some ⟨.gl x, x, x, st⟩ := by rfl) : ∃ fd, FunIn K mg x st (He.ga K x) fd := by
  obtain ⟨a, _, fd, F⟩ := c.def_ i e
  exact ⟨fd, F, He.glo_ok X G a⟩
theorem SaysQ.mt (c : SaysQ fa fn ts ex w K) (i : Nat) {C m q : Str} {st : Stmt} (e : fn[i]? = some ⟨.me C m, m, q, st⟩ := by rfl) : MtAll K (He.ga K C) m q st := by
  obtain ⟨a, b, fd, F⟩ := c.def_ i e
  exact ⟨_, fd, He.meth_ok a, b, F⟩
theorem SaysQ.me (c : SaysQ fa fn ts ex w K) (i j : Nat) {m q : Str} (e : fn[i]? = some ⟨.me "Thing" m, m, q, Qp.me j⟩ := by rfl) : MeAll K (He.ga K "Thing") m q j := by
  obtain ⟨a, b, fd, F⟩ := c.def_ i e
  exact ⟨_, fd, (He.meth_ok a).at_, (He.meth_ok a).fn, F⟩
theorem SaysQ.sm (c : SaysQ fa fn ts ex w K) (i j : Nat) {m q : Str} (e : fn[i]? = some ⟨.sm "Thing" m, m, q, Qp.me j⟩ := by rfl) : SmAll K (He.ga K "Thing") m q j := by
  obtain ⟨a, b, fd, F⟩ := c.def_ i e
  obtain ⟨h1, r, h2⟩ := smB_ok a
  exact ⟨_, _, fd, ⟨h1, ⟨r, h2⟩, F.kp⟩, F⟩
theorem SaysQ.tab (c : SaysQ fa fn ts ex w K) (i : Nat) {t : He.Tab} (h : ts[i]? = some t := by rfl) : ∃ es n, KDict K w (t.1 K) es n := by
  have e : ts.map (fun t => He.dicW K (t.1 K)) = ts.map fun t => some (He.keysIn w.params t.2) := congrArg (fun z : AlQ => z.2) c
  have e2 : (ts.map fun t => He.dicW K (t.1 K))[i]? = (ts.map fun t => some (He.keysIn w.params t.2))[i]? := by rw [e]
  simp only [List.getElem?_map, h] at e2
  exact He.dicW_ok (Option.some.inj e2)
end
end Qh
theorem ok_law_ne {P : Program} {w : World} {K : PySem.W.Frag} {mg : Str → Option Value} {base : Heap} {f : Addr} {fd : FuncData} (F : Fun K "law" "law" sLaw f fd) (G : Nonempty (Law16 P w K mg base)) : FnOk P w K mg base CX0 13 f fd ["script"] (spLaw K) := let ⟨g⟩ := G; ok_law F g
namespace Qh
/-- what isinstance asks of a class -/
def clB (K : PySem.W.Frag) (C : Addr) : Bool := He.eqO (PySem.W.findIn K (.ref C) "__class__") (some (some (.builtin "object.__class__"))) && decide (PySem.W.mroIn K C (.type "object") = some true)
theorem clB_ok {K : PySem.W.Frag} {C : Addr} (h : clB K C = true) (t : thB K = true) : ClsI K C := by
  obtain ⟨h1, h2⟩ := He.ba h
  obtain ⟨_, t⟩ := He.ba t
  obtain ⟨_, t⟩ := He.ba t
  obtain ⟨_, t⟩ := He.ba t
  obtain ⟨t4, t⟩ := He.ba t
  obtain ⟨t5, _⟩ := He.ba t
  exact ⟨He.eqO_ok h1, He.eqO_ok t4, of_decide_eq_true t5, of_decide_eq_true h2⟩
def strIs (u : Option Value) (z : Option Str) : Bool := match u, z with
  | none, none => true
  | some (.str y _), some z => decide (y = z)
  | _, _ => false
def qzB (K : PySem.W.Frag) (d : Addr) : Bool := qwords.all fun p => match PySem.W.nsIn K d p.1 with
  | some u => strIs u p.2
  | none => false
theorem quiet_ok {K : PySem.W.Frag} {w : World} {d : Addr} (D : ∃ es n, KDict K w d es n) (h : qzB K d = true) : Quiet K w d := by
  refine ⟨D, fun p hp => ?_⟩
  have h2 := List.all_eq_true.mp h p hp
  cases e : PySem.W.nsIn K d p.1 with
  | none =>
    rw [e] at h2
    cases h2
  | some u =>
    rw [e] at h2
    have h3 : strIs u p.2 = true := h2
    refine ⟨u, rfl, fun q => ?_, fun z q => ?_⟩
    · rw [q] at h3
      cases u with
      | none => rfl
      | some v => cases v <;> cases h3
    · rw [q] at h3
      cases u with
      | none => cases h3
      | some v =>
        cases v with
        | str y t =>
          have : y = z := of_decide_eq_true h3
          exact ⟨t, by rw [this]⟩
        | _ => cases h3
end Qh
namespace Hd
open PySem PySem.Spec PyProof.Rows L2 Qh
def fn0 : List Fd := [⟨.gl "_law_pool", "_law_pool", "_law_pool", Qp.sPool⟩, ⟨.gl "_law_draw", "_law_draw", "_law_draw", Qp.sDraw⟩, ⟨.gl "_law_names", "_law_names", "_law_names", Qp.sLNames⟩, ⟨.gl "_law_same", "_law_same", "_law_same", Qp.sSame⟩, ⟨.gl "is_int", "is_int", "is_int", Qp.sIsInt⟩, ⟨.gl "is_name", "is_name", "is_name", Qp.sIsName⟩, ⟨.gl "check_names", "check_names", "check_names", Qp.sNames⟩, ⟨.gl "check_unlike", "check_unlike", "check_unlike", Qp.sUnlike⟩, ⟨.gl "is_deed", "is_deed", "is_deed", Qp.sIsDeed⟩, ⟨.gl "_is_part", "_is_part", "_is_part", Qp.sIsPart⟩, ⟨.gl "is_length", "is_length", "is_length", Qp.sIsLength⟩, ⟨.gl "check_deed", "check_deed", "check_deed", Qp.sCheckDeed⟩]
def fn1 : List Fd := [⟨.gl "done", "done", "done", Qp.sDone⟩, ⟨.gl "_check_fields", "_check_fields", "_check_fields", Qp.sFields⟩, ⟨.gl "_law_wide_things", "_law_wide_things", "_law_wide_things", Qp.sWide⟩, ⟨.gl "_law_table_of", "_law_table_of", "_law_table_of", Qp.sTableOf⟩, ⟨.gl "_law_thing", "_law_thing", "_law_thing", Qp.sThing⟩, ⟨.gl "_law_thing_of", "_law_thing_of", "_law_thing_of", Qp.sThingOf⟩, ⟨.gl "_law_world_of", "_law_world_of", "_law_world_of", Qp.sWorldOf⟩, ⟨.gl "_law_word", "_law_word", "_law_word", Qp.sWord⟩, ⟨.gl "_law_any_deed", "_law_any_deed", "_law_any_deed", Qp.sAnyDeed⟩, ⟨.gl "_law_looks", "_law_looks", "_law_looks", Qp.sLooks⟩, ⟨.gl "_take", "_take", "_take", Qp.sTake⟩, ⟨.gl "_look", "_look", "_look", Qp.sLook⟩]
def fn2 : List Fd := [⟨.gl "_law_pair", "_law_pair", "_law_pair", Qp.sPair⟩, ⟨.gl "quiet_twin", "quiet_twin", "quiet_twin", Qp.sQuiet⟩, ⟨.gl "leaves_trace", "leaves_trace", "leaves_trace", Qp.sTrace⟩, ⟨.gl "thing_of", "thing_of", "thing_of", Qp.sThOf⟩, ⟨.gl "_skip", "_skip", "_skip", Qp.sSkip⟩, ⟨.gl "_drain", "_drain", "_drain", Qp.sDrain⟩, ⟨.gl "_fetch", "_fetch", "_fetch", Qp.sFetch⟩, ⟨.gl "_bind", "_bind", "_bind", Qp.sBind⟩, ⟨.gl "_roll", "_roll", "_roll", Qp.sRoll⟩, ⟨.gl "_seed", "_seed", "_seed", Qp.sSeed⟩, ⟨.gl "_get", "_get", "_get", Qp.sGet⟩, ⟨.gl "_peek", "_peek", "_peek", Qp.sPeek⟩]
def fn3 : List Fd := [⟨.gl "_has", "_has", "_has", Qp.sHas⟩, ⟨.gl "_put", "_put", "_put", Qp.sPut⟩, ⟨.gl "_fill", "_fill", "_fill", Qp.sFill⟩, ⟨.gl "_drop", "_drop", "_drop", Qp.sDrop⟩, ⟨.gl "_size", "_size", "_size", Qp.sSize⟩, ⟨.gl "_keys", "_keys", "_keys", Qp.sKeys⟩, ⟨.gl "_load", "_load", "_load", Qp.sLoad⟩, ⟨.gl "_wipe", "_wipe", "_wipe", Qp.sWipe⟩, ⟨.gl "_change", "_change", "_change", Qp.sChange⟩, ⟨.gl "_value", "_value", "_value", Qp.sValue⟩, ⟨.gl "_renew", "_renew", "_renew", Qp.sRenew⟩, ⟨.gl "_lift", "_lift", "_lift", Qp.sLift⟩]
def fn4 : List Fd := [⟨.gl "_read", "_read", "_read", Qp.sRead⟩, ⟨.gl "_keep", "_keep", "_keep", Qp.sKeep⟩, ⟨.gl "_copy", "_copy", "_copy", Qp.sCopy⟩, ⟨.gl "_bound", "_bound", "_bound", Qp.sBound⟩, ⟨.gl "_mark", "_mark", "_mark", Qp.sMark⟩, ⟨.gl "_spy", "_spy", "_spy", Qp.sSpy⟩, ⟨.gl "law", "law", "law", Qp.sLaw⟩, ⟨.me "Thing" "__init__", "__init__", "Thing.__init__", Qp.me 1⟩, ⟨.me "Thing" "__eq__", "__eq__", "Thing.__eq__", Qp.me 9⟩, ⟨.me "Thing" "__str__", "__str__", "Thing.__str__", Qp.me 10⟩, ⟨.sm "Thing" "feed", "feed", "Thing.feed", Qp.me 2⟩, ⟨.sm "Thing" "dice", "dice", "Thing.dice", Qp.me 3⟩]
def fn5 : List Fd := [⟨.sm "Thing" "table", "table", "Thing.table", Qp.me 4⟩, ⟨.sm "Thing" "source", "source", "Thing.source", Qp.me 5⟩, ⟨.sm "Thing" "field", "field", "Thing.field", Qp.me 6⟩, ⟨.sm "Thing" "flag", "flag", "Thing.flag", Qp.me 7⟩, ⟨.sm "Thing" "slot", "slot", "Thing.slot", Qp.me 8⟩, ⟨.me "State" "__init__", "__init__", "State.__init__", Qp.st 0⟩, ⟨.me "State" "new_serial", "new_serial", "State.new_serial", Qp.st 3⟩, ⟨.me "State" "take_until", "take_until", "State.take_until", Qp.st 4⟩, ⟨.me "State" "duplicate", "duplicate", "State.duplicate", Qp.st 2⟩, ⟨.me "State" "__eq__", "__eq__", "State.__eq__", Qp.st 1⟩, ⟨.me "World" "__init__", "__init__", "World.__init__", Qp.wo 0⟩, ⟨.me "World" "do", "do", "World.do", Qp.wo 1⟩]
def fn6 : List Fd := [⟨.me "World" "__getitem__", "__getitem__", "World.__getitem__", Qp.wo 4⟩, ⟨.me "World" "__contains__", "__contains__", "World.__contains__", Qp.wo 6⟩, ⟨.me "World" "duplicate", "duplicate", "World.duplicate", Qp.wo 2⟩, ⟨.me "World" "__xor__", "__xor__", "World.__xor__", Qp.wo 7⟩, ⟨.me "World" "__eq__", "__eq__", "World.__eq__", Qp.wo 8⟩]
def fn : List Fd := fn0 ++ (fn1 ++ (fn2 ++ (fn3 ++ (fn4 ++ (fn5 ++ (fn6))))))
def fa0 : List He.Fa := [.free "isinstance", .free "bool", .free "str", .free "int", .free "list", .free "tuple", .free "len", .free "range", .free "enumerate", .free "all", .free "zip", .free "dict"]
def fa1 : List He.Fa := [.int "LONGEST_NAME" 8, .int "MOST_KEYS" 4, .int "LONGEST_ROW" 1000000000000000000000000000000, .int "MOST_THINGS" 8]
def fa2 : List He.Fa := [.glo "Thing", .cls "Thing", .noat "Thing" "kind", .noat "Thing" "name", .noat "Thing" "parts", .keep "Thing"]
def fa3 : List He.Fa := [.glo "State", .cls "State", .noat "State" "by_name", .noat "State" "contents", .noat "State" "fetchings", .noat "State" "seedings", .noat "State" "serials", .keep "State"]
def fa4 : List He.Fa := [.glo "World", .cls "World", .noat "World" "things", .noat "World" "_state", .noat "World" "_log", .keep "World"]
def fa5 : List He.Fa := [.glo "PARTS", .glo "ACTIONS", .glo "AT_FIRST", .glo "QUIET_WORDS"]
def fa : List He.Fa := fa0 ++ (fa1 ++ (fa2 ++ (fa3 ++ (fa4 ++ fa5))))
def kPARTS : List Str := [(PySem.Str.ofString "take"), (PySem.Str.ofString "skip"), (PySem.Str.ofString "drain"), (PySem.Str.ofString "fetch"), (PySem.Str.ofString "bind"), (PySem.Str.ofString "roll"), (PySem.Str.ofString "seed"), (PySem.Str.ofString "get"), (PySem.Str.ofString "peek"), (PySem.Str.ofString "has"), (PySem.Str.ofString "put"), (PySem.Str.ofString "fill"), (PySem.Str.ofString "drop"), (PySem.Str.ofString "size"), (PySem.Str.ofString "keys"), (PySem.Str.ofString "load"), (PySem.Str.ofString "wipe"), (PySem.Str.ofString "change"), (PySem.Str.ofString "look"), (PySem.Str.ofString "glance"), (PySem.Str.ofString "renew"), (PySem.Str.ofString "lift"), (PySem.Str.ofString "read"), (PySem.Str.ofString "watch"), (PySem.Str.ofString "keep"), (PySem.Str.ofString "copy"), (PySem.Str.ofString "tell"), (PySem.Str.ofString "bound"), (PySem.Str.ofString "mark"), (PySem.Str.ofString "spy")]
def kACTIONS : List Str := [(PySem.Str.ofString "take"), (PySem.Str.ofString "skip"), (PySem.Str.ofString "drain"), (PySem.Str.ofString "fetch"), (PySem.Str.ofString "bind"), (PySem.Str.ofString "roll"), (PySem.Str.ofString "seed"), (PySem.Str.ofString "get"), (PySem.Str.ofString "peek"), (PySem.Str.ofString "has"), (PySem.Str.ofString "put"), (PySem.Str.ofString "fill"), (PySem.Str.ofString "drop"), (PySem.Str.ofString "size"), (PySem.Str.ofString "keys"), (PySem.Str.ofString "load"), (PySem.Str.ofString "wipe"), (PySem.Str.ofString "change"), (PySem.Str.ofString "look"), (PySem.Str.ofString "glance"), (PySem.Str.ofString "renew"), (PySem.Str.ofString "lift"), (PySem.Str.ofString "read"), (PySem.Str.ofString "watch"), (PySem.Str.ofString "keep"), (PySem.Str.ofString "copy"), (PySem.Str.ofString "tell"), (PySem.Str.ofString "bound"), (PySem.Str.ofString "mark"), (PySem.Str.ofString "spy")]
def kAT_FIRST : List Str := [(PySem.Str.ofString "feed"), (PySem.Str.ofString "dice"), (PySem.Str.ofString "table"), (PySem.Str.ofString "source"), (PySem.Str.ofString "field"), (PySem.Str.ofString "flag"), (PySem.Str.ofString "slot")]
def kQUIET_WORDS : List Str := [(PySem.Str.ofString "take"), (PySem.Str.ofString "drain"), (PySem.Str.ofString "roll"), (PySem.Str.ofString "get"), (PySem.Str.ofString "drop"), (PySem.Str.ofString "look"), (PySem.Str.ofString "renew"), (PySem.Str.ofString "read"), (PySem.Str.ofString "mark")]
def ts : List He.Tab := [((fun K => He.ga K "PARTS"), kPARTS), ((fun K => He.ga K "ACTIONS"), kACTIONS), ((fun K => He.ga K "AT_FIRST"), kAT_FIRST), ((fun K => He.ga K "QUIET_WORDS"), kQUIET_WORDS)]
def exx (K : PySem.W.Frag) : Bool := qzB K (He.ga K "QUIET_WORDS") && (clB K (He.ga K "State") && clB K (He.ga K "World"))
def pks0 : List (Str × List Str) := [("take", ["feed"]), ("skip", ["feed"]), ("drain", ["feed"]), ("fetch", ["feed", "length"]), ("bind", ["feed", "feed"]), ("roll", ["dice"]), ("seed", ["dice"]), ("get", ["table", "key"]), ("peek", ["table", "key"]), ("has", ["table", "key"]), ("put", ["table", "key"]), ("fill", ["table", "key"]), ("drop", ["table", "key"]), ("size", ["table"]), ("keys", ["table"])]
def pks1 : List (Str × List Str) := [("load", ["table", "keys"]), ("wipe", ["table"]), ("change", ["source"]), ("look", ["field"]), ("glance", ["field"]), ("renew", ["field"]), ("lift", ["flag"]), ("read", ["flag"]), ("watch", ["flag"]), ("keep", ["slot"]), ("copy", ["slot", "slot"]), ("tell", ["slot"]), ("bound", ["slot"]), ("mark", ["slot", "mark"]), ("spy", ["thing"])]
def aks0 : List (Str × Str) := [("take", "_take"), ("skip", "_skip"), ("drain", "_drain"), ("fetch", "_fetch"), ("bind", "_bind"), ("roll", "_roll"), ("seed", "_seed"), ("get", "_get"), ("peek", "_peek"), ("has", "_has"), ("put", "_put"), ("fill", "_fill"), ("drop", "_drop"), ("size", "_size"), ("keys", "_keys")]
def aks1 : List (Str × Str) := [("load", "_load"), ("wipe", "_wipe"), ("change", "_change"), ("look", "_look"), ("glance", "_value"), ("renew", "_renew"), ("lift", "_lift"), ("read", "_read"), ("watch", "_value"), ("keep", "_keep"), ("copy", "_copy"), ("tell", "_value"), ("bound", "_bound"), ("mark", "_mark"), ("spy", "_spy")]
def ptsB (K : PySem.W.Frag) (l : List (Str × List Str)) : Bool := l.all fun p => ptB K (He.ga K "PARTS") p.1 (p.2.map V.str)
def actB (K : PySem.W.Frag) (l : List (Str × Str)) : Bool := l.all fun p => vlB K (He.ga K "ACTIONS") p.1 (.ref (He.ga K p.2))
def ex (K : PySem.W.Frag) : Bool := exx K && (thB K && (kdB K (He.ga K "Thing") && (PySem.W.makesIn K (He.ga K "Thing") && (PySem.W.makesIn K (He.ga K "State") && (PySem.W.makesIn K (He.ga K "World") && (PySem.W.selfFirst K (He.ga K "World") && (firstB K (He.ga K "AT_FIRST") && (ptsB K pks0 && (ptsB K pks1 && (actB K aks0 && actB K aks1))))))))))
/-! ### what the head tells -/
section
variable {w : World} {K : PySem.W.Frag} {h : Heap} {mg : Str → Option Value}
theorem pt_of {es : Array DictEntry} {n : Nat} {l : List (Str × List Str)} (D : KDict K w (He.ga K "PARTS") es n) (h : ptsB K l = true) (i : Nat) {word : Str} {ks : List Str} (e : l[i]? = some (word, ks) := by rfl) : Qp.PartsK K w (He.ga K "PARTS") word ks :=
  parts_ok D (List.all_eq_true.mp h _ (List.mem_of_getElem? e))
theorem ac_of {es : Array DictEntry} {n : Nat} {l : List (Str × Str)} {fa : List He.Fa} {ts : List He.Tab} {ex : PySem.W.Frag → Bool} (D : KDict K w (He.ga K "ACTIONS") es n) (h : actB K l = true) (c : SaysQ fa fn ts ex w K) (i j : Nat) {word x : Str} {st : Stmt} (e : l[i]? = some (word, x) := by rfl) (e2 : fn[j]? = some ⟨.gl x, x, x, st⟩ := by rfl) :
    ∃ f fd, Qp.KDctF K w (He.ga K "ACTIONS") word f ∧ Fun K x x st f fd := by
  obtain ⟨_, _, fd, F⟩ := c.def_ j e2
  exact ⟨_, fd, vlB_ok D (List.all_eq_true.mp h _ (List.mem_of_getElem? e)), F⟩


theorem of (X : K.In h) (G : h.Ns mainGlobals mg) (c : SaysQ fa fn ts ex w K) : ∃ R : Qp.WTop K w mg, R.C = He.ga K "Thing" ∧ R.CS = He.ga K "State" ∧ R.CW = He.ga K "World" ∧ R.dP = He.ga K "PARTS" ∧ R.dA = He.ga K "ACTIONS" ∧ Qp.PartsIn K w R.dP ∧ Qp.ActsF K w R.dA := by
  have m := c.more
  obtain ⟨bx, m⟩ := He.ba m
  obtain ⟨b1, m⟩ := He.ba m
  obtain ⟨b2, m⟩ := He.ba m
  obtain ⟨b3, m⟩ := He.ba m
  obtain ⟨b4, m⟩ := He.ba m
  obtain ⟨b5, m⟩ := He.ba m
  obtain ⟨b6, m⟩ := He.ba m
  obtain ⟨b7, m⟩ := He.ba m
  obtain ⟨b8, m⟩ := He.ba m
  obtain ⟨b9, m⟩ := He.ba m
  obtain ⟨b10, b11⟩ := He.ba m
  obtain ⟨c1, t⟩ := He.ba b1
  obtain ⟨c2, t⟩ := He.ba t
  obtain ⟨c3, t⟩ := He.ba t
  obtain ⟨c4, t⟩ := He.ba t
  obtain ⟨c5, c6⟩ := He.ba t
  obtain ⟨eP, nP, DP⟩ := c.tab 0
  obtain ⟨eA, nA, DA⟩ := c.tab 1
  obtain ⟨eF, nF, DF⟩ := c.tab 2
  obtain ⟨tL, mL⟩ := He.int_ok X G (c.fact (List.mem_of_getElem? (l := fa) (i := 12) rfl))
  obtain ⟨tK, mK⟩ := He.int_ok X G (c.fact (List.mem_of_getElem? (l := fa) (i := 13) rfl))
  obtain ⟨tR, mR⟩ := He.int_ok X G (c.fact (List.mem_of_getElem? (l := fa) (i := 14) rfl))
  obtain ⟨tT, mT⟩ := He.int_ok X G (c.fact (List.mem_of_getElem? (l := fa) (i := 15) rfl))
  have T : Qp.ThAll K mg (He.ga K "Thing") := ⟨⟨He.glo_ok X G (c.fact (List.mem_of_getElem? (l := fa) (i := 16) rfl)), He.cls_ok (c.fact (List.mem_of_getElem? (l := fa) (i := 17) rfl)), He.noat_ok (c.fact (List.mem_of_getElem? (l := fa) (i := 18) rfl)), He.noat_ok (c.fact (List.mem_of_getElem? (l := fa) (i := 19) rfl)), He.noat_ok (c.fact (List.mem_of_getElem? (l := fa) (i := 20) rfl)), ⟨c1, He.eqO_ok c2⟩, He.eqO_ok c3, He.eqO_ok c4, of_decide_eq_true c5, of_decide_eq_true c6⟩, b3, He.keep_ok (c.fact (List.mem_of_getElem? (l := fa) (i := 21) rfl)),
    c.me 55 1, c.sm 58 2, c.sm 59 3, c.sm 60 4, c.sm 61 5, c.sm 62 6, c.sm 63 7, c.sm 64 8, c.me 56 9, c.me 57 10⟩
  have S : Qp.StIn K mg (He.ga K "State") := ⟨He.glo_ok X G (c.fact (List.mem_of_getElem? (l := fa) (i := 22) rfl)), He.cls_ok (c.fact (List.mem_of_getElem? (l := fa) (i := 23) rfl)), He.noat_ok (c.fact (List.mem_of_getElem? (l := fa) (i := 24) rfl)), He.noat_ok (c.fact (List.mem_of_getElem? (l := fa) (i := 25) rfl)), He.noat_ok (c.fact (List.mem_of_getElem? (l := fa) (i := 26) rfl)), He.noat_ok (c.fact (List.mem_of_getElem? (l := fa) (i := 27) rfl)), He.noat_ok (c.fact (List.mem_of_getElem? (l := fa) (i := 28) rfl))⟩
  have Wi : Qp.WoIn K mg (He.ga K "World") := ⟨He.glo_ok X G (c.fact (List.mem_of_getElem? (l := fa) (i := 30) rfl)), He.cls_ok (c.fact (List.mem_of_getElem? (l := fa) (i := 31) rfl)), He.noat_ok (c.fact (List.mem_of_getElem? (l := fa) (i := 32) rfl)), He.noat_ok (c.fact (List.mem_of_getElem? (l := fa) (i := 33) rfl)), He.noat_ok (c.fact (List.mem_of_getElem? (l := fa) (i := 34) rfl))⟩
  obtain ⟨_, xS, aS, _, FS⟩ := c.mt 65 (C := "State") (m := "__init__") (q := "State.__init__") (st := Qp.st 0)
  obtain ⟨_, xW, aW, _, FW⟩ := c.mt 70 (C := "World") (m := "__init__") (q := "World.__init__") (st := Qp.wo 0)
  refine ⟨{ B := ⟨(He.free_ok X G (c.fact (List.mem_of_getElem? (l := fa) (i := 0) rfl))), (He.free_ok X G (c.fact (List.mem_of_getElem? (l := fa) (i := 1) rfl))), (He.free_ok X G (c.fact (List.mem_of_getElem? (l := fa) (i := 2) rfl))), (He.free_ok X G (c.fact (List.mem_of_getElem? (l := fa) (i := 3) rfl))), (He.free_ok X G (c.fact (List.mem_of_getElem? (l := fa) (i := 4) rfl))), (He.free_ok X G (c.fact (List.mem_of_getElem? (l := fa) (i := 5) rfl))), (He.free_ok X G (c.fact (List.mem_of_getElem? (l := fa) (i := 6) rfl))), (He.free_ok X G (c.fact (List.mem_of_getElem? (l := fa) (i := 7) rfl)))⟩, mE := (He.free_ok X G (c.fact (List.mem_of_getElem? (l := fa) (i := 8) rfl))), mA := (He.free_ok X G (c.fact (List.mem_of_getElem? (l := fa) (i := 9) rfl))), mZ := (He.free_ok X G (c.fact (List.mem_of_getElem? (l := fa) (i := 10) rfl))), tL := tL, mL := mL, tK := tK, mK := mK, tR := tR, mR := mR, tT := tT, mT := mT, C := He.ga K "Thing", CS := He.ga K "State", CW := He.ga K "World", dP := He.ga K "PARTS", dA := He.ga K "ACTIONS", dF := He.ga K "AT_FIRST", eP := eP, eA := eA, eF := eF, nP := nP, nA := nA, nF := nF, T := T, KK := kdB_ok b2, S := S, fS := _, xS := xS, MS := ⟨b4, aS.at_, aS.fn, He.keep_ok (c.fact (List.mem_of_getElem? (l := fa) (i := 29) rfl))⟩, FS := FS, W := Wi, fW := _, xW := xW, MW := ⟨b5, aW.at_, aW.fn, He.keep_ok (c.fact (List.mem_of_getElem? (l := fa) (i := 35) rfl))⟩, FW := FW, mDo := c.mt 71, mIt := c.mt 72, mCo := c.mt 73, mP := He.glo_ok X G (c.fact (List.mem_of_getElem? (l := fa) (i := 36) rfl)), DP := DP, mAc := He.glo_ok X G (c.fact (List.mem_of_getElem? (l := fa) (i := 37) rfl)), DA := DA, mF := He.glo_ok X G (c.fact (List.mem_of_getElem? (l := fa) (i := 38) rfl)), FK := Qh.first_ok DF b7 }, rfl, rfl, rfl, rfl, rfl, ?_, ?_⟩
  · exact ⟨pt_of DP b8 0, pt_of DP b8 1, pt_of DP b8 2, pt_of DP b8 3, pt_of DP b8 4, pt_of DP b8 5, pt_of DP b8 6, pt_of DP b8 7, pt_of DP b8 8, pt_of DP b8 9, pt_of DP b8 10, pt_of DP b8 11, pt_of DP b8 12, pt_of DP b8 13, pt_of DP b8 14, pt_of DP b9 0, pt_of DP b9 1, pt_of DP b9 2, pt_of DP b9 3, pt_of DP b9 4, pt_of DP b9 5, pt_of DP b9 6, pt_of DP b9 7, pt_of DP b9 8, pt_of DP b9 9, pt_of DP b9 10, pt_of DP b9 11, pt_of DP b9 12, pt_of DP b9 13, pt_of DP b9 14⟩
  · exact ⟨ac_of DA b10 c 0 22, ac_of DA b10 c 1 28, ac_of DA b10 c 2 29, ac_of DA b10 c 3 30, ac_of DA b10 c 4 31, ac_of DA b10 c 5 32, ac_of DA b10 c 6 33, ac_of DA b10 c 7 34, ac_of DA b10 c 8 35, ac_of DA b10 c 9 36, ac_of DA b10 c 10 37, ac_of DA b10 c 11 38, ac_of DA b10 c 12 39, ac_of DA b10 c 13 40, ac_of DA b10 c 14 41, ac_of DA b11 c 0 42, ac_of DA b11 c 1 43, ac_of DA b11 c 2 44, ac_of DA b11 c 3 23, ac_of DA b11 c 4 45, ac_of DA b11 c 5 46, ac_of DA b11 c 6 47, ac_of DA b11 c 7 48, ac_of DA b11 c 8 45, ac_of DA b11 c 9 49, ac_of DA b11 c 10 50, ac_of DA b11 c 11 45, ac_of DA b11 c 12 51, ac_of DA b11 c 13 52, ac_of DA b11 c 14 53⟩
end
theorem law_of {P : Program} {w : World} {K : PySem.W.Frag} {h : Heap} {mg : Str → Option Value} {f : Addr} (X : K.In h) (G : h.Ns mainGlobals mg) (hfa : mg ("law" : Str) = some (.ref f)) (c : SaysQ fa fn ts ex w K) :
    ∃ fd : FuncData, (∀ (s : Shared) (v : Value), BindsTo s fd ⟨[v], []⟩ [("script", v)]) ∧ ∀ base : Heap, FnOk P w K mg base CX0 13 f fd ["script"] (Qp.spLaw K) := by
  obtain ⟨R, e1, e2, e3, e4, e5, PI, AI⟩ := of X G c
  have m := c.more
  obtain ⟨bx, m⟩ := He.ba m
  have b6 := (He.ba (He.ba (He.ba (He.ba (He.ba (He.ba m).2).2).2).2).2).1
  have b1 := (He.ba m).1
  obtain ⟨x1, F1⟩ := c.glo 0 (x := "_law_pool") (st := Qp.sPool) X G
  obtain ⟨x2, F2⟩ := c.glo 1 (x := "_law_draw") (st := Qp.sDraw) X G
  obtain ⟨x3, F3⟩ := c.glo 2 (x := "_law_names") (st := Qp.sLNames) X G
  obtain ⟨x4, F4⟩ := c.glo 3 (x := "_law_same") (st := Qp.sSame) X G
  obtain ⟨x5, F5⟩ := c.glo 4 (x := "is_int") (st := Qp.sIsInt) X G
  obtain ⟨x6, F6⟩ := c.glo 5 (x := "is_name") (st := Qp.sIsName) X G
  obtain ⟨x7, F7⟩ := c.glo 6 (x := "check_names") (st := Qp.sNames) X G
  obtain ⟨x8, F8⟩ := c.glo 7 (x := "check_unlike") (st := Qp.sUnlike) X G
  obtain ⟨x9, F9⟩ := c.glo 8 (x := "is_deed") (st := Qp.sIsDeed) X G
  obtain ⟨x10, F10⟩ := c.glo 9 (x := "_is_part") (st := Qp.sIsPart) X G
  obtain ⟨x11, F11⟩ := c.glo 10 (x := "is_length") (st := Qp.sIsLength) X G
  obtain ⟨x12, F12⟩ := c.glo 11 (x := "check_deed") (st := Qp.sCheckDeed) X G
  obtain ⟨x13, F13⟩ := c.glo 12 (x := "done") (st := Qp.sDone) X G
  obtain ⟨x14, F14⟩ := c.glo 13 (x := "_check_fields") (st := Qp.sFields) X G
  obtain ⟨x15, F15⟩ := c.glo 14 (x := "_law_wide_things") (st := Qp.sWide) X G
  obtain ⟨x16, F16⟩ := c.glo 15 (x := "_law_table_of") (st := Qp.sTableOf) X G
  obtain ⟨x17, F17⟩ := c.glo 16 (x := "_law_thing") (st := Qp.sThing) X G
  obtain ⟨x18, F18⟩ := c.glo 17 (x := "_law_thing_of") (st := Qp.sThingOf) X G
  obtain ⟨x19, F19⟩ := c.glo 18 (x := "_law_world_of") (st := Qp.sWorldOf) X G
  obtain ⟨x20, F20⟩ := c.glo 19 (x := "_law_word") (st := Qp.sWord) X G
  obtain ⟨x21, F21⟩ := c.glo 20 (x := "_law_any_deed") (st := Qp.sAnyDeed) X G
  obtain ⟨x22, F22⟩ := c.glo 21 (x := "_law_looks") (st := Qp.sLooks) X G
  obtain ⟨x23, F23⟩ := c.glo 22 (x := "_take") (st := Qp.sTake) X G
  obtain ⟨x24, F24⟩ := c.glo 23 (x := "_look") (st := Qp.sLook) X G
  obtain ⟨x25, F25⟩ := c.glo 24 (x := "_law_pair") (st := Qp.sPair) X G
  obtain ⟨x26, F26⟩ := c.glo 25 (x := "quiet_twin") (st := Qp.sQuiet) X G
  obtain ⟨x27, F27⟩ := c.glo 26 (x := "leaves_trace") (st := Qp.sTrace) X G
  obtain ⟨x28, F28⟩ := c.glo 27 (x := "thing_of") (st := Qp.sThOf) X G
  obtain ⟨fd, FL⟩ := c.glo 54 (x := "law") (st := Qp.sLaw) X G
  have e := hfa.symm.trans FL.m
  cases e
  obtain ⟨oc, od, kV, doc, pm, an, cdv, ct, osl, rfl, lk, hcd⟩ := FL.F.ex
  refine ⟨_, fun s v => .of_eq rfl, fun base => Qp.ok_law_ne FL.F ?_⟩
  refine Qp.law16_of base R F1 F2 F3 F4 F5 F6 F7 F8 F9 F10 F11 F12 F13 F14 F15 F16 F17 F18 F19 F20 F21 F22 F23 F24 F25 F26 F27 F28 (He.free_ok X G (c.fact (List.mem_of_getElem? (l := fa) (i := 11) rfl))) (by rw [e2]; exact c.mt 66) (by rw [e2]; exact c.mt 67) ?_ ?_ PI AI (He.glo_ok X G (c.fact (List.mem_of_getElem? (l := fa) (i := 39) rfl))) (quiet_ok (c.tab 3) (He.ba bx).1) (by rw [e2]; exact clB_ok (He.ba (He.ba bx).2).1 b1) (by rw [e3]; exact clB_ok (He.ba (He.ba bx).2).2 b1)
  · rw [e2]; exact ⟨c.mt 68, c.mt 69⟩
  · rw [e3]; exact ⟨c.mt 74, c.mt 75, c.mt 76, b6⟩
end Hd
namespace Hd
open PySem PySem.Calls PySem.W PyProof.Rows
abbrev R : OpenRow := OpenLaw.row PySem.Challenge.rw_quietprobes_k16_whole_looks_without_a_tr
abbrev qv : Program := view R.prog [81]
def n0 : List PySem.Str := [(PySem.Str.ofString "_wall"), (PySem.Str.ofString "QUIET_WORDS"), (PySem.Str.ofString "leaves_trace"), (PySem.Str.ofString "quiet_twin"), (PySem.Str.ofString "thing_of"), (PySem.Str.ofString "QuietError"), (PySem.Str.ofString "BadName"), (PySem.Str.ofString "BadDeed"), (PySem.Str.ofString "NoThing"), (PySem.Str.ofString "NoKey"), (PySem.Str.ofString "Twice"), (PySem.Str.ofString "TooMany"), (PySem.Str.ofString "LONGEST_NAME"), (PySem.Str.ofString "is_int"), (PySem.Str.ofString "is_name"), (PySem.Str.ofString "check_names"), (PySem.Str.ofString "check_unlike"), (PySem.Str.ofString "MOST_KEYS"), (PySem.Str.ofString "Thing"), (PySem.Str.ofString "LONGEST_ROW"), (PySem.Str.ofString "PARTS"), (PySem.Str.ofString "is_deed"), (PySem.Str.ofString "_is_part"), (PySem.Str.ofString "is_length"), (PySem.Str.ofString "check_deed"), (PySem.Str.ofString "AT_FIRST"), (PySem.Str.ofString "State"), (PySem.Str.ofString "_take"), (PySem.Str.ofString "_skip"), (PySem.Str.ofString "_drain"), (PySem.Str.ofString "_fetch"), (PySem.Str.ofString "_bind"), (PySem.Str.ofString "_roll"), (PySem.Str.ofString "_seed"), (PySem.Str.ofString "_get")]
def n1 : List PySem.Str := [(PySem.Str.ofString "_peek"), (PySem.Str.ofString "_has"), (PySem.Str.ofString "_put"), (PySem.Str.ofString "_fill"), (PySem.Str.ofString "_drop"), (PySem.Str.ofString "_size"), (PySem.Str.ofString "_keys"), (PySem.Str.ofString "_load"), (PySem.Str.ofString "_wipe"), (PySem.Str.ofString "_change"), (PySem.Str.ofString "_look"), (PySem.Str.ofString "_renew"), (PySem.Str.ofString "_lift"), (PySem.Str.ofString "_read"), (PySem.Str.ofString "_keep"), (PySem.Str.ofString "_copy"), (PySem.Str.ofString "_bound"), (PySem.Str.ofString "_mark"), (PySem.Str.ofString "_value"), (PySem.Str.ofString "_spy"), (PySem.Str.ofString "ACTIONS"), (PySem.Str.ofString "done"), (PySem.Str.ofString "MOST_THINGS"), (PySem.Str.ofString "World"), (PySem.Str.ofString "_check_fields"), (PySem.Str.ofString "_law_same"), (PySem.Str.ofString "_law_pool"), (PySem.Str.ofString "_law_draw"), (PySem.Str.ofString "_law_names"), (PySem.Str.ofString "_law_wide_things"), (PySem.Str.ofString "_law_table_of"), (PySem.Str.ofString "_law_thing"), (PySem.Str.ofString "_law_thing_of"), (PySem.Str.ofString "_law_world_of"), (PySem.Str.ofString "_law_word")]
def n2 : List PySem.Str := [(PySem.Str.ofString "_law_any_deed"), (PySem.Str.ofString "_law_looks"), (PySem.Str.ofString "_law_pair")]
def names : List PySem.Str := n0 ++ (n1 ++ (n2))
abbrev hk : PySem.W.Hook := Qh.hookQ 5 fa fn ts ex
def ob (s : PySem.W.SharedT) : Qh.AlQ := Qh.obsQG 5 fa fn ts ex (HandSHeadRun.getT s)
theorem ob_eq (s : PySem.W.SharedT) : ob s = hk.obs s.abs := Qh.obsQG_eq (HandSHeadRun.getT_eq s)
theorem run0 (w : World) : HandSHeadRun.RunEq R qv hk ob 9000 names (w.withFollow "special-get-raises" false) := by
  intro os
  kernel_rfl
theorem run1 (w : World) : HandSHeadRun.RunEq R qv hk ob 9000 names (w.withFollow "special-get-raises" true) := by
  intro os
  kernel_rfl
theorem run (w : World) : HandSHeadRun.RunEq R qv hk ob 9000 names w := byRow2 "special-get-raises" (P := fun w => HandSHeadRun.RunEq R qv hk ob 9000 names w) run0 run1 w
end Hd
end Qp
open PySem PySem.Calls PySem.W PyProof.Rows
set_option maxRecDepth 90000 in
set_option maxHeartbeats 0 in
theorem PySem.Challenge.cw_quietprobes_k16_whole_looks_without_a_tr_holds : PySem.Challenge.rw_quietprobes_k16_whole_looks_without_a_tr.Holds := by
  w_on; o_law
  refine HandSHeadRun.head_any (r := OpenLaw.row PySem.Challenge.rw_quietprobes_k16_whole_looks_without_a_tr) (q := view (OpenLaw.row PySem.Challenge.rw_quietprobes_k16_whole_looks_without_a_tr).prog [81]) (H := Qp.Hd.hk) (ob := Qp.Hd.ob) (M := 9000) (loose := Qp.Hd.names) (d := HandSHeadRun.topDef (OpenLaw.row PySem.Challenge.rw_quietprobes_k16_whole_looks_without_a_tr).prog 81) (kwd := []) Qp.Hd.ob_eq
    (by kernel_rfl) (fun s => by kernel_rfl) Qp.Hd.run (by kernel_rfl) (by kernel_rfl) (by kernel_rfl) (by rfl) (by first | assumption | decide +kernel) (by decide +kernel) ⟨rfl, rfl, rfl, rfl, rfl, by decide +kernel⟩ ?hw ?hc
  case hw => w_witness2
  case hc =>
    refine L2.walk_ofE (l := PySem.Challenge.rw_quietprobes_k16_whole_looks_without_a_tr) (n := 63) (k := 13) (x := "script") (CX := L2.CX0) rfl (by decide) (by kernel_rfl) ⟨rfl, by decide, by decide⟩ ?F (fun _ _ _ _ z => z)
    intro w mg fa h Y G hmg0
    obtain ⟨K, KX, c⟩ := Y
    have hmg : mg ("law" : PySem.Str) = some (.ref fa) := by
      have e : (HandSHeadRun.topDef (OpenLaw.row PySem.Challenge.rw_quietprobes_k16_whole_looks_without_a_tr).prog 81).name = ("law" : PySem.Str) := by kernel_rfl
      rw [← e]
      exact hmg0
    obtain ⟨fd, hb, hF⟩ := Qp.Hd.law_of (P := PySem.Challenge.rw_quietprobes_k16_whole_looks_without_a_tr.prog) (w := w) KX G hmg c
    exact ⟨K, fd, Qp.spLaw K, KX, hb, fun H a ns hl _ hS => ⟨a, ns, rfl, hS, hl, fun _ => rfl⟩, fun base _ _ => hF base⟩
