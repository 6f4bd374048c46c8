import PyProof.Rows.All
import Wide.All
import OpenK.AllK
import Wide.FinOn
import KE.KExcSuper
import KE.KExcIs
import KE.RegKSuper
import KE.GoesMore
import HandS.ForMost
import HandS.EndBits
import HandS.Wide
import HandS.Star
import HandS.IsInst
import HandS.Codes
import HandS.More
import HandS.StrMore
import HandS.ClsMeth
import HandS.SlotsOwn
import HandS.Steps
import HandS.Walk
import HandS.FStrTup
import HandS.FStr
import HandS.ExcInit
import HandS.ExcField
import HandS.ExcIs
import HandS.ExcOwn
import HandS.WordsExc
import HandS.DictComp
import HandS.CallLocal
import HandS.Zip
import HandS.Property
import HandS.MethStar
import HandS.ListItems
import HandS.SetKeys
import HandS.TupAny
import HandS.Defaults
import HandS.Style
import KE.KDictPairs
import KE.KItemsList
import PyProof.TupleCall
import PySem.Challenge.RW_quietprobes_k09_entries_of_tables
set_option Elab.async false
set_option maxRecDepth 100000
set_option maxHeartbeats 4000000
set_option linter.all false
namespace Qp
open PySem L2
def top (i : Nat) : Stmt := PySem.Challenge.pw_quietprobes_k09_entries_of_tables.main.body.getD i (.Pass ⟨0, 0, 0, 0⟩)
abbrev sIsInt : Stmt := top 11
abbrev sIsName : Stmt := top 12
abbrev sNames : Stmt := top 13
abbrev sUnlike : Stmt := top 14
abbrev sCls : Stmt := top 17
abbrev sIsDeed : Stmt := top 21
abbrev sIsPart : Stmt := top 22
abbrev sIsLength : Stmt := top 23
abbrev sCheckDeed : Stmt := top 24
abbrev sState : Stmt := top 27
abbrev sDone : Stmt := top 57
abbrev sWorld : Stmt := top 60
abbrev sFields : Stmt := top 61
abbrev sGet : Stmt := top 35
abbrev sPeek : Stmt := top 36
abbrev sHas : Stmt := top 37
abbrev sPut : Stmt := top 38
abbrev sFill : Stmt := top 39
abbrev sDrop : Stmt := top 40
abbrev sSize : Stmt := top 41
abbrev sKeys : Stmt := top 42
abbrev sLoad : Stmt := top 43
abbrev sWipe : Stmt := top 44
abbrev sChange : Stmt := top 45
abbrev sSpy : Stmt := top 55
abbrev sPool : Stmt := top 63
abbrev sDraw : Stmt := top 64
abbrev sLNames : Stmt := top 65
abbrev sTableOf : Stmt := top 66
abbrev sSame : Stmt := top 67
abbrev sWord : Stmt := top 68
abbrev sAnyDeed : Stmt := top 69
abbrev sEntry : Stmt := top 70
abbrev sStep : Stmt := top 71
abbrev sLaw : Stmt := top 72
abbrev me (i : Nat) : Stmt := (C8.clsBody sCls).getD i (.Pass ⟨0, 0, 0, 0⟩)
abbrev st (i : Nat) : Stmt := (C8.clsBody sState).getD i (.Pass ⟨0, 0, 0, 0⟩)
abbrev wo (i : Nat) : Stmt := (C8.clsBody sWorld).getD i (.Pass ⟨0, 0, 0, 0⟩)
/-! ### the pool of drawn numbers -/
/-- all objects but the two of the pool stay -/
def Keeps (p q : Addr) (H H' : Hp) : Prop := ∀ x o, x ≠ p → x ≠ q → H x = some o → H' x = some o
theorem Keeps.refl (p q : Addr) (H : Hp) : Keeps p q H H := fun _ _ _ _ e => e
theorem Keeps.trans {p q : Addr} {H H1 H2 : Hp} (a : Keeps p q H H1) (b : Keeps p q H1 H2) : Keeps p q H H2 := fun x o h1 h2 e => b x o h1 h2 (a x o h1 h2 e)
theorem Keeps.of_same {p q : Addr} {H H1 : Hp} (a : Same H H1) : Keeps p q H H1 := fun x o _ _ e => a x o e
theorem Keeps.upd_p {p q : Addr} {H : Hp} {o : HO} : Keeps p q H (upd H p o) := fun x u h1 _ e => by
  rw [upd_ne h1]; exact e
theorem Keeps.upd_q {p q : Addr} {H : Hp} {o : HO} : Keeps p q H (upd H q o) := fun x u _ h2 e => by
  rw [upd_ne h2]; exact e
theorem Keeps.upd_new {p q a : Addr} {H : Hp} {o : HO} (n : H a = none) : Keeps p q H (upd H a o) := fun x u _ _ e => by
  rw [upd_ne (ne_of_none e n)]; exact e
theorem Keeps.free {p q a : Addr} {H H1 : Hp} (k : Keeps p q H H1) (n : H1 a = none) (hp : a ≠ p) (hq : a ≠ q) : H a = none := by
  cases e : H a with
  | none => rfl
  | some o => rw [k a o hp hq e] at n; cases n
/-- the pool's two lists: how many numbers were drawn is n -/
structure PoolAt (H : Hp) (p q : Addr) (n : Nat) : Prop where
  ne : p ≠ q
  ex : ∃ (cs : List Int) (b c : Int), H p = some (.lst [.ref q, .int b, .int (n : Int), .int c]) ∧ H q = some (.lst (cs.map V.int)) ∧ cs.length ≤ 1000 ∧ 0 ≤ b ∧ 0 ≤ c ∧ c < 2147483629
theorem PoolAt.p_some {H : Hp} {p q : Addr} {n : Nat} (h : PoolAt H p q n) : ∃ o, H p = some o := let ⟨_, _, _, e, _⟩ := h.ex; ⟨_, e⟩
theorem PoolAt.q_some {H : Hp} {p q : Addr} {n : Nat} (h : PoolAt H p q n) : ∃ o, H q = some o := let ⟨_, _, _, _, e, _⟩ := h.ex; ⟨_, e⟩
theorem PoolAt.same {H H' : Hp} {p q : Addr} {n : Nat} (h : PoolAt H p q n) (s : Same H H') : PoolAt H' p q n := by
  obtain ⟨ne, cs, b, c, e1, e2, r⟩ := h
  exact ⟨ne, cs, b, c, s _ _ e1, s _ _ e2, r⟩
theorem PoolAt.new {H : Hp} {p q a : Addr} {n : Nat} {o : HO} (h : PoolAt H p q n) (na : H a = none) : PoolAt (upd H a o) p q n :=
  h.same fun x u e => by rw [upd_ne (ne_of_none e na)]; exact e
section
variable {X : Cx}
theorem get_list : PGet X (rIxL X.K) := by
  intro pins s σ H o i ov iv Q I ro ri h
  obtain ⟨p, xs, k, z, rfl, rfl, hq, he, q⟩ := h
  cases ro
  obtain ⟨t, rfl⟩ := ri
  obtain ⟨its, r, pl, hz⟩ := I.list hq
  obtain ⟨j, h1, h2, h3, h4, h5⟩ := atI_get he
  obtain ⟨w, ew, rw'⟩ := r.get h2
  have hl := r.length
  have hn := line63
  have fin : EP X pins σ Q w s := ⟨z, H, I, rw', q⟩
  by_cases h0 : 0 ≤ k
  · have hj : k.toNat = j := by
      rw [seqIndex_of h0 h5] at h1
      exact Option.some.inj h1
    exact wpAny_getItem_list pl.isList h0 (by omega) (by rw [hj]; simpa using ew) fin
  · have hj : (k + (its.toArray.size : Int)).toNat = j := by
      rw [seqIndex_neg (by omega) h4] at h1
      rw [List.size_toArray, ← hl]
      exact Option.some.inj h1
    exact wpAny_getItem_list_neg pl.isList (by omega) (by rw [List.size_toArray] <;> omega) (by omega) (by rw [hj]; simpa using ew) fin
end
theorem div_many {b m : Int} (h0 : 0 < m) (h1 : m ≤ 10 ^ 40) : CDivW b m := by
  refine wide_div (b := 200) h0 ?_ (by decide) (by decide)
  have h : m.natAbs ≤ 10 ^ 40 := by omega
  exact Nat.lt_of_le_of_lt h (by decide)
def spDraw : Sp := fun vs H Q _ => ∃ (p q : Addr) (n : Nat) (m : Int), vs = [.ref p, .int m] ∧ PoolAt H p q n ∧ n < 1000000 ∧ 0 < m ∧ m ≤ 10 ^ 40 ∧
  ∀ (d : Int) (H' : Hp), 0 ≤ d → d < m → PoolAt H' p q (n + 1) → Keeps p q H H' → Q (.int d) H'
section
variable {P : Program} {w : World} {K : PySem.W.Frag} {mg : Str → Option Value} {base : Heap}
theorem scD : FnScope ["pool", "many", "cell", "code", "digit", "far", "mixed"] ["pool", "many"] (defScope sDraw) := ⟨rfl, rfl, rfl, by decide +kernel, rfl, by decide +kernel, by decide +kernel⟩
theorem ok_draw {f : Addr} {fd : FuncData} {k : Nat} (F : Fun K "_law_draw" "_law_draw" sDraw f fd) (mi : mg "int" = none) : FnOk P w K mg base CX0 (k + 1) f fd ["pool", "many"] spDraw := by
  refine F.ok scD (fun vs H Q E h => ?_) (fun cdv A outer s H vs Q E hr h => ?_)
  · obtain ⟨p, q, n, m, rfl, _⟩ := h
    rfl
  · obtain ⟨p, q, n, m, rfl, ⟨npq, cs, b, c, hp, hq, hcs, hb, hc0, hc1⟩, hn, hm0, hm1, kk⟩ := h
    refine ⟨_,
      pss_cons (ps_augS (pv 0) pe_int get_list pe_int ip_add set_list)
      (C8.pss_cut (ps_if (PW.pt (pw_and (pt_cmpR op_eq (pe_ix ix_list (pv 0) pe_int (fun _ _ => rfl)) pe_int (nomark _)) (pw_and1 (pt_truth (pe_ix ix_list (pv 0) pe_int (fun _ _ => rfl)) (by intro _; rfl)))))
        (pss_cons (ps_set (i := 2) scD.nd rfl (.inl rfl) (pe_callTy call_int1 (by rfl) mi (by decide +kernel) (pa_cons (pe_bm PySem.F.plainAttrs_list PySem.F.slot_list_pop PySem.F.type_list_pop mt_popAt (pe_ix ix_list (pv 0) pe_int (fun _ _ => rfl)) (pa_cons pe_int pa_nil)) pa_nil)))
        (C8.pss_cut (ps_set (i := 3) scD.nd rfl (.inl rfl) (pe_ifExp (pt_cmpR op_ge (pv 2) pe_int (nomark _)) (pe_op op_mul pe_int (pv 2)) (pe_op op_sub (pe_un un_neg pe_int) (pe_op op_mul pe_int (pv 2)))))
        (pss_one (ps_if (pt_cmpR op_ge (pv 3) (pe_op op_pow pe_int pe_int) (nomark _))
          (pss_one (ps_asg (pv 3) (pg_sub (pv 0) pe_int set_list)))
          (pss_one (ps_asg (pe_op op_mod (pe_callTy call_int1 (by rfl) mi (by decide +kernel) (pa_cons (pe_op op_add (pe_op op_add (pe_op op_mul (pe_ix ix_list (pv 0) pe_int (fun _ _ => rfl)) pe_int) (pe_op op_mul (pv 3) pe_int)) pe_int) pa_nil)) pe_int) (pg_sub (pv 0) pe_int set_list)))))))
        pss_nil)
      (pss_cons (ps_if (pt_cmpR op_gt (pe_ix ix_list (pv 0) pe_int (fun _ _ => rfl)) pe_int (nomark _))
        (pss_cons (ps_set (i := 4) scD.nd rfl (.inl rfl) (pe_op op_mod (pe_callTy call_int1 (by rfl) mi (by decide +kernel) (pa_cons (pe_ix ix_list (pv 0) pe_int (fun _ _ => rfl)) pa_nil)) (pv 1)))
        (pss_cons (ps_asg (pe_op op_fdivW (pe_ix ix_list (pv 0) pe_int (fun _ _ => rfl)) (pv 1)) (pg_sub (pv 0) pe_int set_list))
        (pss_one (ps_ret (pv 4)))))
        pss_nil)
      (pss_cons (ps_if (pt_cmpR op_eq (pe_ix ix_list (pv 0) pe_int (fun _ _ => rfl)) pe_int (nomark _)) (pss_one (ps_ret pe_int)) pss_nil)
      (pss_cons (ps_set (i := 5) scD.nd rfl (.inl rfl) (pe_op op_add (pe_op op_mul (pe_ix ix_list (pv 0) pe_int (fun _ _ => rfl)) pe_int) (pe_op op_mul (pe_op op_mul (pe_ix ix_list (pv 0) pe_int (fun _ _ => rfl)) (pe_ix ix_list (pv 0) pe_int (fun _ _ => rfl))) pe_int)))
      (pss_cons (ps_set (i := 6) scD.nd rfl (.inl rfl) (pe_op op_mod (pe_callTy call_int1 (by rfl) mi (by decide +kernel) (pa_cons (pe_op op_add (pe_op op_mul (pe_ix ix_list (pv 0) pe_int (fun _ _ => rfl)) pe_int) (pv 5)) pa_nil)) pe_int))
      (pss_one (ps_ret (pe_op op_mod (pe_op op_mod (pe_callTy call_int1 (by rfl) mi (by decide +kernel) (pa_cons (pe_op op_fdiv (pe_op op_mul (pv 6) pe_int) pe_int) pa_nil)) pe_int) (pv 1))))))))), ?_⟩
    -- pool[2] += 1
    have g : ∀ {H : Hp} {x y z t : V}, H p = some (.lst [x, y, z, t]) → SqL K H p [x, y, z, t] := fun e => SqL.of e
    refine ⟨_, rfl, p, _, 2, _, rfl, rfl, g hp, atI_nat (j := 2) rfl, n, 1, rfl, rfl, p, _, 2, 2, rfl, rfl, hp, rfl, ?_⟩
    have K1 : Keeps p q H (upd H p (.lst [.ref q, .int b, .int ((n : Int) + 1), .int c])) := Keeps.upd_p
    have hp1 : (upd H p (.lst [.ref q, .int b, .int ((n : Int) + 1), .int c])) p = some (.lst [.ref q, .int b, .int ((n : Int) + 1), .int c]) := upd_same
    have hq1 : (upd H p (.lst [.ref q, .int b, .int ((n : Int) + 1), .int c])) q = some (.lst (cs.map V.int)) := by rw [upd_ne npq.symm]; exact hq
    refine ⟨fun σ H1 => ∃ (cs b c : _) (y2 y3 : Option V), σ = [some (.ref p), some (.int m), y2, y3, none, none, none] ∧ Keeps p q H H1 ∧
      H1 p = some (.lst [.ref q, .int b, .int ((n : Int) + 1), .int c]) ∧ H1 q = some (.lst (List.map V.int cs)) ∧ cs.length ≤ 1000 ∧ 0 ≤ b ∧ 0 ≤ c ∧ c < 2147483629, ?_, ?_⟩
    · -- if pool[1] == 0 and pool[0]
      refine ⟨_, rfl, p, _, 1, _, rfl, rfl, g hp1, atI_nat (j := 1) rfl, rfl, _, rfl, ?_⟩
      refine ite2 (fun _ => ?_) (fun _ => ?_)
      · refine ⟨_, rfl, p, _, 0, _, rfl, rfl, g hp1, atI_nat (j := 0) rfl, _, .inl ⟨_, SqL.of hq1, rfl⟩, ?_⟩
        cases cs with
        | nil =>
          refine iteF ?_
          exact ⟨[], b, c, none, none, rfl, K1, hp1, hq1, Nat.zero_le _, hb, hc0, hc1⟩
        | cons z r =>
          refine iteT ?_
          -- cell = int(pool[0].pop(0))
          refine ⟨_, rfl, p, _, 0, _, rfl, rfl, g hp1, atI_nat (j := 0) rfl, .inl ⟨rfl, _, SqL.of hq1⟩, q, _, 0, 0, _, rfl, rfl, hq1, by decide, by decide, seqIndex_of (by decide) (by simp), rfl, ?_⟩
          have hq2 : (upd (upd H p (.lst [.ref q, .int b, .int ((n : Int) + 1), .int c])) q (.lst (r.map V.int))) q = some (.lst (r.map V.int)) := upd_same
          have hp2 : (upd (upd H p (.lst [.ref q, .int b, .int ((n : Int) + 1), .int c])) q (.lst (r.map V.int))) p = some (.lst [.ref q, .int b, .int ((n : Int) + 1), .int c]) := by
            rw [upd_ne npq, hp1]
          have K2 : Keeps p q H (upd (upd H p (.lst [.ref q, .int b, .int ((n : Int) + 1), .int c])) q (.lst (r.map V.int))) := K1.trans .upd_q
          refine .inl ⟨z, rfl, ?_⟩
          have hr1 : r.length ≤ 1000 := Nat.le_of_succ_le hcs
          -- code
          refine ⟨fun σ H1 => ∃ code : Int, σ = [some (.ref p), some (.int m), some (.int z), some (.int code), none, none, none] ∧ 0 ≤ code ∧ H1 = upd (upd H p (.lst [.ref q, .int b, .int ((n : Int) + 1), .int c])) q (.lst (r.map V.int)), ?_, ?_⟩
          · refine ⟨_, rfl, _, _, rfl, rfl, _, rfl, ?_⟩
            refine ite2 (fun hz => ?_) (fun hz => ?_)
            · have hz' : 0 ≤ z := of_decide_eq_true hz
              exact ⟨_, rfl, _, _, rfl, rfl, .inl (by decide), 2 * z, rfl, by omega, rfl⟩
            · have hz' : ¬ 0 ≤ z := fun e => hz (decide_eq_true e)
              exact ⟨_, rfl, _, rfl, _, _, rfl, rfl, .inl (by decide), _, _, rfl, rfl, -1 - 2 * z, rfl, by omega, rfl⟩
          · rintro σ H1 ⟨code, rfl, hcode, rfl⟩
            refine ⟨_, rfl, _, _, rfl, rfl, ⟨by decide, by decide, by decide⟩, _, _, rfl, rfl, _, rfl, ?_⟩
            refine ite2 (fun hz => ?_) (fun hz => ?_)
            · refine ⟨_, rfl, _, rfl, p, _, 1, 1, rfl, rfl, hp2, rfl, ?_⟩
              exact ⟨r, code, c, _, _, rfl, K2.trans .upd_p, upd_same, by rw [upd_ne npq.symm]; exact hq2, hr1, hcode, hc0, hc1⟩
            · have hz' : ¬ ((10 : Int) ^ (18 : Int).toNat ≤ code) := fun e => hz (decide_eq_true e)
              refine ⟨_, rfl, p, _, 3, _, rfl, rfl, g hp2, atI_nat (j := 3) rfl, _, _, rfl, rfl, .inl ⟨by omega, by omega⟩, _, rfl, _, _, rfl, rfl, .inr (by decide), _, _, rfl, rfl, _, _, rfl, rfl, .inl ⟨_, rfl, _, _, rfl, rfl, (by show (0 : Int) < 2147483629; decide), _, rfl, p, _, 3, 3, rfl, rfl, hp2, rfl, ?_⟩⟩
              refine ⟨r, b, _, _, _, rfl, K2.trans .upd_p, upd_same, by rw [upd_ne npq.symm]; exact hq2, hr1, hb, Int.emod_nonneg _ (by decide), Int.emod_lt_of_pos _ (by decide)⟩
      · exact ⟨cs, b, c, none, none, rfl, K1, hp1, hq1, hcs, hb, hc0, hc1⟩
    · rintro σ H1 ⟨cs, b, c, y2, y3, rfl, K1, hp1, hq1, hcs, hb, hc0, hc1⟩
      have en : ((n : Int) + 1) = ((n + 1 : Nat) : Int) := by omega
      rw [en] at hp1
      -- if pool[1] > 0
      refine ⟨_, rfl, p, _, 1, _, rfl, rfl, g hp1, atI_nat (j := 1) rfl, _, _, rfl, rfl, _, rfl, ?_⟩
      refine ite2 (fun h1 => ?_) (fun h1 => ?_)
      · have hdm : (0 : Int) < m := hm0
        refine ⟨_, rfl, p, _, 1, _, rfl, rfl, g hp1, atI_nat (j := 1) rfl, .inl ⟨_, rfl, _, rfl, _, _, rfl, rfl, hm0, ?_⟩⟩
        refine ⟨_, rfl, p, _, 1, _, rfl, rfl, g hp1, atI_nat (j := 1) rfl, _, rfl, _, _, rfl, rfl, div_many hm0 hm1, ?_⟩
        refine ⟨_, rfl, p, _, 1, 1, rfl, rfl, hp1, rfl, ?_⟩
        refine ⟨_, rfl, ?_⟩
        exact kk _ _ (Int.emod_nonneg _ (by omega)) (Int.emod_lt_of_pos _ hm0) ⟨npq, cs, b / m, c, upd_same, by rw [upd_ne npq.symm]; exact hq1, hcs, Int.ediv_nonneg hb (by omega), hc0, hc1⟩ (K1.trans .upd_p)
      · -- if pool[3] == 0
        refine ⟨_, rfl, p, _, 3, _, rfl, rfl, g hp1, atI_nat (j := 3) rfl, rfl, _, rfl, ?_⟩
        refine ite2 (fun h3 => ?_) (fun h3 => ?_)
        · exact kk 0 _ (by decide) hm0 ⟨npq, cs, b, c, hp1, hq1, hcs, hb, hc0, hc1⟩ K1
        · refine ⟨_, rfl, p, _, 2, _, rfl, rfl, g hp1, atI_nat (j := 2) rfl, _, _, rfl, rfl, .inr (by decide), _, rfl, p, _, 2, _, rfl, rfl, g hp1, atI_nat (j := 2) rfl, _, rfl, p, _, 2, _, rfl, rfl, g hp1, atI_nat (j := 2) rfl, _, _, rfl, rfl, .inl ⟨by omega, by omega⟩, _, _, rfl, rfl, .inr (by decide), _, _, rfl, rfl, ?_⟩
          refine ⟨_, rfl, p, _, 3, _, rfl, rfl, g hp1, atI_nat (j := 3) rfl, _, _, rfl, rfl, .inl ⟨by omega, by omega⟩, _, rfl, _, _, rfl, rfl, .inl ⟨_, rfl, _, _, rfl, rfl, (by show (0 : Int) < 2147483647; decide), ?_⟩⟩
          refine ⟨_, rfl, _, _, rfl, rfl, .inr (by decide), _, _, rfl, rfl, ⟨by decide, by decide⟩, .inl ⟨_, rfl, _, _, rfl, rfl, (by show (0 : Int) < 2147483629; decide), _, rfl, _, _, rfl, rfl, hm0, ?_⟩⟩
          exact kk _ _ (Int.emod_nonneg _ (by omega)) (Int.emod_lt_of_pos _ hm0) ⟨npq, cs, b, c, hp1, hq1, hcs, hb, hc0, hc1⟩ K1
end
/-! ### the pool made, a word drawn -/
theorem cut_take (xs : List V) (k : Nat) : cutV xs none (some (k : Int)) = xs.take k := by
  unfold cutV
  rw [HT.sIx_nat, HT.sIx_none]
  show (xs.drop 0).take (min k xs.length - 0) = xs.take k
  rw [List.drop_zero, Nat.sub_zero]
  by_cases h : k ≤ xs.length
  · rw [Nat.min_eq_left h]
  · rw [Nat.min_eq_right (by omega), List.take_of_length_le (Nat.le_refl _), List.take_of_length_le (by omega)]
def spPool (K : PySem.W.Frag) : Sp := fun vs H Q _ => ∃ (a : Addr) (ns : List Int), vs = [.ref a] ∧ SqL K H a (ns.map V.int) ∧ ns.length ≤ 63 ∧ ∀ (p q : Addr) (H' : Hp), H p = none → H q = none → PoolAt H' p q 0 → Same H H' → Q (.ref p) H'
/-- one to eight letters -/
def IsWord (z : Str) : Prop := 1 ≤ z.length ∧ z.length ≤ 8 ∧ ∀ c ∈ z.cps.toList, 97 ≤ c ∧ c ≤ 122
def spWord : Sp := fun vs H Q _ => ∃ (p q : Addr) (n : Nat), vs = [.ref p] ∧ PoolAt H p q n ∧ n < 900000 ∧
  ∀ (z : Str) (n' : Nat) (H' : Hp), IsWord z → n ≤ n' → n' ≤ n + 9 → PoolAt H' p q n' → Keeps p q H H' → Q (.str z) H'
theorem sum_ones : ∀ ys : List Str, (∀ y ∈ ys, y.length = 1) → (ys.map (·.length)).sum = ys.length
  | [], _ => rfl
  | x :: r, h => by
    rw [List.map_cons, List.sum_cons, h x List.mem_cons_self, sum_ones r fun y hy => h y (List.mem_cons_of_mem _ hy), List.length_cons]
    omega
theorem join_letters {sep : Str} (hs : sep.cps.toList = []) : ∀ ys : List Str, (∀ y ∈ ys, ∃ c, y = ⟨#[c]⟩ ∧ 97 ≤ c ∧ c ≤ 122) → (Str.join sep ys).length = ys.length ∧ ∀ c ∈ (Str.join sep ys).cps.toList, 97 ≤ c ∧ c ≤ 122
  | [], _ => ⟨rfl, fun c h => by cases h⟩
  | [x], h => by
    obtain ⟨c, rfl, h1, h2⟩ := h x List.mem_cons_self
    exact ⟨rfl, fun d hd => by
      have e : d = c := List.mem_singleton.mp hd
      rw [e]; exact ⟨h1, h2⟩⟩
  | x :: y :: r, h => by
    obtain ⟨c, rfl, h1, h2⟩ := h x List.mem_cons_self
    obtain ⟨i1, i2⟩ := join_letters hs (y :: r) fun z hz => h z (List.mem_cons_of_mem _ hz)
    have sl : sep.length = 0 := by
      show sep.cps.size = 0
      rw [← Array.length_toList, hs]; rfl
    have e : (Str.join sep ((⟨#[c]⟩ : Str) :: y :: r)) = (⟨#[c]⟩ : Str) ++ sep ++ Str.join sep (y :: r) := rfl
    rw [e]
    refine ⟨?_, fun d hd => ?_⟩
    · rw [strLen_append, strLen_append, i1, sl]
      show 1 + 0 + (y :: r).length = _
      simp only [List.length_cons]; omega
    · rcases PyProof.Rows.mem_cps_append.mp hd with hd | hd
      · rcases PyProof.Rows.mem_cps_append.mp hd with hd | hd
        · have e : d = c := List.mem_singleton.mp hd
          rw [e]; exact ⟨h1, h2⟩
        · rw [hs] at hd; cases hd
      · exact i2 d hd
def abc : Str := "abcdefghijklmnopqrstuvwxyz"
theorem abc_len : abc.length = 26 := by decide +kernel
theorem abc_at (d : Int) (h0 : 0 ≤ d) (h1 : d < 26) : ∃ c, atI abc.cps.toList d = some c ∧ 97 ≤ c ∧ c ≤ 122 := by
  obtain ⟨k, rfl⟩ : ∃ k : Nat, d = (k : Int) := ⟨d.toNat, by omega⟩
  have hk : k < 26 := by omega
  have all : ∀ k : Fin 26, ∃ c, abc.cps.toList[k.val]? = some c ∧ 97 ≤ c ∧ c ≤ 122 := by
    have h : ∀ k : Fin 26, (match abc.cps.toList[k.val]? with | some c => decide (97 ≤ c ∧ c ≤ 122) | none => false) = true := by decide +kernel
    intro k
    have := h k
    cases e : abc.cps.toList[k.val]? with
    | none => rw [e] at this; cases this
    | some c =>
      rw [e] at this
      exact ⟨c, rfl, of_decide_eq_true this⟩
  obtain ⟨c, e, r⟩ := all ⟨k, hk⟩
  exact ⟨c, atI_nat e, r⟩
section
variable {P : Program} {w : World} {K : PySem.W.Frag} {mg : Str → Option Value} {base : Heap}
theorem scP : FnScope ["script"] ["script"] (defScope sPool) := ⟨rfl, rfl, rfl, by decide +kernel, rfl, by decide +kernel, by decide +kernel⟩
theorem ok_pool {f : Addr} {fd : FuncData} {k : Nat} (F : Fun K "_law_pool" "_law_pool" sPool f fd) (ml : mg "list" = none) : FnOk P w K mg base CX0 (k + 1) f fd ["script"] (spPool K) := by
  refine F.ok scP (fun vs H Q E h => ?_) (fun cdv A outer s H vs Q E hr h => ?_)
  · obtain ⟨a, ns, rfl, _⟩ := h
    rfl
  · obtain ⟨a, ns, rfl, hS, hl, kk⟩ := h
    refine ⟨_, pss_one (ps_ret (pe_lst (pa_cons (pe_callTy call_list_of (by rfl) ml (by decide +kernel) (pa_cons (pe_slice sl_list (pv 0) po_none (po_some pe_int)) pa_nil)) (pa_cons pe_int (pa_cons pe_int (pa_cons pe_int pa_nil)))))), ?_⟩
    refine ⟨.ref a, rfl, 63, rfl, a, _, rfl, hS, fun c nc => ?_⟩
    have e : cutV (ns.map V.int) none (some 63) = (ns.take 63).map V.int := by
      rw [List.map_take]; exact cut_take _ 63
    rw [e]
    refine ⟨c, _, rfl, .inl (SqL.of upd_same), fun q nq => ?_⟩
    refine ⟨by show 4 ≤ sizeLine; decide, fun p np => ?_⟩
    have hc : (upd H c (.lst ((ns.take 63).map V.int))) c = some (.lst ((ns.take 63).map V.int)) := upd_same
    have s1 : Same H (upd H c (.lst ((ns.take 63).map V.int))) := fun b o z => by rw [upd_ne (ne_of_none z nc)]; exact z
    have s2 : Same (upd H c (.lst ((ns.take 63).map V.int))) (upd (upd H c (.lst ((ns.take 63).map V.int))) q (.lst ((ns.take 63).map V.int))) := fun b o z => by rw [upd_ne (ne_of_none z nq)]; exact z
    have hq : (upd (upd H c (.lst ((ns.take 63).map V.int))) q (.lst ((ns.take 63).map V.int))) q = some (.lst ((ns.take 63).map V.int)) := upd_same
    have s3 := fun o => (fun b u z => by rw [upd_ne (ne_of_none z np)]; exact z : Same (upd (upd H c (.lst ((ns.take 63).map V.int))) q (.lst ((ns.take 63).map V.int))) (upd _ p o))
    refine kk p q _ ((s1.trans s2).free np) (s1.free nq) ⟨(ne_of_none hq np).symm, ns.take 63, 0, 0, upd_same, s3 _ _ _ hq, by rw [List.length_take]; omega, by decide, by decide, by decide⟩ ((s1.trans s2).trans (s3 _))
end
/-! ### two data are the same -/
/-- no deeper than that -/
def dp : Nat → PyData → Prop
  | 0, _ => False
  | _ + 1, .none => True
  | _ + 1, .bool _ => True
  | _ + 1, .int _ => True
  | _ + 1, .str _ => True
  | m + 1, .list xs => xs.length ≤ 1000000 ∧ ∀ x ∈ xs, dp m x
  | m + 1, .tuple xs => xs.length ≤ 1000000 ∧ ∀ x ∈ xs, dp m x
  | _ + 1, .dict _ => False
theorem dp_mono : ∀ {m n : Nat} {d : PyData}, m ≤ n → dp m d → dp n d
  | 0, _, _, _, h => by simp [dp] at h
  | m + 1, 0, _, h, _ => by omega
  | m + 1, n + 1, d, h, hd => by
    cases d with
    | none => simp [dp]
    | bool b => simp [dp]
    | int i => simp [dp]
    | str s => simp [dp]
    | list xs =>
      simp only [dp] at hd ⊢
      exact ⟨hd.1, fun x hx => dp_mono (Nat.le_of_succ_le_succ h) (hd.2 x hx)⟩
    | tuple xs =>
      simp only [dp] at hd ⊢
      exact ⟨hd.1, fun x hx => dp_mono (Nat.le_of_succ_le_succ h) (hd.2 x hx)⟩
    | dict xs => simp [dp] at hd
def tyName : PyData → String
  | .none => "NoneType"
  | .bool _ => "bool"
  | .int _ => "int"
  | .str _ => "str"
  | .list _ => "list"
  | .tuple _ => "tuple"
  | .dict _ => "dict"
theorem ty_of {K : PySem.W.Frag} {H : Hp} {v : V} {d : PyData} (h : Dp K H v d) : TyX K H v (.type (tyName d)) := by
  cases h with
  | non => exact .base .non
  | bl b => exact .base (.bl b)
  | int i => exact .base (.int i)
  | str x => exact .base (.str x)
  | lst hs _ =>
    rcases hs with (h | ⟨o, h⟩) | ⟨o, its, n, hk, hc, _⟩
    · exact .base (.lst h)
    · exact .base (.frz h)
    · exact .kList hk hc
  | tup hs _ =>
    rcases hs with (h | ⟨o, h⟩) | ⟨o, its, n, hk, hc, _⟩
    · exact .base (.tup h)
    · exact .fTuple h
    · exact .kTuple hk hc
theorem isi {K : PySem.W.Frag} {H : Hp} {v : V} {d : PyData} {T : String} {b : Bool} {Q : VK} (h : Dp K H v d) (e : kitB (tyName d) T = some b) (q : Q (.bl b) H) : rIsi K [v, .ty T] H Q :=
  ⟨v, .ty T, _, _, b, rfl, ClsV.ty T, ty_of h, kit_ty e, q⟩
theorem dpAll_len {K : PySem.W.Frag} {H : Hp} : ∀ {vs : List V} {ds : List PyData}, DpAll K H vs ds → vs.length = ds.length
  | _, _, .nil => rfl
  | _, _, .cons _ t => by rw [List.length_cons, List.length_cons, dpAll_len t]
theorem dpAll_get {K : PySem.W.Frag} {H : Hp} : ∀ {vs : List V} {ds : List PyData} {i : Nat} {d : PyData}, DpAll K H vs ds → ds[i]? = some d → ∃ v, vs[i]? = some v ∧ Dp K H v d
  | _, _, _, _, .nil, e => by simp at e
  | _, _, 0, _, .cons h _, e => by
    have e' := Option.some.inj e
    subst e'
    exact ⟨_, rfl, h⟩
  | _, _, i + 1, _, .cons _ t, e => dpAll_get (i := i) t e
def spSame (K : PySem.W.Frag) (m : Nat) : Sp := fun vs H Q _ => ∃ (v u : V) (d : PyData), vs = [v, u] ∧ Dp K H v d ∧ Dp K H u d ∧ dp m d ∧ Q (.bl true) H
/-- what the names of classes and of len, range stand for -/
structure Bts (mg : Str → Option Value) : Prop where
  isinstance : mg "isinstance" = none
  bool : mg "bool" = none
  str : mg "str" = none
  int : mg "int" = none
  list : mg "list" = none
  tuple : mg "tuple" = none
  len : mg "len" = none
  range : mg "range" = none
section
variable {P : Program} {w : World} {K : PySem.W.Frag} {mg : Str → Option Value} {base : Heap}
theorem fn_never {f : Addr} {fd : FuncData} {ps : List Str} : FnOk P w K mg base CX0 0 f fd ps (fun _ _ _ _ => False) :=
  ⟨fun _ _ _ _ h => h.elim, fun _ _ _ _ _ _ _ _ _ _ _ _ _ h => h.elim⟩
theorem scS : FnScope ["actual", "due", "k"] ["actual", "due"] (defScope sSame) := ⟨rfl, rfl, rfl, by decide +kernel, rfl, by decide +kernel, by decide +kernel⟩
theorem ok_same {f : Addr} {fd : FuncData} (F : Fun K "_law_same" "_law_same" sSame f fd) (B : Bts mg) (mS : mg "_law_same" = some (.ref f)) (bS : Binds K fd ["actual", "due"] []) : ∀ m : Nat, FnOk P w K mg base CX0 m f fd ["actual", "due"] (spSame K m)
  | 0 => fn_never.imp fun vs H Q E h => by
    obtain ⟨v, u, d, _, _, _, h, _⟩ := h
    simp [dp] at h
  | m + 1 => by
    have IH := ok_same F B mS bS m
    refine F.ok scS (fun vs H Q E h => ?_) (fun cdv A outer s H vs Q E hr h => ?_)
    · obtain ⟨v, u, d, rfl, _⟩ := h
      rfl
    · obtain ⟨v, u, d, rfl, hv, hu, hd, kk⟩ := h
      refine ⟨_,
        pss_cons (ps_if (pt_cmpR op_isN (pv 1) pe_non (nomark _)) (pss_one (ps_ret (pe_cmp (pc_isN (pv 0)) rfl))) pss_nil)
        (pss_cons (ps_if (PW.pt (pw_or (pt_val (pe_callB call_isi (by rfl) B.isinstance (by decide +kernel) (pa_cons (pv 1) (pa_cons (pe_bltn (v := .ty "bool") (by rfl) B.bool (by decide +kernel) rfl) pa_nil))))
              (pw_or1 (pt_val (pe_callB call_isi (by rfl) B.isinstance (by decide +kernel) (pa_cons (pv 1) (pa_cons (pe_bltn (v := .ty "str") (by rfl) B.str (by decide +kernel) rfl) pa_nil)))))))
            (pss_cons (ps_if (PW.pt (pw_or
                (pt_cmpR op_ne (pe_callB call_isi (by rfl) B.isinstance (by decide +kernel) (pa_cons (pv 0) (pa_cons (pe_bltn (v := .ty "bool") (by rfl) B.bool (by decide +kernel) rfl) pa_nil)))
                  (pe_callB call_isi (by rfl) B.isinstance (by decide +kernel) (pa_cons (pv 1) (pa_cons (pe_bltn (v := .ty "bool") (by rfl) B.bool (by decide +kernel) rfl) pa_nil))) (nomark _))
                (pw_or1 (pt_cmpR op_ne (pe_callB call_isi (by rfl) B.isinstance (by decide +kernel) (pa_cons (pv 0) (pa_cons (pe_bltn (v := .ty "str") (by rfl) B.str (by decide +kernel) rfl) pa_nil)))
                  (pe_callB call_isi (by rfl) B.isinstance (by decide +kernel) (pa_cons (pv 1) (pa_cons (pe_bltn (v := .ty "str") (by rfl) B.str (by decide +kernel) rfl) pa_nil))) (nomark _)))))
                (pss_one (ps_ret pe_bl)) pss_nil)
              (pss_one (ps_ret (pe_cmpR op_eq (pv 0) (pv 1) (nomark _)))))
            pss_nil)
        (pss_cons (ps_if (pt_val (pe_callB call_isi (by rfl) B.isinstance (by decide +kernel) (pa_cons (pv 1) (pa_cons (pe_bltn (v := .ty "int") (by rfl) B.int (by decide +kernel) rfl) pa_nil))))
            (pss_one (ps_ret (pe_and (pe_callB call_isi (by rfl) B.isinstance (by decide +kernel) (pa_cons (pv 0) (pa_cons (pe_bltn (v := .ty "int") (by rfl) B.int (by decide +kernel) rfl) pa_nil)))
              (pe_and (pe_not (pe_callB call_isi (by rfl) B.isinstance (by decide +kernel) (pa_cons (pv 0) (pa_cons (pe_bltn (v := .ty "bool") (by rfl) B.bool (by decide +kernel) rfl) pa_nil))))
                (pe_one (pe_cmpR op_eq (pv 0) (pv 1) (nomark _)))))))
            pss_nil)
        (pss_cons (ps_if (PW.pt (pw_and (pt_val (pe_callB call_isi (by rfl) B.isinstance (by decide +kernel) (pa_cons (pv 1) (pa_cons (pe_bltn (v := .ty "list") (by rfl) B.list (by decide +kernel) rfl) pa_nil))))
              (pw_and1 (pt_not (pt_val (pe_callB call_isi (by rfl) B.isinstance (by decide +kernel) (pa_cons (pv 0) (pa_cons (pe_bltn (v := .ty "list") (by rfl) B.list (by decide +kernel) rfl) pa_nil))))))))
            (pss_one (ps_ret pe_bl)) pss_nil)
        (pss_cons (ps_if (PW.pt (pw_and (pt_val (pe_callB call_isi (by rfl) B.isinstance (by decide +kernel) (pa_cons (pv 1) (pa_cons (pe_bltn (v := .ty "tuple") (by rfl) B.tuple (by decide +kernel) rfl) pa_nil))))
              (pw_and1 (pt_not (pt_val (pe_callB call_isi (by rfl) B.isinstance (by decide +kernel) (pa_cons (pv 0) (pa_cons (pe_bltn (v := .ty "tuple") (by rfl) B.tuple (by decide +kernel) rfl) pa_nil))))))))
            (pss_one (ps_ret pe_bl)) pss_nil)
        (pss_cons (ps_if (pt_cmpR op_ne (pe_callB call_len_seq (by rfl) B.len PySem.boot_len (pa_cons (pv 0) pa_nil)) (pe_callB call_len_seq (by rfl) B.len PySem.boot_len (pa_cons (pv 1) pa_nil)) (nomark _)) (pss_one (ps_ret pe_bl)) pss_nil)
        (pss_cons (ps_for PassesOwn.never rfl (pi_range1 rfl B.range (pa_cons (pe_callB call_len_seq (by rfl) B.len PySem.boot_len (pa_cons (pv 1) pa_nil)) pa_nil)) (pg_name (i := 2) scS.nd rfl (.inl rfl))
            (pss_one (ps_if (pt_not (pt_val (pe_call IH hr (by rfl) mS F.kp bS .nil pass0 (pa_cons (pe_ix ix_seq (pv 0) (pv 2) (fun _ _ => rfl)) (pa_cons (pe_ix ix_seq (pv 1) (pv 2) (fun _ _ => rfl)) pa_nil))))) (pss_one (ps_ret pe_bl)) pss_nil)))
        (pss_one (ps_ret pe_bl)))))))), ?_⟩
      cases d with
      | none =>
        cases hu; cases hv
        exact ⟨_, rfl, rfl, _, rfl, iteT ⟨_, rfl, kk⟩⟩
      | bool b =>
        cases hu; cases hv
        refine ⟨_, rfl, rfl, _, rfl, iteF ?_⟩
        refine ⟨_, rfl, _, _, _, _, true, rfl, .ty _, TyX.base (TyOf.bl b), kit_ty (by decide +kernel), _, rfl, iteT (iteT ?_)⟩
        refine ⟨_, rfl, _, _, _, _, true, rfl, .ty _, TyX.base (TyOf.bl b), kit_ty (by decide +kernel), _, rfl, _, _, _, _, true, rfl, .ty _, TyX.base (TyOf.bl b), kit_ty (by decide +kernel), rfl, _, rfl, ?_⟩
        refine iteF ⟨_, rfl, _, _, _, _, false, rfl, .ty _, TyX.base (TyOf.bl b), kit_ty (by decide +kernel), _, rfl, _, _, _, _, false, rfl, .ty _, TyX.base (TyOf.bl b), kit_ty (by decide +kernel), rfl, _, rfl, ?_⟩
        refine iteF ⟨_, rfl, _, rfl, rfl, ?_⟩
        rw [decide_eq_true rfl]
        exact kk
      | str x =>
        cases hu; cases hv
        refine ⟨_, rfl, rfl, _, rfl, iteF ?_⟩
        refine ⟨_, rfl, _, _, _, _, false, rfl, .ty _, TyX.base (TyOf.str x), kit_ty (by decide +kernel), _, rfl, iteF ?_⟩
        refine ⟨_, rfl, _, _, _, _, true, rfl, .ty _, TyX.base (TyOf.str x), kit_ty (by decide +kernel), _, rfl, iteT ?_⟩
        refine ⟨_, rfl, _, _, _, _, false, rfl, .ty _, TyX.base (TyOf.str x), kit_ty (by decide +kernel), _, rfl, _, _, _, _, false, rfl, .ty _, TyX.base (TyOf.str x), kit_ty (by decide +kernel), rfl, _, rfl, ?_⟩
        refine iteF ⟨_, rfl, _, _, _, _, true, rfl, .ty _, TyX.base (TyOf.str x), kit_ty (by decide +kernel), _, rfl, _, _, _, _, true, rfl, .ty _, TyX.base (TyOf.str x), kit_ty (by decide +kernel), rfl, _, rfl, ?_⟩
        refine iteF ⟨_, rfl, _, rfl, rfl, ?_⟩
        rw [decide_eq_true rfl]
        exact kk
      | int i =>
        cases hu; cases hv
        refine ⟨_, rfl, rfl, _, rfl, iteF ?_⟩
        refine ⟨_, rfl, _, _, _, _, false, rfl, .ty _, TyX.base (TyOf.int i), kit_ty (by decide +kernel), _, rfl, iteF ?_⟩
        refine ⟨_, rfl, _, _, _, _, false, rfl, .ty _, TyX.base (TyOf.int i), kit_ty (by decide +kernel), _, rfl, iteF ?_⟩
        refine ⟨_, rfl, _, _, _, _, true, rfl, .ty _, TyX.base (TyOf.int i), kit_ty (by decide +kernel), _, rfl, iteT ?_⟩
        refine ⟨_, rfl, _, _, _, _, true, rfl, .ty _, TyX.base (TyOf.int i), kit_ty (by decide +kernel), _, rfl, iteT ?_⟩
        refine ⟨_, rfl, _, _, _, _, false, rfl, .ty _, TyX.base (TyOf.int i), kit_ty (by decide +kernel), _, rfl, _, rfl, iteT ?_⟩
        refine ⟨_, rfl, _, rfl, rfl, ?_⟩
        rw [decide_eq_true rfl]
        exact kk
      | list ds =>
        obtain ⟨a2, xs2, rfl, hs2, ha2⟩ : ∃ a xs, u = .ref a ∧ SqL K H a xs ∧ DpAll K H xs ds := by
          cases hu with
          | lst h1 h2 => exact ⟨_, _, rfl, h1, h2⟩
        obtain ⟨a1, xs1, rfl, hs1, ha1⟩ : ∃ a xs, v = .ref a ∧ SqL K H a xs ∧ DpAll K H xs ds := by
          cases hv with
          | lst h1 h2 => exact ⟨_, _, rfl, h1, h2⟩
        have tyU : TyX K H (.ref a2) (.type "list") := ty_of (.lst hs2 ha2)
        have tyV : TyX K H (.ref a1) (.type "list") := ty_of (.lst hs1 ha1)
        have e1 := dpAll_len ha1
        have e2 := dpAll_len ha2
        refine ⟨_, rfl, rfl, _, rfl, iteF ?_⟩
        refine ⟨_, rfl, _, _, _, _, false, rfl, .ty _, tyU, kit_ty (by decide +kernel), _, rfl, iteF ?_⟩
        refine ⟨_, rfl, _, _, _, _, false, rfl, .ty _, tyU, kit_ty (by decide +kernel), _, rfl, iteF ?_⟩
        refine ⟨_, rfl, _, _, _, _, false, rfl, .ty _, tyU, kit_ty (by decide +kernel), _, rfl, iteF ?_⟩
        refine ⟨_, rfl, _, _, _, _, true, rfl, .ty _, tyU, kit_ty (by decide +kernel), _, rfl, iteT ?_⟩
        refine ⟨_, rfl, _, _, _, _, true, rfl, .ty _, tyV, kit_ty (by decide +kernel), _, rfl, iteF ?_⟩
        refine ⟨_, rfl, _, _, _, _, false, rfl, .ty _, tyU, kit_ty (by decide +kernel), _, rfl, iteF (iteF ?_)⟩
        refine ⟨_, rfl, a1, xs1, rfl, .inl hs1, _, rfl, a2, xs2, rfl, .inl hs2, rfl, _, rfl, iteNS (by rw [e1, e2]) ?_⟩
        simp only [dp] at hd
        have hz2 : (xs2.length : Int) < 2 ^ 62 := by have := hd.1; omega
        refine ⟨_, rfl, a2, xs2, rfl, .inl hs2, _, rfl, (by omega), hz2, ?_⟩
        refine for_range (lo := 0) (n := (xs2.length : Int).toNat) (fun i σ H2 => ∃ y, σ = [some (.ref a1), some (.ref a2), y] ∧ H2 = H) ⟨none, rfl, rfl⟩ ?_ ?_
        · rintro i σ H2 hi ⟨y, rfl, rfl⟩
          have hi2 : i < ds.length := by omega
          obtain ⟨x1, g1, d1⟩ := dpAll_get ha1 (List.getElem?_eq_getElem hi2)
          obtain ⟨x2, g2, d2⟩ := dpAll_get ha2 (List.getElem?_eq_getElem hi2)
          have ei : (0 : Int) + (i : Int) = ((i : Nat) : Int) := by omega
          rw [ei]
          refine ⟨_, rfl, _, rfl, .inl ⟨_, _, _, _, rfl, rfl, hs1, atI_nat g1, _, rfl, _, rfl, .inl ⟨_, _, _, _, rfl, rfl, hs2, atI_nat g2, ?_⟩⟩⟩
          refine ⟨x1, x2, _, rfl, d1, d2, hd.2 _ (List.getElem_mem hi2), _, rfl, iteF ?_⟩
          exact ⟨_, rfl, rfl⟩
        · rintro σ H2 ⟨y, rfl, rfl⟩
          exact kk
      | tuple ds =>
        obtain ⟨a2, xs2, rfl, hs2, ha2⟩ : ∃ a xs, u = .ref a ∧ SqT K H a xs ∧ DpAll K H xs ds := by
          cases hu with
          | tup h1 h2 => exact ⟨_, _, rfl, h1, h2⟩
        obtain ⟨a1, xs1, rfl, hs1, ha1⟩ : ∃ a xs, v = .ref a ∧ SqT K H a xs ∧ DpAll K H xs ds := by
          cases hv with
          | tup h1 h2 => exact ⟨_, _, rfl, h1, h2⟩
        have tyU : TyX K H (.ref a2) (.type "tuple") := ty_of (.tup hs2 ha2)
        have tyV : TyX K H (.ref a1) (.type "tuple") := ty_of (.tup hs1 ha1)
        have e1 := dpAll_len ha1
        have e2 := dpAll_len ha2
        refine ⟨_, rfl, rfl, _, rfl, iteF ?_⟩
        refine ⟨_, rfl, _, _, _, _, false, rfl, .ty _, tyU, kit_ty (by decide +kernel), _, rfl, iteF ?_⟩
        refine ⟨_, rfl, _, _, _, _, false, rfl, .ty _, tyU, kit_ty (by decide +kernel), _, rfl, iteF ?_⟩
        refine ⟨_, rfl, _, _, _, _, false, rfl, .ty _, tyU, kit_ty (by decide +kernel), _, rfl, iteF ?_⟩
        refine ⟨_, rfl, _, _, _, _, false, rfl, .ty _, tyU, kit_ty (by decide +kernel), _, rfl, iteF (iteF ?_)⟩
        refine ⟨_, rfl, _, _, _, _, true, rfl, .ty _, tyU, kit_ty (by decide +kernel), _, rfl, iteT ?_⟩
        refine ⟨_, rfl, _, _, _, _, true, rfl, .ty _, tyV, kit_ty (by decide +kernel), _, rfl, iteF ?_⟩
        refine ⟨_, rfl, a1, xs1, rfl, .inr hs1, _, rfl, a2, xs2, rfl, .inr hs2, rfl, _, rfl, iteNS (by rw [e1, e2]) ?_⟩
        simp only [dp] at hd
        have hz2 : (xs2.length : Int) < 2 ^ 62 := by have := hd.1; omega
        refine ⟨_, rfl, a2, xs2, rfl, .inr hs2, _, rfl, (by omega), hz2, ?_⟩
        refine for_range (lo := 0) (n := (xs2.length : Int).toNat) (fun i σ H2 => ∃ y, σ = [some (.ref a1), some (.ref a2), y] ∧ H2 = H) ⟨none, rfl, rfl⟩ ?_ ?_
        · rintro i σ H2 hi ⟨y, rfl, rfl⟩
          have hi2 : i < ds.length := by omega
          obtain ⟨x1, g1, d1⟩ := dpAll_get ha1 (List.getElem?_eq_getElem hi2)
          obtain ⟨x2, g2, d2⟩ := dpAll_get ha2 (List.getElem?_eq_getElem hi2)
          have ei : (0 : Int) + (i : Int) = ((i : Nat) : Int) := by omega
          rw [ei]
          refine ⟨_, rfl, _, rfl, .inr (.inl ⟨_, _, _, _, rfl, rfl, hs1, atI_nat g1, _, rfl, _, rfl, .inr (.inl ⟨_, _, _, _, rfl, rfl, hs2, atI_nat g2, ?_⟩)⟩)⟩
          refine ⟨x1, x2, _, rfl, d1, d2, hd.2 _ (List.getElem_mem hi2), _, rfl, iteF ?_⟩
          exact ⟨_, rfl, rfl⟩
        · rintro σ H2 ⟨y, rfl, rfl⟩
          exact kk
      | dict ds => simp [dp] at hd
end
/-! ### data in the heap, and displays of data -/
theorem Same.seqT {K : PySem.W.Frag} {H H' : Hp} {a : Addr} {xs : List V} (e : Same H H') (h : SqT K H a xs) : SqT K H' a xs := by
  rcases h with h1 | h3
  · rcases h1 with h1 | h2
    · exact .inl (.inl (e _ _ h1))
    · obtain ⟨o, h2⟩ := h2
      exact .inl (.inr ⟨o, e _ _ h2⟩)
  · exact .inr h3
mutual
theorem dp_same {K : PySem.W.Frag} {H H' : Hp} (s : Same H H') : ∀ (d : PyData) (v : V), Dp K H v d → Dp K H' v d
  | .none, _, h => by cases h; exact .non
  | .bool b, _, h => by cases h; exact .bl b
  | .int i, _, h => by cases h; exact .int i
  | .str x, _, h => by cases h; exact .str x
  | .list ds, _, h => by
    cases h with
    | lst h1 h2 => exact .lst (s.seq h1) (dpAll_same s ds _ h2)
  | .tuple ds, _, h => by
    cases h with
    | tup h1 h2 => exact .tup (Same.seqT s h1) (dpAll_same s ds _ h2)
  | .dict kvs, _, h => by cases h
theorem dpAll_same {K : PySem.W.Frag} {H H' : Hp} (s : Same H H') : ∀ (ds : List PyData) (vs : List V), DpAll K H vs ds → DpAll K H' vs ds
  | [], _, h => by cases h; exact .nil
  | d :: ds, _, h => by
    cases h with
    | cons h1 h2 => exact .cons (dp_same s d _ h1) (dpAll_same s ds _ h2)
end
theorem same_new {H : Hp} {p : Addr} {o : HO} (n : H p = none) : Same H (upd H p o) := fun b x e => by
  rw [upd_ne (ne_of_none e n)]; exact e
/-- the heap without some objects -/
def mask (l : List Addr) (H : Hp) : Hp := fun a => if a ∈ l then none else H a
theorem mask_in {l : List Addr} {H : Hp} {a : Addr} (h : a ∈ l) : mask l H a = none := if_pos h
theorem mask_out {l : List Addr} {H : Hp} {a : Addr} (h : a ∉ l) : mask l H a = H a := if_neg h
theorem mask_sub (l : List Addr) (H : Hp) : Same (mask l H) H := fun a o e => by
  by_cases h : a ∈ l
  · rw [mask_in h] at e; cases e
  · rw [mask_out h] at e; exact e
theorem mask_same {l : List Addr} {H H' : Hp} (s : Same H H') : Same (mask l H) (mask l H') := fun a o e => by
  by_cases h : a ∈ l
  · rw [mask_in h] at e; cases e
  · rw [mask_out h] at e ⊢; exact s a o e
theorem mask_nil (H : Hp) : mask [] H = H := rfl
/-- what stands in H is there -/
abbrev Alive (l : List Addr) (H : Hp) : Prop := ∀ a ∈ l, ∃ o, H a = some o
theorem Alive.same {l : List Addr} {H H' : Hp} (h : Alive l H) (s : Same H H') : Alive l H' := fun a m => let ⟨o, e⟩ := h a m; ⟨o, s a o e⟩
theorem Alive.not {l : List Addr} {H : Hp} {p : Addr} (h : Alive l H) (n : H p = none) : p ∉ l := fun m => by
  obtain ⟨o, e⟩ := h p m
  rw [n] at e; cases e
theorem alive_nil {H : Hp} : Alive [] H := fun _ m => nomatch m
theorem mask_upd {l : List Addr} {H : Hp} {p : Addr} {o : HO} (h : p ∉ l) : mask l (upd H p o) p = some o := by
  rw [mask_out h, upd_same]
theorem Keeps.mask {p q : Addr} {H H' : Hp} (k : Keeps p q H H') : Same (mask [p, q] H) (mask [p, q] H') := fun a o e => by
  by_cases h : a ∈ [p, q]
  · rw [mask_in h] at e; cases e
  · rw [mask_out h] at e ⊢
    refine k a o (fun z => h ?_) (fun z => h ?_) e
    · rw [z]; exact List.mem_cons_self
    · rw [z]; exact List.mem_cons_of_mem _ List.mem_cons_self
theorem PoolAt.alive {H : Hp} {p q : Addr} {n : Nat} (h : PoolAt H p q n) : Alive [p, q] H := fun a m => by
  rcases List.mem_cons.mp m with rfl | m
  · exact h.p_some
  · rw [List.mem_singleton.mp m]; exact h.q_some
/-- which data an expression gives; it stays so when objects are added -/
abbrev DS := St → Hp → PyData → Prop
abbrev DSs := St → Hp → List PyData → Prop
def tDat (K : PySem.W.Frag) (D : DS) : TE := fun σ H Q => ∃ (l : List Addr) (d : PyData), Alive l H ∧ D σ (mask l H) d ∧ ∀ v H', Same H H' → Dp K (mask l H') v d → Q v H'
def tDats (K : PySem.W.Frag) (D : DSs) : TA := fun σ H Q => ∃ (l : List Addr) (ds : List PyData), Alive l H ∧ D σ (mask l H) ds ∧ ∀ vs H', Same H H' → DpAll K (mask l H') vs ds → Q vs H'
structure DE (X : Cx) (e : Expr) (D : DS) : Prop where
  pe : PE X e (tDat X.K D)
  mono : ∀ σ H H' d, Same H H' → D σ H d → D σ H' d
structure DA (X : Cx) (es : List Expr) (D : DSs) : Prop where
  pa : PA X es (tDats X.K D)
  mono : ∀ σ H H' ds, Same H H' → D σ H ds → D σ H' ds
def dNil : DSs := fun _ _ ds => ds = []
def dCons (D : DS) (Ds : DSs) : DSs := fun σ H ds => ∃ d r, ds = d :: r ∧ D σ H d ∧ Ds σ H r
def dTup (Ds : DSs) : DS := fun σ H d => ∃ ds, d = .tuple ds ∧ ds.length ≤ 1000 ∧ Ds σ H ds
def dLst (Ds : DSs) : DS := fun σ H d => ∃ ds, d = .list ds ∧ ds.length ≤ 1000 ∧ Ds σ H ds
def dVar (K : PySem.W.Frag) (i : Nat) : DS := fun σ H d => ∃ v, σ[i]? = some (some v) ∧ Dp K H v d
def dIs (d0 : PyData) : DS := fun _ _ d => d = d0
section
variable {X : Cx} {e : Expr} {es : List Expr} {t : TE} {D : DS} {Ds : DSs} {pos : Pos}
theorem de_of (h : PE X e t) (w : ∀ σ H Q, tDat X.K D σ H Q → t σ H Q) (m : ∀ σ H H' d, Same H H' → D σ H d → D σ H' d) : DE X e D :=
  ⟨⟨fun pins s σ H Q I q => h.run pins s σ H Q I (w σ H Q q)⟩, m⟩
theorem de_str {x : Str} {j} : DE X (.Constant (.str x) j pos) (dIs (.str x)) :=
  de_of pe_str (fun _ H _ ⟨_, _, _, e, q⟩ => by cases e; exact q _ H (Same.refl H) (.str x)) fun _ _ _ _ _ h => h
theorem de_int {i : Int} {j} : DE X (.Constant (.int i) j pos) (dIs (.int i)) :=
  de_of pe_int (fun _ H _ ⟨_, _, _, e, q⟩ => by cases e; exact q _ H (Same.refl H) (.int i)) fun _ _ _ _ _ h => h
theorem de_bl {b : Bool} {j} : DE X (.Constant (.bool b) j pos) (dIs (.bool b)) :=
  de_of pe_bl (fun _ H _ ⟨_, _, _, e, q⟩ => by cases e; exact q _ H (Same.refl H) (.bl b)) fun _ _ _ _ _ h => h
theorem de_non {j} : DE X (.Constant .none j pos) (dIs .none) :=
  de_of pe_non (fun _ H _ ⟨_, _, _, e, q⟩ => by cases e; exact q _ H (Same.refl H) .non) fun _ _ _ _ _ h => h
theorem dv (i : Nat) {x : Str} (h : PE X (.Name x pos) (tVar i)) : DE X (.Name x pos) (dVar X.K i) :=
  de_of h (fun _ H _ ⟨_, _, _, ⟨v, e, hd⟩, q⟩ => ⟨v, e, q v H (Same.refl H) hd⟩) fun _ _ _ d s ⟨v, e, hd⟩ => ⟨v, e, dp_same s d v hd⟩
theorem da_nil : DA X [] dNil :=
  ⟨⟨fun pos pins s σ H Q I h => by
    obtain ⟨l, ds, _, e, q⟩ := h
    cases e
    exact pa_nil.run pos pins s σ H Q I (q [] H (Same.refl H) .nil)⟩, fun _ _ _ _ _ h => h⟩
theorem da_cons (h : DE X e D) (r : DA X es Ds) (hs : starEach (e :: es) X.env = (false, eval e X.env) :: starEach es X.env := by rfl) : DA X (e :: es) (dCons D Ds) :=
  ⟨⟨fun pos pins s σ H Q I hq => by
    obtain ⟨l, _, al, ⟨d, ds, rfl, h1, h2⟩, q⟩ := hq
    refine (pa_cons h.pe r.pa hs).run pos pins s σ H Q I ⟨l, d, al, h1, fun v H1 s1 hv => ⟨l, ds, al.same s1, r.mono _ _ _ _ (mask_same s1) h2, fun vs H2 s2 hvs => ?_⟩⟩
    exact q _ H2 (s1.trans s2) (.cons (dp_same (mask_same s2) d v hv) hvs)⟩,
   fun σ H H' ds s ⟨d, r', e, h1, h2⟩ => ⟨d, r', e, h.mono _ _ _ _ s h1, r.mono _ _ _ _ s h2⟩⟩
theorem len1000 {n : Nat} (h : n ≤ 1000) : n ≤ sizeLine := Nat.le_of_lt (small1000 h)
theorem de_tup {k} (h : DA X es Ds) : DE X (.Tuple es k pos) (dTup Ds) :=
  ⟨⟨fun pins s σ H Q I hq => by
    obtain ⟨l, _, al, ⟨ds, rfl, hl, h1⟩, q⟩ := hq
    refine (pe_tup h.pa).run pins s σ H Q I ⟨l, ds, al, h1, fun vs H1 s1 hv => ⟨by rw [dpAll_len hv]; exact len1000 hl, fun p np => ?_⟩⟩
    exact q _ _ (s1.trans (same_new np)) (.tup (SqT.of (mask_upd ((al.same s1).not np))) (dpAll_same (mask_same (same_new np)) _ _ hv))⟩,
   fun σ H H' d s ⟨ds, e, hl, h1⟩ => ⟨ds, e, hl, h.mono _ _ _ _ s h1⟩⟩
theorem de_lst (h : DA X es Ds) : DE X (.List es pos) (dLst Ds) :=
  ⟨⟨fun pins s σ H Q I hq => by
    obtain ⟨l, _, al, ⟨ds, rfl, hl, h1⟩, q⟩ := hq
    refine (pe_lst h.pa).run pins s σ H Q I ⟨l, ds, al, h1, fun vs H1 s1 hv => ⟨by rw [dpAll_len hv]; exact len1000 hl, fun p np => ?_⟩⟩
    exact q _ _ (s1.trans (same_new np)) (.lst (SqL.of (mask_upd ((al.same s1).not np))) (dpAll_same (mask_same (same_new np)) _ _ hv))⟩,
   fun σ H H' d s ⟨ds, e, hl, h1⟩ => ⟨ds, e, hl, h.mono _ _ _ _ s h1⟩⟩
end
theorem mask_new {l : List Addr} {H : Hp} {D : Addr} (n : H D = none) : Same (mask l H) (mask (D :: l) H) := fun a o e => by
  by_cases h : a ∈ D :: l
  · rcases List.mem_cons.mp h with rfl | h
    · have := mask_sub l H _ _ e
      rw [n] at this; cases this
    · rw [mask_in h] at e; cases e
  · rw [mask_out h]
    exact mask_sub l H _ _ e
theorem mask_less {l : List Addr} {H : Hp} {D : Addr} : Same (mask (D :: l) H) (mask l H) := fun a o e => by
  by_cases h : a ∈ D :: l
  · rw [mask_in h] at e; cases e
  · rw [mask_out h] at e
    rw [mask_out fun z => h (List.mem_cons_of_mem _ z)]
    exact e
theorem mask_at {l : List Addr} {H : Hp} {D : Addr} {o : HO} (m : D ∈ l) : Same (mask l H) (mask l (upd H D o)) := fun a u e => by
  by_cases h : a ∈ l
  · rw [mask_in h] at e; cases e
  · rw [mask_out h] at e ⊢
    rw [upd_ne fun z => h (by rw [z]; exact m)]
    exact e
theorem dpAll_app {K : PySem.W.Frag} {H : Hp} : ∀ {vs ws : List V} {ds es : List PyData}, DpAll K H vs ds → DpAll K H ws es → DpAll K H (vs ++ ws) (ds ++ es)
  | _, _, _, _, .nil, h => h
  | _, _, _, _, .cons h t, r => .cons h (dpAll_app t r)
theorem dpAll_drop {K : PySem.W.Frag} {H : Hp} : ∀ (n : Nat) {vs : List V} {ds : List PyData}, DpAll K H vs ds → DpAll K H (vs.drop n) (ds.drop n)
  | 0, _, _, h => h
  | n + 1, _, _, .nil => .nil
  | n + 1, _, _, .cons _ t => dpAll_drop n t
theorem dpAll_take {K : PySem.W.Frag} {H : Hp} : ∀ (n : Nat) {vs : List V} {ds : List PyData}, DpAll K H vs ds → DpAll K H (vs.take n) (ds.take n)
  | 0, _, _, _ => .nil
  | n + 1, _, _, .nil => .nil
  | n + 1, _, _, .cons h t => .cons h (dpAll_take n t)
theorem dpAll_at {K : PySem.W.Frag} {H : Hp} : ∀ {vs : List V} {ds : List PyData} {i : Nat} {v : V}, DpAll K H vs ds → vs[i]? = some v → ∃ d, ds[i]? = some d ∧ Dp K H v d
  | _, _, _, _, .nil, e => by simp at e
  | _, _, 0, _, .cons h _, e => by
    obtain rfl := Option.some.inj e
    exact ⟨_, rfl, h⟩
  | _, _, i + 1, _, .cons _ t, e => dpAll_at (i := i) t e
theorem dp_tup {K : PySem.W.Frag} {H : Hp} {v : V} {ds : List PyData} (h : Dp K H v (.tuple ds)) : ∃ a xs, v = .ref a ∧ SqT K H a xs ∧ DpAll K H xs ds := by
  cases h with
  | tup h1 h2 => exact ⟨_, _, rfl, h1, h2⟩
theorem dp_lst {K : PySem.W.Frag} {H : Hp} {v : V} {ds : List PyData} (h : Dp K H v (.list ds)) : ∃ a xs, v = .ref a ∧ SqL K H a xs ∧ DpAll K H xs ds := by
  cases h with
  | lst h1 h2 => exact ⟨_, _, rfl, h1, h2⟩
theorem dpAll_cons {K : PySem.W.Frag} {H : Hp} {vs : List V} {d : PyData} {ds : List PyData} (h : DpAll K H vs (d :: ds)) : ∃ v r, vs = v :: r ∧ Dp K H v d ∧ DpAll K H r ds := by
  cases h with
  | cons h1 h2 => exact ⟨_, _, rfl, h1, h2⟩
theorem dpAll_nil {K : PySem.W.Frag} {H : Hp} {vs : List V} (h : DpAll K H vs []) : vs = [] := by
  cases h; rfl
theorem dp_str {K : PySem.W.Frag} {H : Hp} {v : V} {x : Str} (h : Dp K H v (.str x)) : v = .str x := by
  cases h; rfl
theorem cut_tail {x : V} {r : List V} : cutV (x :: r) (some 1) none = r := by
  unfold cutV
  rw [show HT.sIx (x :: r).length 0 (some 1) = min 1 (x :: r).length from HT.sIx_nat _ 0 1, HT.sIx_none, List.length_cons, Nat.min_eq_left (by omega)]
  show List.take (r.length + 1 - 1) r = r
  rw [Nat.add_sub_cancel, List.take_length]
theorem cut_drop (xs : List V) (k : Nat) : cutV xs (some (k : Int)) none = xs.drop k := by
  unfold cutV
  rw [HT.sIx_nat, HT.sIx_none]
  by_cases h : k ≤ xs.length
  · rw [Nat.min_eq_left h]
    exact List.take_of_length_le (by rw [List.length_drop]; omega)
  · rw [Nat.min_eq_right (by omega), List.drop_of_length_le (Nat.le_refl _), List.drop_of_length_le (by omega)]; simp
theorem Keeps.maskL {p q : Addr} {l : List Addr} {H H' : Hp} (hp : p ∈ l) (hq : q ∈ l) (k : Keeps p q H H') : Same (Qp.mask l H) (Qp.mask l H') := fun a o e => by
  by_cases h : a ∈ l
  · rw [mask_in h] at e; cases e
  · rw [mask_out h] at e ⊢
    exact k a o (fun z => h (by rw [z]; exact hp)) (fun z => h (by rw [z]; exact hq)) e
theorem Keeps.alive {p q : Addr} {n : Nat} {l : List Addr} {H H' : Hp} (al : Alive l H) (k : Keeps p q H H') (P : PoolAt H' p q n) : Alive l H' := fun a m => by
  obtain ⟨o, e⟩ := al a m
  by_cases h1 : a = p
  · rw [h1]; exact P.p_some
  · by_cases h2 : a = q
    · rw [h2]; exact P.q_some
    · exact ⟨o, k a o h1 h2 e⟩
/-! ### rules over a given written part: within comprehensions -/
section
variable {X : Cx} {K : PySem.W.Frag}
theorem ixK {r : PySem.W.Frag → R2} (h : IxR X (r X.K)) (hK : X.K = K := by rfl) : IxR X (r K) := hK ▸ h
theorem opK {f : Value → Value → Sem Value} {r : PySem.W.Frag → R2} (h : OpR X f (r X.K)) (hK : X.K = K := by rfl) : OpR X f (r K) := hK ▸ h
theorem callK {f : Value} {r : PySem.W.Frag → List V → Hp → VK → Prop} (h : CallR X f (r X.K)) (hK : X.K = K := by rfl) : CallR X f (r K) := hK ▸ h
theorem slK {r : PySem.W.Frag → V → Option Int → Option Int → Hp → VK → Prop} (h : SlR X (r X.K)) (hK : X.K = K := by rfl) : SlR X (r K) := hK ▸ h
theorem peK {e : Expr} {t : PySem.W.Frag → TE} (h : PE X e (t X.K)) (hK : X.K = K := by rfl) : PE X e (t K) := hK ▸ h
theorem ptK {e : Expr} {t : PySem.W.Frag → TT} (h : PT X e (t X.K)) (hK : X.K = K := by rfl) : PT X e (t K) := hK ▸ h
theorem paK {es : List Expr} {t : PySem.W.Frag → TA} (h : PA X es (t X.K)) (hK : X.K = K := by rfl) : PA X es (t K) := hK ▸ h
theorem pe_fldK {e : Expr} {f : Str} {pos : Pos} {ta : TE} (he : PE X e ta) (hb : attributeBase e f X.env (eval e X.env) = eval e X.env) (hK : X.K = K := by rfl) : PE X (.Attribute e f pos) (tFld K ta f) :=
  peK (t := fun K => tFld K ta f) (pe_fld he hb) hK
theorem pt_truthK {a : Expr} {ta : TE} (ha : PE X a ta) (he : ∀ whole, isTrue a X.env whole = (do let v ← whole; standAt a.pos; holding [v] (truthy v))) (hK : X.K = K := by rfl) : PT X a (tTru K ta) :=
  ptK (t := fun K => tTru K ta) (pt_truth ha he) hK
theorem pa_starK {e : Expr} {es : List Expr} {p : Pos} {te : TE} {t : TA} (he : PE X e te) (hr : PA X es t) (hK : X.K = K := by rfl) (hs : starEach (.Starred e p :: es) X.env = (true, eval e X.env) :: starEach es X.env := by rfl) : PA X (.Starred e p :: es) (StX.tStar K te t) :=
  paK (t := fun K => StX.tStar K te t) (StX.pa_star he hr hs) hK
end
def rLenS (K : PySem.W.Frag) : List V → Hp → VK → Prop := fun xs H Q => ∃ p ys, xs = [.ref p] ∧ (SqL K H p ys ∨ SqT K H p ys) ∧ Q (.int ys.length) H
def rLstOf (K : PySem.W.Frag) : List V → Hp → VK → Prop := fun xs H Q => ∃ p ys, xs = [.ref p] ∧ (SqL K H p ys ∨ SqT K H p ys) ∧ ∀ l, H l = none → Q (.ref l) (upd H l (.lst ys))
/-- tuple(x): a list's or a tuple's -/
structure rTupOf (K : PySem.W.Frag) (xs : List V) (H : Hp) (Q : VK) : Prop where
  ex : ∃ p ys, xs = [.ref p] ∧ ((SqL K H p ys ∧ ∀ l, H l = none → Q (.ref l) (upd H l (.tup ys))) ∨ (SqT K H p ys ∧ Q (.ref p) H))
theorem call_tupS {X : Cx} : CallR X (.type "tuple") (rTupOf X.K) := fun pins s σ H xs us Q I r h => call_tuple_of pins s σ H xs us Q I r h.ex
def tJoinK (K : PySem.W.Frag) (to te : TE) : TE := tM1 (fun x xs H Q => ∃ a p, ∃ ys : List Str, x = .str a ∧ xs = [.ref p] ∧ (SqL K H p (ys.map V.str) ∨ SqT K H p (ys.map V.str)) ∧ (ys.map (·.length)).sum + ys.length * a.length ≤ 16777216 ∧ Q (.str (Txt.join a ys)) H) to te
theorem pe_joinK {X : Cx} {K : PySem.W.Frag} {o e : Expr} {to te : TE} {apos pos : Pos} (ho : PE X o to) (he : PE X e te) (hK : X.K = K := by rfl) (hs : starEach [e] X.env = [(false, eval e X.env)] := by rfl) (hbase : attributeBase o "join" X.env (eval o X.env) = eval o X.env := by rfl) (hline : (apos.endLine == pos.line) = true := by rfl) :
    PE X (.Call (.Attribute o "join" apos) [e] [] pos) (tJoinK K to te) := peK (t := fun K => tJoinK K to te) (pe_join ho he hs hbase hline) hK
/-! ### tuples whose objects have no attributes: what dict(t) wants -/
section
open PySem PySem.Spec PyProof.Rows
/-- a table's content: entries, or none -/
def isTab : PyData → Bool
  | .tuple [] => true
  | .tuple (.tuple _ :: _) => true
  | _ => false
def PlainT (K : PySem.W.Frag) (H : Hp) (a : Addr) : Prop := (∃ o u, H a = some (.frz o u) ∧ o.cls = .type "tuple" ∧ o.dict = none) ∨ (∃ o, K.lookup a = some o ∧ o.cls = .type "tuple" ∧ o.dict = none)
theorem PlainT.same {K : PySem.W.Frag} {H H' : Hp} {a : Addr} (s : Same H H') (h : PlainT K H a) : PlainT K H' a := by
  rcases h with ⟨o, u, e, r⟩ | h
  · exact .inl ⟨o, u, s _ _ e, r⟩
  · exact .inr h
structure Dq (K : PySem.W.Frag) (M : Hp) (v : V) (d : PyData) : Prop where
  dp : Dp K M v d
  tab : isTab d = true → ∃ a, v = .ref a ∧ PlainT K M a
theorem dq_same {K : PySem.W.Frag} {H H' : Hp} (s : Same H H') {v : V} {d : PyData} (h : Dq K H v d) : Dq K H' v d := ⟨dp_same s _ _ h.dp, fun e => let ⟨a, e1, e2⟩ := h.tab e; ⟨a, e1, e2.same s⟩⟩
theorem dq_of {K : PySem.W.Frag} {M : Hp} {v : V} {d : PyData} (h : Dp K M v d) (e : isTab d = false) : Dq K M v d := ⟨h, fun q => by rw [e] at q; cases q⟩
variable {X : Cx}
theorem PlainT.seq {pins : List (Addr × Obj)} {σ : L2.St} {H : Hp} {s : Shared} {a : Addr} {xs : List V} (I : Inv X pins σ H s) (p : PlainT X.K H a) (h : SqT X.K H a xs) : ∃ its : List Value, Vals xs its ∧ PlainSeq "tuple" s.heap a its.toArray ∧ xs.length ≤ sizeLine := by
  obtain ⟨its, r, ⟨o, ho, hc, n, hd⟩, z⟩ := I.tuple h
  refine ⟨its, r, ?_, z⟩
  rcases p with ⟨o2, u, e, e1, e2⟩ | ⟨o2, e, e1, e2⟩
  · have := (I.hok a _ e).1
    rw [ho] at this
    cases this
    exact ⟨o, n, ho, hc, e2, hd⟩
  · have := I.kIn a o2 e
    rw [ho] at this
    cases this
    exact ⟨o, n, ho, hc, e2, hd⟩
theorem pairs_ofT {pins : List (Addr × Obj)} {σ : L2.St} {H : Hp} {s : Shared} (I : Inv X pins σ H s) : ∀ {ps : List Addr} {kvs : List (Key × V)}, Paired (fun p kv => SqT X.K H p [kV kv.1, kv.2]) ps kvs →
    ∃ (prs : List (Key × Value)) (pvs : List (Value × Value)), KV kvs prs ∧ prs.length = ps.length ∧ pvs.length = ps.length ∧ ∀ (j : Nat) (k v : Value), pvs[j]? = some (k, v) → ∃ (b : Addr) (key : Key), ps[j]? = some b ∧ prs[j]? = some (key, v) ∧ IsTup s.heap b #[k, v] ∧ keyIs key k = true
  | _, _, .nil => ⟨[], [], .nil, rfl, rfl, fun j k v e => by simp at e⟩
  | _, _, .cons (a := p) (b := kv) h t => by
    obtain ⟨prs, pvs, r, hl, hl2, hp⟩ := pairs_ofT I t
    obtain ⟨its, rv, ht, _⟩ := I.tuple h
    obtain ⟨u, y, ei, ru, ry⟩ := vals2 rv
    subst ei
    refine ⟨(kv.1, y) :: prs, (u, y) :: pvs, .cons ⟨rfl, ry⟩ r, by rw [List.length_cons, List.length_cons, hl], by rw [List.length_cons, List.length_cons, hl2], fun j k v e => ?_⟩
    cases j with
    | zero =>
      have e' : (u, y) = (k, v) := Option.some.inj e
      cases e'
      exact ⟨p, kv.1, rfl, rfl, ht, kV_is (P := X.prog) (w := X.w) ru⟩
    | succ j =>
      obtain ⟨b, key, e1, e2, e3, e4⟩ := hp j k v (by simpa using e)
      exact ⟨b, key, by simpa using e1, by simpa using e2, e3, e4⟩
structure rDictT (K : PySem.W.Frag) (xs : List V) (H : Hp) (Q : VK) : Prop where
  ex : ∃ (a : Addr) (ps : List Addr) (kvs : List (Key × V)), xs = [.ref a] ∧ SqT K H a (ps.map V.ref) ∧ PlainT K H a ∧ Paired (fun p kv => SqT K H p [kV kv.1, kv.2]) ps kvs ∧ ∀ p, H p = none → Q (.ref p) (upd H p (.dK (mergeK [] kvs)))
/-- dict(t) of a tuple of pairs -/
theorem call_dictT (hcalm : X.calm = true) : CallR X (.type "dict") (rDictT X.K) := by
  intro pins s σ H xs us Q I r qq
  obtain ⟨a, ps, kvs, ex, hq, hpl, hp, q⟩ := qq.ex
  subst ex
  obtain ⟨u, eu, rx⟩ := vals1 r
  subst eu
  cases rx
  obtain ⟨its, rv, pl, hz⟩ := hpl.seq I hq
  have ei := refs_at rv
  subst ei
  rw [List.length_map] at hz
  obtain ⟨prs, pvs, rel, hl, hl2, hpr⟩ := pairs_ofT I hp
  have hPI : PairItems s.heap (ps.map Value.ref).toArray (fun j => ps.getD j 0) pvs := by
    refine ⟨by simp [hl2], fun j k v e => ?_⟩
    obtain ⟨b, key, e1, e2, e3, e4⟩ := hpr j k v e
    have eb : ps.getD j 0 = b := by rw [List.getD_eq_getElem?_getD, e1]; rfl
    show (ps.map Value.ref).toArray[j]? = some (.ref (ps.getD j 0)) ∧ PairAt s.heap (ps.getD j 0) k v
    rw [eb]
    refine ⟨by simp [e1], .inl ?_⟩
    exact e3
  refine PySem.call_dict_pairs (knd := mixKind X.prog X.w) (kvs := prs) (PairArg.tuple (prog := X.prog) (w := X.w) a (ps.map Value.ref).toArray (fun j => ps.getD j 0) pvs) (I.ok.hd hcalm) ⟨pl, hPI⟩ ⟨by rw [hl, hl2], fun i k v e => ?_⟩ (by rw [hl2]; exact hz) fun h' tk hd' k => ?_
  · obtain ⟨b, key, e1, e2, e3, e4⟩ := hpr i k v e
    exact ⟨key, e2, e4⟩
  · have hm : (s.heap.objs.size == sysModules) = false := beq_eq_false_iff_ne.mpr (Nat.ne_of_gt I.big)
    have hlen : (mergeK [] kvs).length ≤ sizeLine := by
      refine Nat.le_trans (length_mergeK kvs []) ?_
      rw [List.length_nil, Nat.zero_add, rel.length, hl]
      exact hz
    exact ⟨.ref s.heap.objs.size, upd H s.heap.objs.size (.dK (mergeK [] kvs)), I.laid (t' := tk) (fun b o e => k b o (by simp) e) (Nat.le_refl _) (show ObjOk X.prog X.w _ _ _ (.dK (mergeK [] kvs)) from ⟨hlen, hm, merged [] prs, KV.merge rel .nil, hd'⟩), rfl, q _ (I.hok.fresh (Nat.le_refl _))⟩
/-- (), told by its object -/
theorem pe_tup0Q {x1} {pos : Pos} : PE X (.Tuple [] x1 pos) (fun _ H Q => ∀ p, H p = none → Q (.ref p) (upd H p (.frz { cls := .type "tuple", data := .seq #[] } (.tup [])))) := by
  refine ⟨fun pins s σ H Q I hq => ?_⟩
  refine wpAny_Tuple_spliced (thn ((pa_nil (X := X)).run pos pins s σ H (fun xs H1 => xs = [] ∧ H1 = H) I ⟨rfl, rfl⟩) fun us s1 ⟨xs, H1, I1, r, z, q⟩ => ⟨by rw [← r.length, z]; exact Nat.zero_le _, ?_⟩)
  subst z q
  cases r
  have hf : H1 s1.heap.objs.size = none := I1.hok.fresh (Nat.le_refl _)
  refine ⟨.ref s1.heap.objs.size, upd H1 s1.heap.objs.size (.frz { cls := .type "tuple", data := .seq #[] } (.tup [])), I1.laid (t' := s1.toks) (fun b u e => Heap.get?_push_of_some _ e) (Nat.le_refl _) ?_, rfl, hq _ hf⟩
  exact ⟨Heap.get?_push_size _ rfl, Nat.zero_le _, [], .nil, ⟨_, Heap.get?_push_size _ rfl, rfl, _, rfl⟩⟩
def tupO (as : List Addr) : Obj := { cls := .type "tuple", data := .seq (as.map Value.ref).toArray }
def rTupQ (K : PySem.W.Frag) : List V → Hp → VK → Prop := fun xs H Q => ∃ (p : Addr) (as : List Addr), xs = [.ref p] ∧ SqL K H p (as.map V.ref) ∧ ∀ l, H l = none → Q (.ref l) (upd H l (.frz (tupO as) (.tup (as.map V.ref))))
/-- tuple(l) of a list of objects, told by its object -/
theorem call_tupQ : CallR X (.type "tuple") (rTupQ X.K) := by
  intro pins s σ H xs us Q I r h
  obtain ⟨p, as, rfl, hq, q⟩ := h
  obtain ⟨u, rfl, rx⟩ := vals1 r
  cases rx
  obtain ⟨its, r', pl, hz⟩ := I.list hq
  have ei := refs_at r'
  subst ei
  have hlen := r'.length
  refine call_tuple_list pl.isList (fun h' kp => ?_) (by simp only [List.size_toArray] <;> omega)
  have I1 : Inv X pins σ H { s with heap := h' } := I.kept (t' := s.toks) kp
  have I2 : Inv X pins σ (upd H h'.objs.size (.frz (tupO as) (.tup (as.map V.ref)))) { s with heap := h'.push { cls := .type "tuple", data := .seq (as.map Value.ref).toArray } } :=
    I1.laid (t' := s.toks) (fun b o e => Heap.get?_push_of_some _ e) (Nat.le_refl _) (show ObjOk X.prog X.w _ _ _ (.frz (tupO as) (.tup (as.map V.ref))) from ⟨Heap.get?_push_size _ rfl, hz, as.map Value.ref, r', IsTup.new _ _⟩)
  exact ⟨.ref h'.objs.size, _, I2, rfl, q _ (I1.hok.fresh (Nat.le_refl _))⟩
end
/-! ### tuple(d.items()) -/
section
open PySem PySem.Spec PyProof.Rows LiI L2
variable {X : Cx} {e : Expr} {te : TE} {p apos cpos pos : Pos}
structure rItemsT (K : PySem.W.Frag) (x : V) (H : Hp) (Q : VK) : Prop where
  ex : ∃ (d : Addr) (kvs : List (Key × V)), x = .ref d ∧ H d = some (.dK kvs) ∧
  ∀ (H' : Hp) (p : Addr) (ts : List Addr), (∀ b o, H b = some o → H' b = some o) → H p = none → (∀ t ∈ ts, H t = none) → p ∉ ts → H' p = some (.frz (tupO ts) (.tup (ts.map V.ref))) → Paired (fun (t : Addr) (q : Key × V) => H' t = some (.tup [kV q.1, q.2])) ts kvs → Q (.ref p) H'
def tTupItems (K : PySem.W.Frag) (te : TE) : TE := fun σ H Q => te σ H fun x H1 => rItemsT K x H1 Q
theorem titems_laid {pins : List (Addr × Obj)} {σ : L2.St} {H : Hp} {s : Shared} {h1 : Heap} {tk : Nat} {kvs : List (Key × V)} {vs : List (Key × Value)} {as : List Addr} (I : Inv X pins σ H s) (hz : kvs.length ≤ sizeLine) (kv : KV kvs vs)
    (hk1 : ∀ b o, s.heap.get? b = some o → h1.get? b = some o) (hsz : s.heap.objs.size ≤ h1.objs.size) (hl : as.length = vs.length) (hG : PySem.W.KdxG (mixKind X.prog X.w) vs s.heap.objs.size h1 as) :
    ∃ H' : Hp, (∀ b o, H b = some o → H' b = some o) ∧ H h1.objs.size = none ∧ (∀ t ∈ as, H t = none) ∧ h1.objs.size ∉ as ∧ H' h1.objs.size = some (.frz (tupO as) (.tup (as.map V.ref))) ∧ Paired (fun (t : Addr) (q : Key × V) => H' t = some (.tup [kV q.1, q.2])) as kvs ∧ Inv X pins σ H' { s with heap := h1.push (tupO as), toks := tk } := by
  have lk : kvs.length = vs.length := Paired.length kv
  have hk : ∀ b o, h1.get? b = some o → (h1.push (tupO as)).get? b = some o := fun b o e => Heap.get?_push_of_some _ e
  have hks : ∀ b o, s.heap.get? b = some o → (h1.push (tupO as)).get? b = some o := fun b o e => hk _ _ (hk1 _ _ e)
  have hS : (h1.push (tupO as)).get? h1.objs.size = some (tupO as) := Heap.get?_push_size _ rfl
  have hSn : h1.objs.size ∉ as := fun z => Nat.lt_irrefl _ (hG.there z)
  have nd : as.Nodup := List.Pairwise.imp (fun {a b} (h : a < b) => Nat.ne_of_lt h) hG.rise
  have new : ∀ t ∈ as, H t = none := fun t ht => I.hok.fresh (Nat.le_of_lt (hG.above t ht))
  have newS : H h1.objs.size = none := I.hok.fresh hsz
  have atP := putT_at as kvs (upd H h1.objs.size (.frz (tupO as) (.tup (as.map V.ref)))) (by omega) nd
  have off : ∀ b, b ∉ as → b ≠ h1.objs.size → putT (upd H h1.objs.size (.frz (tupO as) (.tup (as.map V.ref)))) as kvs b = H b := fun b h1 h2 => by rw [putT_off as kvs _ h1, upd_ne h2]
  have low : ∀ b o, s.heap.get? b = some o → b ∉ as ∧ b ≠ h1.objs.size := fun b o e => ⟨fun z => absurd (Heap.lt_size e) (Nat.not_lt.mpr (Nat.le_of_lt (hG.above b z))), Nat.ne_of_lt (Nat.lt_of_lt_of_le (Heap.lt_size e) hsz)⟩
  have kp : ∀ b u, H b = some u → (putT (upd H h1.objs.size (.frz (tupO as) (.tup (as.map V.ref)))) as kvs) b = some u := fun b u e => by
    rw [off b (fun z => by rw [new b z] at e; cases e) (fun z => by rw [z, newS] at e; cases e)]
    exact e
  have eS : putT (upd H h1.objs.size (.frz (tupO as) (.tup (as.map V.ref)))) as kvs h1.objs.size = some (.frz (tupO as) (.tup (as.map V.ref))) := by rw [putT_off as kvs _ hSn, upd_same]
  refine ⟨putT (upd H h1.objs.size (.frz (tupO as) (.tup (as.map V.ref)))) as kvs, kp, newS, new, hSn, eS, atP, ?_⟩
  refine I.call' (ch := []) rfl ⟨fun b o q _ _ _ => hks b o q, fun b o q _ _ _ => ⟨o.slots, hks b o q⟩, fun b o q n _ => ?_, fun b o q _ => ⟨o, hks b o q⟩, fun b xs q => kp b _ q, fun b o u q => kp b _ q, fun b ps q => ⟨#[], by rw [kp b _ q]; simp⟩⟩ (fun b u q => ?_) I.bare fun b z => by simp at z
  · obtain ⟨z1, z2⟩ := low b o q
    rw [off b z1 z2]
    exact n
  · by_cases hb : b ∈ as
    · obtain ⟨j, pk, e1, e2, e3⟩ := paired_ix atP hb
      rw [e3] at q
      cases q
      obtain ⟨key, k, x, f1, f2, f3⟩ := hG.pairs j b e1
      obtain ⟨qv, g1, g2, g3⟩ := LiI.paired_get kv e2
      rw [f1] at g1
      cases g1
      have rk : RelV (kV pk.1) key := by
        rw [g2]
        exact relV_key (show keyIs k key = true from f2)
      exact ⟨by show 2 ≤ sizeLine; decide, [key, x], .cons rk (.cons g3 .nil), ⟨_, hk _ _ f3, rfl, _, rfl⟩⟩
    · by_cases hb2 : b = h1.objs.size
      · rw [hb2] at q ⊢
        rw [eS] at q
        cases q
        exact ⟨hS, by rw [List.length_map]; omega, as.map Value.ref, vals_refs as, ⟨_, hS, rfl, _, rfl⟩⟩
      · rw [off b hb hb2] at q
        exact (I.hok b u q).stay (fun d v _ y => hks d v y) (fun d y => kp d _ y) fun d xs y => kp d _ y
section
variable {prog : Program} {w : World} {A : Around} {E : Value → Shared → Prop} {s : Shared} {K : Type} [DecidableEq K] {knd : KeyKind prog w K} {r d : Addr} {kvs : List (K × Value)} {ep : Nat}
open PySem.W
theorem code_tuple_new_items {Q₁ : Value → Shared → Prop} (hh : A.handled = none) (hv : s.heap.IsItemsView r d) (hm : s.heap.DictAt knd d kvs ep) (hn : kvs.length ≤ sizeLine) (hr : s.heap.objs.size ≤ r + 1)
    (h : ∀ (h' : Heap) (tk : Nat) (as : List Addr), (∀ b o, s.heap.get? b = some o → h'.get? b = some o) → as.length = kvs.length → KdxG knd kvs s.heap.objs.size h' as → s.heap.objs.size ≤ h'.objs.size →
      Q₁ (.ref h'.objs.size) { s with heap := h'.push (tupO as), toks := tk }) :
    codeAny (model prog w) A (.call (.builtin "tuple.__new__") ⟨[.type "tuple", .ref r], []⟩) (wants Q₁ E) s := by
  refine codeAny_of_tree ?_
  show wpAny _ A.in1 (do checkBuiltinCall "tuple.__new__" ⟨[.type "tuple", .ref r], []⟩; again (.builtin "tuple.__new__" ⟨[.type "tuple", .ref r], []⟩)) _ _ s
  refine wpAny_bind (wpAny_of_eq (PySem.F.newCall_tuple_1 _) (wpAny_pure ⟨plainId_quiet PySem.F.plain_tuple_new _, codeAny_builtin PySem.F.entry_tuple_new ?_⟩))
  rw [Around.under_plainId PySem.F.plain_tuple_new _]
  have hTI : s.TypeIs (.ref r) "dict_items" := hv.typeIs
  have hh1 : A.in1.handled = none := hh
  have hsub := sub_tuple_self
  have hinit := init_tuple_lookup
  have hmh := madeHere_tuple
  wp_walk using wpAny_typeOf hTI, kdx_collect (A := A.in1) hh1 hv hm hn
  intro h' tk as hk hl hG
  show wpAny _ _ (Builtin.Tuple.tupleExact (as.map Value.ref).toArray >>= fun v => ret v) _ _ _
  unfold Builtin.Tuple.tupleExact
  refine wpAny_bind (wpAny_newObj_type ?_ (by show (as.map Value.ref).toArray.size ≤ sizeLine; rw [List.size_toArray, List.length_map, hl]; exact hn))
  refine wpAny_pure ?_
  refine h h' tk as hk hl hG ?_
  obtain ⟨o, ho, _⟩ := id hv
  have hlt : r < h'.objs.size := Heap.lt_size (hk _ _ ho)
  exact Nat.le_trans hr hlt
theorem call_tuple_items {Q : Value → Shared → Prop} (hh : A.handled = none) (hv : s.heap.IsItemsView r d) (hm : s.heap.DictAt knd d kvs ep) (hn : kvs.length ≤ sizeLine) (hr : s.heap.objs.size ≤ r + 1)
    (hQ : ∀ (h' : Heap) (tk : Nat) (as : List Addr), (∀ b o, s.heap.get? b = some o → h'.get? b = some o) → as.length = kvs.length → KdxG knd kvs s.heap.objs.size h' as → s.heap.objs.size ≤ h'.objs.size →
      Q (.ref h'.objs.size) { s with heap := h'.push (tupO as), toks := tk }) :
    wpAny (model prog w) A (call (.type "tuple") [.ref r]) Q E s := by
  refine callType_codes (Q₁ := fun obj s₁ => s₁.TypeIs obj "tuple" ∧ Q obj s₁) PySem.F.called_tuple (PySem.F.typeCall_tuple_1 _) PySem.F.entry_object_init
    (code_tuple_new_items (A := A.in1) hh hv hm hn hr fun h' tk as hk hl hG hs => ⟨⟨_, Heap.get?_push_size _ rfl, rfl⟩, hQ h' tk as hk hl hG hs⟩) fun obj s₁ h₁ => ?_
  exact ⟨h₁.1, PySem.F.args_object_init_2 obj _, object_init_meets PySem.F.called_tuple.init.lookup PySem.F.called_tuple.made (by decide) prog w A.in1 _ s₁ ⟨h₁.1, rfl, h₁.2⟩⟩
end
/-- tuple(e.items()) -/
theorem pe_tupItems (hc : X.calm = true) (he : PE X e te) (hg : Gl X "tuple") (hm : X.mg "tuple" = none) (hv : bootBuiltins "tuple" = some (.type "tuple")) (hbase : attributeBase e "items" X.env (eval e X.env) = eval e X.env := by rfl) (hline : (apos.endLine == cpos.line) = true := by rfl)
    (hs : starEach [.Call (.Attribute e "items" apos) [] [] cpos] X.env = (false, eval (.Call (.Attribute e "items" apos) [] [] cpos) X.env) :: starEach [] X.env := by rfl) :
    PE X (.Call (.Name "tuple" p) [.Call (.Attribute e "items" apos) [] [] cpos] [] pos) (tTupItems X.K te) := by
  refine ⟨fun pins s σ H Q I hq => ?_⟩
  refine wpAny_Call_Name_kw (ld_blt I hg hm hv ?_)
  refine PyProof.Rows.callWith_type1 ?_ hs rfl
  rw [hs]
  show wpAny _ _ (spliced ((false, eval (.Call (.Attribute e "items" apos) [] [] cpos) X.env) :: backTo pos (starEach [] X.env))) _ _ s
  refine Calls.spliced_cons ?_
  refine wpAny_Call_method (T := "dict") (id := "dict.items") hbase rfl hline PySem.F.plainAttrs_dict PySem.F.slot_dict_items PySem.F.type_dict_items (thn (he.run pins s σ H _ I hq) fun u s1 ⟨x, H1, I1, rx, ⟨d, kvs, ex, hd, q⟩⟩ => ?_)
  subst ex
  obtain rfl : u = Value.ref d := rx
  obtain ⟨hz, hs0, vs, kv, hdo⟩ := I1.hok d _ hd
  obtain ⟨ep, hat⟩ := hdo.dictAt
  have lk : kvs.length = vs.length := Paired.length kv
  have I2 : Inv X pins σ H1 { s1 with heap := s1.heap.push { cls := .type "dict_items", data := .fields #[.ref d] } } := I1.kept (t' := s1.toks) fun b ob q => Heap.get?_push_of_some _ q
  refine ⟨hdo.typeIs, hdo.mapOf.noDict, ?_⟩
  show wpAny _ _ (callWith cpos (.builtin "dict.items") [.ref d] [] []) _ X.xe s1
  refine method_meetsIn PySem.F.slot_dict_items PySem.F.entry_dict_items rfl (PySem.evalArgs_none ⟨rfl, hdo.typeIs, PySem.F.args_dict_items_1 _, _, meets_dict_items (mixKind X.prog X.w) d hs0, ⟨vs, hdo⟩, ?_⟩)
  refine Calls.spliced_nil ?_
  refine call_tuple_items (knd := mixKind X.prog X.w) (kvs := vs) (ep := ep) (I1.ok.hd hc) ⟨_, Heap.get?_push_size _ rfl, rfl, rfl⟩ (hat.push _) (by omega) (by show (s1.heap.push _).objs.size ≤ _; rw [Heap.size_push]; exact Nat.le_refl _) fun h' tk as hk hl hG hsz => ?_
  obtain ⟨H', k1, k2, k3, k4, k5, k6, J⟩ := titems_laid (tk := tk) I2 hz kv hk hsz hl hG
  exact ⟨.ref _, H', J, rfl, q H' _ as k1 k2 k3 k4 k5 k6⟩
end
/-! ### a local def called with a star; own [ ], in of instances -/
section
variable {X : Cx} {CX : CXT} {k i : Nat} {C f : Addr} {sp : Sp} {E : XK} {x : Str} {a b e : Expr} {es : List Expr} {p pos : Pos} {t : TA} {ta tb : TE}
/-- x(e, *y), x a local that holds the def at f -/
def tCallLS (X : Cx) (CX : CXT) (k i : Nat) (t : TA) (E : XK) : TE := fun σ H Q => ∃ f sp, σ[i]? = some (some (.ref f)) ∧ FnR X.prog X.w X.K X.mg X.base CX k f sp ∧ PySem.W.keepIn X.K (.ref f) = true ∧ t σ H fun vs H1 => sp vs H1 Q E
theorem pe_callLS (hr : Room k X.A) (hN : X.N[i]? = some x) (hv : Vis X.env.scope x) (hx : Passes CX X E) (ha : PA X (e :: es) t)
    (hdb : (x == ("__debug__" : Str)) = false := by decide) (hcd : (x == ("__classdict__" : Str)) = false := by decide)
    (he : starEach (e :: es) X.env = (false, eval e X.env) :: starEach es X.env := by rfl) (hst : (backTo pos (starEach es X.env)).any (·.1) = true := by rfl) : PE X (.Call (.Name x p) (e :: es) [] pos) (tCallLS X CX k i t E) := by
  refine ⟨fun pins s σ H Q I h => ?_⟩
  obtain ⟨f, sp, hs, F, hk, ht⟩ := h
  refine wpAny_Call_Name_kw (thn ((pe_var (pos := p) hN hv hdb hcd).run pins s σ H (fun v H1 => v = .ref f ∧ H1 = H) I ⟨.ref f, hs, rfl, rfl⟩) fun u s1 ⟨v, H1, I1, r1, q1⟩ => ?_)
  obtain ⟨rfl, rfl⟩ := q1
  cases r1
  refine PySem.W.callWith_S2 (h₀ := X.base) I.ok.mod.kin hk (thn (ha.run pos pins s1 σ _ _ I1 ht) fun us s2 ⟨vs, H2, I2, r, q⟩ => ⟨I2.kIn, ?_⟩) he hst
  exact wpAny_call (run_fnR F hr hx I2 r q)
/-- o[i] by the own __getitem__ -/
def rItemOwn (C : Addr) (sp : Sp) (E : XK) : R2 := fun x y H Q => ∃ a dx fs, x = .ref a ∧ H a = some (.ins C dx fs) ∧ sp [.ref a, y] H Q E
theorem pe_itemOwn (hs : PySem.W.findIn X.K (.ref C) "__getitem__" = some (some (.ref f))) (hfi : PySem.W.fnIn X.K f = true) (hf : PySem.W.isFn X.K (.ref f) = true) (F : FnR X.prog X.w X.K X.mg X.base CX k f sp) (hr : Room (k + 1) X.A) (hx : Passes CX X E)
    (ha : PE X a ta) (hb : PE X b tb) (hsl : ∀ (x : Addr) (i : Value), subscripted b true (.ref x) i = runValue (.builtin "lifetime.subscript" ⟨[.ref x, i], []⟩) := by intros; with_unfolding_all rfl) : PE X (.Subscript a b pos) (tOp (rItemOwn C sp E) ta tb) := by
  refine ⟨fun pins s σ H Q I h => ?_⟩
  refine PyProof.Rows.Subscript_ (binT ha hb I h fun v u s2 x y H2 I2 rx ry q => ?_)
  obtain ⟨a', dx, fs, rfl, ea, q⟩ := q
  cases (show v = Value.ref a' from rx)
  obtain ⟨mA, O, _⟩ := ins_get I2.hok ea
  obtain ⟨od, J, _⟩ := O.look
  obtain ⟨m, hF⟩ := I2.fr
  have hr2 : Room k X.A.in1 := hr.in1
  refine PySem.W.sub_K hF I2.ok.mod.kin J hs hfi hf ?_ (hsl _ _)
  refine wpAny_call (codeAny_mono (SlX.run_at (us := [.ref a', u]) (ws := [.ref a', y]) F hr2 I2.env0.in1 hx I2 (.cons rfl (.cons ry .nil)) q) fun r s' z => ?_)
  exact z
/-- x in o by the own __contains__, which gives True or False -/
def rInOwn (C : Addr) (sp : Sp) (E : XK) : R2 := fun x y H Q => ∃ a dx fs, y = .ref a ∧ H a = some (.ins C dx fs) ∧ sp [.ref a, x] H (fun z H' => ∃ c, z = .bl c ∧ Q (.bl c) H') E
def rNotInOwn (C : Addr) (sp : Sp) (E : XK) : R2 := fun x y H Q => ∃ a dx fs, y = .ref a ∧ H a = some (.ins C dx fs) ∧ sp [.ref a, x] H (fun z H' => ∃ c, z = .bl c ∧ Q (.bl (!c)) H') E
theorem op_inOwn (hs : PySem.W.findIn X.K (.ref C) "__contains__" = some (some (.ref f))) (hf : PySem.W.isFn X.K (.ref f) = true) (F : FnR X.prog X.w X.K X.mg X.base CX k f sp) (hr : Room k X.A) (hx : Passes CX X E) : OpR X (compareOp .In) (rInOwn C sp E) := by
  intro pins s σ H x y v u Q I rx ry h
  obtain ⟨a, dx, fs, rfl, ha, q⟩ := h
  cases (show u = Value.ref a from ry)
  obtain ⟨mA, O, _⟩ := ins_get I.hok ha
  obtain ⟨od, J, _⟩ := O.look
  obtain ⟨m, hF⟩ := I.fr
  refine PySem.W.in_K hF I.ok.mod.kin J hs hf ?_
  refine wpAny_mono (wpAny_call (run_fnR (us := [.ref a, v]) (vs := [.ref a, x]) F hr hx I (.cons rfl (.cons rx .nil)) q)) (fun w s' z => ?_) fun _ _ x => x
  obtain ⟨z', H', I', rz, c, rfl, qz⟩ := z
  cases (show w = Value.bool c from rz)
  exact PySem.wpAny_truthy_bool ⟨.bl c, H', I', rfl, qz⟩
theorem op_notInOwn (hs : PySem.W.findIn X.K (.ref C) "__contains__" = some (some (.ref f))) (hf : PySem.W.isFn X.K (.ref f) = true) (F : FnR X.prog X.w X.K X.mg X.base CX k f sp) (hr : Room k X.A) (hx : Passes CX X E) : OpR X (compareOp .NotIn) (rNotInOwn C sp E) := by
  intro pins s σ H x y v u Q I rx ry h
  obtain ⟨a, dx, fs, rfl, ha, q⟩ := h
  cases (show u = Value.ref a from ry)
  obtain ⟨mA, O, _⟩ := ins_get I.hok ha
  obtain ⟨od, J, _⟩ := O.look
  obtain ⟨m, hF⟩ := I.fr
  refine PySem.W.notIn_K hF I.ok.mod.kin J hs hf ?_
  refine wpAny_mono (wpAny_call (run_fnR (us := [.ref a, v]) (vs := [.ref a, x]) F hr hx I (.cons rfl (.cons rx .nil)) q)) (fun w s' z => ?_) fun _ _ x => x
  obtain ⟨z', H', I', rz, c, rfl, qz⟩ := z
  cases (show w = Value.bool c from rz)
  exact PySem.wpAny_truthy_bool ⟨.bl (!c), H', I', rfl, qz⟩
end
/-! ### what may change; dicts by names -/
/-- all objects but those of l stay -/
def Chg (l : List Addr) (H H' : Hp) : Prop := ∀ x o, x ∉ l → H x = some o → H' x = some o
theorem Chg.refl (l : List Addr) (H : Hp) : Chg l H H := fun _ _ _ e => e
theorem Chg.trans {l : List Addr} {H H1 H2 : Hp} (a : Chg l H H1) (b : Chg l H1 H2) : Chg l H H2 := fun x o n e => b x o n (a x o n e)
theorem Chg.of_same {l : List Addr} {H H1 : Hp} (a : Same H H1) : Chg l H H1 := fun x o _ e => a x o e
theorem Chg.more {l l' : List Addr} {H H1 : Hp} (a : Chg l H H1) (h : ∀ x, x ∈ l → x ∈ l') : Chg l' H H1 := fun x o n e => a x o (fun m => n (h x m)) e
theorem Chg.upd {l : List Addr} {H : Hp} {a : Addr} {o : HO} (m : a ∈ l) : Chg l H (upd H a o) := fun x u n e => by
  rw [upd_ne fun z => n (by rw [z]; exact m)]; exact e
theorem Chg.new {l : List Addr} {H : Hp} {a : Addr} {o : HO} (n : H a = none) : Chg l H (L2.upd H a o) := .of_same (same_new n)
theorem Chg.mask {l : List Addr} {H H' : Hp} (k : Chg l H H') : Same (mask l H) (mask l H') := fun a o e => by
  by_cases h : a ∈ l
  · rw [mask_in h] at e; cases e
  · rw [mask_out h] at e ⊢
    exact k a o h e
theorem Chg.of_mask {l : List Addr} {H H' : Hp} (s : Same (Qp.mask l H) (Qp.mask l H')) : Chg l H H' := fun a o n e => by
  have := s a o (by rw [mask_out n]; exact e)
  rw [mask_out n] at this
  exact this
theorem Keeps.chg {p q : Addr} {H H' : Hp} (k : Keeps p q H H') : Chg [p, q] H H' := fun x o n e => k x o (fun z => n (by rw [z]; exact List.mem_cons_self)) (fun z => n (by rw [z]; exact List.mem_cons_of_mem _ List.mem_cons_self)) e
theorem Keeps.chgL {p q : Addr} {l : List Addr} {H H' : Hp} (hp : p ∈ l) (hq : q ∈ l) (k : Keeps p q H H') : Chg l H H' := k.chg.more fun x m => by
  rcases List.mem_cons.mp m with rfl | m
  · exact hp
  · rw [List.mem_singleton.mp m]; exact hq
/-- what was free and stays so -/
theorem Chg.free {l : List Addr} {H H1 : Hp} {a : Addr} (k : Chg l H H1) (n : H1 a = none) (h : a ∉ l) : H a = none := by
  cases e : H a with
  | none => rfl
  | some o => rw [k a o h e] at n; cases n
/-- entries by names -/
def kvs {α : Type} (l : List (Str × α)) : List (Key × α) := l.map fun p => (Sum.inr p.1, p.2)
def look {α : Type} (l : List (Str × α)) (n : Str) : Option α := (l.find? fun p => decide (p.1 = n)).map (·.2)
def put {α : Type} (l : List (Str × α)) (n : Str) (v : α) : List (Str × α) := if (l.any fun p => decide (p.1 = n)) = true then l.map (fun p => if p.1 = n then (p.1, v) else p) else l ++ [(n, v)]
theorem look_nil {α : Type} {n : Str} : look ([] : List (Str × α)) n = none := rfl
theorem look_pos {α : Type} {p : Str × α} {r : List (Str × α)} {n : Str} (e : p.1 = n) : look (p :: r) n = some p.2 := by simp [look, List.find?_cons, e]
theorem look_neg {α : Type} {p : Str × α} {r : List (Str × α)} {n : Str} (e : ¬ p.1 = n) : look (p :: r) n = look r n := by simp [look, List.find?_cons, e]
theorem valV_kvs (n : Str) : ∀ l : List (Str × V), valV (kvs l) (Sum.inr n) = look l n
  | [] => rfl
  | p :: r => by
    have e : kvs (p :: r) = (Sum.inr p.1, p.2) :: kvs r := rfl
    rw [e]
    by_cases h : p.1 = n
    · rw [look_pos h, valV_pos (by rw [h])]
    · rw [look_neg h, valV_neg (fun z => h (Sum.inr.inj z)), valV_kvs n r]
theorem kvs_any (n : Str) : ∀ l : List (Str × V), ((kvs l).any fun kv => decide (kv.1 = Sum.inr n)) = l.any fun p => decide (p.1 = n)
  | [] => rfl
  | p :: r => by
    have e : kvs (p :: r) = (Sum.inr p.1, p.2) :: kvs r := rfl
    rw [e, List.any_cons, List.any_cons, kvs_any n r]
    congr 1
    by_cases h : p.1 = n
    · rw [decide_eq_true h, decide_eq_true (by rw [h])]
    · rw [decide_eq_false h, decide_eq_false fun z => h (Sum.inr.inj z)]
theorem putK_kvs (l : List (Str × V)) (n : Str) (v : V) : putK (kvs l) (Sum.inr n) v = kvs (put l n v) := by
  unfold putK put
  rw [kvs_any]
  split
  · unfold kvs
    rw [List.map_map, List.map_map]
    refine List.map_congr_left fun p _ => ?_
    show (if (Sum.inr p.1 : Key) = Sum.inr n then _ else _) = _
    by_cases h : p.1 = n
    · simp [h]
    · have h2 : ¬ ((Sum.inr p.1 : Key) = Sum.inr n) := fun z => h (Sum.inr.inj z)
      simp [h, h2]
  · unfold kvs
    rw [List.map_append]
    rfl
theorem kvs_len {α : Type} (l : List (Str × α)) : (kvs l).length = l.length := by unfold kvs; rw [List.length_map]
/-- what the entries hold -/
inductive CsR (K : PySem.W.Frag) (M : Hp) : List (Str × V) → List (Str × PyData) → Prop where
  | nil : CsR K M [] []
  | cons {n : Str} {v : V} {d : PyData} {l : List (Str × V)} {cs : List (Str × PyData)} (h : Dq K M v d) (t : CsR K M l cs) : CsR K M ((n, v) :: l) ((n, d) :: cs)
section
variable {K : PySem.W.Frag} {M : Hp}
theorem CsR.same {M' : Hp} (s : Same M M') : ∀ {l : List (Str × V)} {cs : List (Str × PyData)}, CsR K M l cs → CsR K M' l cs
  | _, _, .nil => .nil
  | _, _, .cons h t => .cons (dq_same s h) (t.same s)
theorem CsR.len : ∀ {l : List (Str × V)} {cs : List (Str × PyData)}, CsR K M l cs → l.length = cs.length
  | _, _, .nil => rfl
  | _, _, .cons _ t => by rw [List.length_cons, List.length_cons, t.len]
theorem CsR.at {n : Str} {d : PyData} : ∀ {l : List (Str × V)} {cs : List (Str × PyData)}, CsR K M l cs → look cs n = some d → ∃ v, look l n = some v ∧ Dq K M v d
  | _, _, .nil, e => by cases e
  | _, _, .cons (n := m) (v := v) (d := d') h t, e => by
    by_cases q : m = n
    · rw [look_pos (p := (m, d')) q] at e
      obtain rfl := Option.some.inj e
      exact ⟨v, look_pos (p := (m, v)) q, h⟩
    · rw [look_neg (p := (m, d')) q] at e
      obtain ⟨v', e', h'⟩ := t.at e
      exact ⟨v', by rw [look_neg (p := (m, v)) q]; exact e', h'⟩
theorem CsR.none {n : Str} : ∀ {l : List (Str × V)} {cs : List (Str × PyData)}, CsR K M l cs → look cs n = none → look l n = none
  | _, _, .nil, _ => rfl
  | _, _, .cons (n := m) (v := v) (d := d') h t, e => by
    by_cases q : m = n
    · rw [look_pos (p := (m, d')) q] at e
      cases e
    · rw [look_neg (p := (m, d')) q] at e
      rw [look_neg (p := (m, v)) q]
      exact t.none e
theorem CsR.any {n : Str} : ∀ {l : List (Str × V)} {cs : List (Str × PyData)}, CsR K M l cs → (l.any fun p => decide (p.1 = n)) = cs.any fun p => decide (p.1 = n)
  | _, _, .nil => rfl
  | _, _, .cons h t => by rw [List.any_cons, List.any_cons, t.any]
theorem CsR.map {n : Str} {v : V} {d : PyData} (hd : Dq K M v d) : ∀ {l : List (Str × V)} {cs : List (Str × PyData)}, CsR K M l cs → CsR K M (l.map fun p => if p.1 = n then (p.1, v) else p) (cs.map fun p => if p.1 = n then (p.1, d) else p)
  | _, _, .nil => .nil
  | _, _, .cons (n := m) (v := v') (d := d') h t => by
    rw [List.map_cons, List.map_cons]
    by_cases q : m = n
    · rw [if_pos (show (m, v').1 = n from q), if_pos (show (m, d').1 = n from q)]
      exact .cons hd (t.map hd)
    · rw [if_neg (show ¬ (m, v').1 = n from q), if_neg (show ¬ (m, d').1 = n from q)]
      exact .cons h (t.map hd)
theorem CsR.app : ∀ {l l' : List (Str × V)} {cs cs' : List (Str × PyData)}, CsR K M l cs → CsR K M l' cs' → CsR K M (l ++ l') (cs ++ cs')
  | _, _, _, _, .nil, h => h
  | _, _, _, _, .cons h t, r => .cons h (t.app r)
theorem CsR.put {n : Str} {v : V} {d : PyData} {l : List (Str × V)} {cs : List (Str × PyData)} (h : CsR K M l cs) (hd : Dq K M v d) : CsR K M (put l n v) (put cs n d) := by
  unfold Qp.put
  rw [h.any]
  split
  · exact h.map hd
  · exact h.app (.cons hd .nil)
end
theorem look_put {α : Type} (n m : Str) (v : α) : ∀ l : List (Str × α), look (put l n v) m = if m = n then some v else look l m := by
  have h1 : ∀ l : List (Str × α), (l.any fun p => decide (p.1 = n)) = true → look (l.map fun p => if p.1 = n then (p.1, v) else p) m = if m = n then some v else look l m := by
    intro l
    induction l with
    | nil => intro h; cases h
    | cons p r ih =>
      intro h
      rw [List.map_cons]
      by_cases q : p.1 = n
      · rw [if_pos q]
        by_cases e : p.1 = m
        · rw [look_pos (p := (p.1, v)) e, if_pos (e.symm.trans q)]
        · rw [look_neg (p := (p.1, v)) e, look_neg e]
          have hm : ¬ m = n := fun z => e (q.trans z.symm)
          rw [if_neg hm]
          by_cases a : (r.any fun p => decide (p.1 = n)) = true
          · rw [ih a, if_neg hm]
          · have : r.map (fun p => if p.1 = n then (p.1, v) else p) = r := by
              rw [Bool.not_eq_true, List.any_eq_false] at a
              conv => rhs; rw [← List.map_id r]
              refine List.map_congr_left fun x hx => ?_
              have := a x hx
              rw [if_neg (by simpa using this)]
              rfl
            rw [this]
      · rw [if_neg q]
        have a : (r.any fun p => decide (p.1 = n)) = true := by
          rw [List.any_cons, decide_eq_false q, Bool.false_or] at h
          exact h
        by_cases e : p.1 = m
        · rw [look_pos e, look_pos e, if_neg fun z => q (e.trans z)]
        · rw [look_neg e, look_neg e, ih a]
  intro l
  unfold put
  split
  · rename_i a; exact h1 l a
  · rename_i a
    rw [Bool.not_eq_true, List.any_eq_false] at a
    have h2 : ∀ l : List (Str × α), (∀ x ∈ l, ¬ x.1 = n) → look (l ++ [(n, v)]) m = if m = n then some v else look l m := by
      intro l
      induction l with
      | nil =>
        intro _
        by_cases e : m = n
        · rw [if_pos e]; exact look_pos (p := (n, v)) e.symm
        · rw [if_neg e]; exact look_neg (p := (n, v)) fun z => e z.symm
      | cons p r ih =>
        intro h
        rw [List.cons_append]
        by_cases e : p.1 = m
        · rw [look_pos e, look_pos e, if_neg fun z => h p List.mem_cons_self (e.trans z)]
        · rw [look_neg e, look_neg e, ih fun x hx => h x (List.mem_cons_of_mem _ hx)]
    exact h2 l fun x hx => by simpa using a x hx
theorem put_len {α : Type} {l : List (Str × α)} {n : Str} {v w : α} (h : look l n = some w) : (put l n v).length = l.length := by
  unfold put
  have a : (l.any fun p => decide (p.1 = n)) = true := by
    rw [List.any_eq_true]
    unfold look at h
    obtain ⟨p, hp, _⟩ := Option.map_eq_some_iff.mp h
    exact ⟨p, List.mem_of_find?_eq_some hp, by have := List.find?_some hp; simpa using this⟩
  rw [if_pos a, List.length_map]
/-- names in their order -/
def names {α : Type} (l : List (Str × α)) : List Str := l.map (·.1)
theorem put_names {α : Type} {l : List (Str × α)} {n : Str} {v w : α} (h : look l n = some w) : names (put l n v) = names l := by
  unfold put names
  have a : (l.any fun p => decide (p.1 = n)) = true := by
    rw [List.any_eq_true]
    unfold look at h
    obtain ⟨p, hp, _⟩ := Option.map_eq_some_iff.mp h
    exact ⟨p, List.mem_of_find?_eq_some hp, by have := List.find?_some hp; simpa using this⟩
  rw [if_pos a, List.map_map]
  refine List.map_congr_left fun p _ => ?_
  show (if p.1 = n then (p.1, v) else p).1 = p.1
  split <;> rfl
theorem look_mem {α : Type} {l : List (Str × α)} {n : Str} {v : α} (h : look l n = some v) : (n, v) ∈ l := by
  unfold look at h
  obtain ⟨p, hp, e⟩ := Option.map_eq_some_iff.mp h
  have h1 := List.mem_of_find?_eq_some hp
  have h2 : p.1 = n := by have := List.find?_some hp; simpa using this
  obtain ⟨a, b⟩ := p
  cases h2
  cases e
  exact h1
theorem look_some {α : Type} {n : Str} : ∀ {l : List (Str × α)}, n ∈ names l → ∃ v, look l n = some v
  | [], h => by cases h
  | p :: r, h => by
    by_cases e : p.1 = n
    · exact ⟨p.2, look_pos e⟩
    · rw [look_neg e]
      exact look_some (l := r) (by
        rcases List.mem_cons.mp h with q | q
        · exact absurd q.symm e
        · exact q)
theorem look_of_none {α : Type} {n : Str} : ∀ {l : List (Str × α)}, n ∉ names l → look l n = none
  | [], _ => rfl
  | p :: r, h => by
    rw [look_neg fun e => h (by rw [← e]; exact List.mem_cons_self)]
    exact look_of_none (l := r) fun m => h (List.mem_cons_of_mem _ m)
/-! ### for i, x in enumerate(t), t a tuple -/
theorem meets_enum_tup (l : Addr) (items : Array Value) :
    Meets (Builtin.«enumerate.__new__» ⟨[.type "enumerate", .ref l], []⟩) (fun _ R s => s.heap.IsTuple l items ∧
      R (.ok (.ret (.ref (s.heap.push { cls := .type "tuple_iterator", data := .fields #[.ref l, .int 0 0] }).objs.size)))
        { s with heap := (s.heap.push { cls := .type "tuple_iterator", data := .fields #[.ref l, .int 0 0] }).push { cls := .type "enumerate", data := .fields #[.none, .bool false, .ref s.heap.objs.size, rawInt 0, .none, .none] } }) :=
  .of_wp fun prog w A R s h => by
    obtain ⟨hp, g, d, tk, os⟩ := s; obtain ⟨hl, h⟩ := h
    have hsub := sub_enumerate
    wp_walk
    refine wpAny_stack_any fun st => wpAny_pure ?_
    split
    · rename_i c _ _ _ _ _
      cases (c == Value.type "enumerate")
      · wp_walk using wpAny_pyIter_tuple hl
        exact ⟨_, rfl, h⟩
      · wp_walk using wpAny_pyIter_tuple hl
        exact ⟨_, rfl, h⟩
    · wp_walk using wpAny_pyIter_tuple hl
      exact ⟨_, rfl, h⟩
theorem call_enum_tup {prog : Program} {w : World} {A : Around} {E : Value → Shared → Prop} {s : Shared} {l : Addr} {items : Array Value} {Q : Value → Shared → Prop} (hL : s.heap.IsTuple l items)
    (h : ∀ h', IsEnum h' (s.heap.objs.size + 1) s.heap.objs.size 0 .none → h'.IsTupleIter s.heap.objs.size l 0 → h'.objs.size = s.heap.objs.size + 2 →
      (∀ b o, s.heap.get? b = some o → h'.get? b = some o) → Q (.ref (s.heap.objs.size + 1)) { s with heap := h' }) :
    wpAny (model prog w) A (call (.type "enumerate") [.ref l]) Q E s := by
  refine callType_new F.called_enumerate (by decide) (F.typeCall_enumerate_1 _) (F.newCall_enumerate_1 _) (fun obj => F.args_object_init_2 obj _) F.entry_enumerate_new
    (meets_enum_tup l items) ⟨hL, ?_⟩
  have hz : (s.heap.push { cls := .type "tuple_iterator", data := .fields #[.ref l, .int 0 0] }).objs.size = s.heap.objs.size + 1 := Heap.size_push ..
  show _ ∧ _
  rw [hz]
  have he : IsEnum ((s.heap.push { cls := .type "tuple_iterator", data := .fields #[.ref l, .int 0 0] }).push
      { cls := .type "enumerate", data := .fields #[.none, .bool false, .ref s.heap.objs.size, rawInt 0, .none, .none] }) (s.heap.objs.size + 1) s.heap.objs.size 0 .none := by
    have := Heap.get?_push_size (s.heap.push { cls := .type "tuple_iterator", data := .fields #[.ref l, .int 0 0] })
      (o := { cls := .type "enumerate", data := .fields #[.none, .bool false, .ref s.heap.objs.size, rawInt 0, .none, .none] }) rfl
    rw [hz] at this; exact this
  refine ⟨⟨_, he, rfl⟩, h _ he ⟨_, Heap.get?_push_of_some _ (Heap.get?_push_size _ rfl), rfl, rfl⟩ (by rw [Heap.size_push, hz]) fun b o x => Heap.get?_push_of_some _ (Heap.get?_push_of_some _ x)⟩
theorem enum_endT {prog : Program} {w : World} {A : Around} {E : Value → Shared → Prop} {s : Shared} {e it l : Addr} {i : Nat} {items : Array Value} {old : Value} {Q : Option Value → Shared → Prop} (hh : A.in1.handled = none)
    (he : IsEnum s.heap e it i old) (hit : s.heap.IsTupleIter it l i) (hl : s.heap.IsTuple l items) (hx : items[i]? = none) (hQ : ∀ h', Heap.ExtBut it s.heap h' → Q none { s with heap := h' }) : wpAny (model prog w) A (pyNext (.ref e)) Q E s := by
  have hT : s.TypeIs (.ref e) "enumerate" := ⟨_, he, rfl⟩
  unfold pyNext
  refine wpAny_bind (wpAny_attempt (wpAny_callSpecial?_slot (name := Str.ofString "__next__") hT F.slot_enumerate_next
    (wpAny_call_entry F.slot_enumerate_next hT F.entry_enumerate_next ?_ (F.args_enumerate_next_1 _))))
  show wpAny _ _ (field (.ref e) 2 >>= _) _ _ _
  refine wpAny_bind (wpAny_field he rfl (x := .ref it) rfl ?_)
  refine wpAny_bind (wpAny_nextOf_tuple_end hh hit hl hx fun h' x he' hx' => ?_)
  obtain ⟨o, ho, hc⟩ := hx'
  refine wpAny_bind (wpAny_isInstance (T := "StopIteration") (b := true) ⟨o, ho, hc⟩ isSubtype_stop ?_)
  exact wpAny_pure (hQ _ he')
/-- the tuple at a, each item in a new pair -/
def IteT (K : PySem.W.Frag) (a : Addr) : It :=
  ⟨fun i H => ∃ (xs : List V) (x : V), SqT K H a xs ∧ xs[i]? = some x, fun i H v H' => ∃ T x, v = .ref T ∧ H T = none ∧ H' = upd H T (.tup [.int (i : Nat), x]) ∧ ∀ xs, SqT K H a xs → xs[i]? = some x, fun i H => ∃ xs : List V, SqT K H a xs ∧ xs.length ≤ i⟩
theorem turn_enumT {P : Program} {w : World} {K : PySem.W.Frag} {elts : List Expr} {kk : Nat} {tpos : Pos} (a e it : Addr) (hai : a ≠ it) (hae : e ≠ a) :
    Turn P w K (.Tuple elts kk tpos) (IteT K a) [e, it] e (fun i h => (∃ old, IsEnum h e it ((i : Nat) : Int) old) ∧ h.IsTupleIter it a i ∧ e ≠ it) where
  mem := by simp
  obj := fun i h st b hb => by
    obtain ⟨⟨old, he⟩, ⟨o, ho, hc, hd⟩, _⟩ := st
    have e' : b = e ∨ b = it := by simpa using hb
    rcases e' with z | z
    · rw [z]; exact ⟨_, he, fun v q => nomatch q⟩
    · rw [z]; exact ⟨o, ho, fun v q => by rw [hd] at q; cases q⟩
  keep := fun i h h' st k => let ⟨⟨old, he⟩, hi, hne⟩ := st; ⟨⟨old, k e (by simp) _ he⟩, hi.at fun o q => k it (by simp) o q, hne⟩
  item := by
    intro X hP hw hK hc i pins s σ H E I hf st hg
    subst hP hw hK
    obtain ⟨⟨old, he⟩, hit, hne⟩ := st
    obtain ⟨xs, x, hq, hx⟩ := hg
    obtain ⟨its, rv, p, hz⟩ := I.tuple hq
    obtain ⟨u, hu, ru⟩ := rv.get hx
    have hel : e < s.heap.objs.size := Heap.lt_size he
    have hil : it < s.heap.objs.size := by obtain ⟨_, q, _⟩ := hit; exact Heap.lt_size q
    have hh : X.A.in1.handled = none := I.ok.hd hc
    have hsz : i < its.toArray.size := by
      have := (List.getElem?_eq_some_iff.mp hu).1
      simpa using this
    refine wpAny_pyNext_enum_itemD (Draws.tuple (prog := X.prog) (w := X.w) (A := X.A.in1) hh it a hai its.toArray) he ⟨hit, p⟩ hsz hne (by simp [hne, hae]) fun y h' tk hy ho hst' hT hsz' hk => ?_
    have ey : y = u := by
      have h1 : its[i]? = some y := by simpa using hy
      rw [hu] at h1
      exact (Option.some.inj h1).symm
    subst ey
    refine ⟨_, rfl, wpAny_letOwnedTupleGo_enum (s := { s with heap := h', toks := tk + 1 }) ho fun h'' he' sb => ?_⟩
    have hT2 : h''.get? s.heap.objs.size = some { cls := .type "tuple", data := .seq #[.int i tk, y] } := (sb.2 _ (Nat.ne_of_gt hel)).trans hT
    have new : ObjOk X.prog X.w (upd H s.heap.objs.size (.tup [.int (i : Nat), x])) h'' s.heap.objs.size (.tup [.int (i : Nat), x]) :=
      ⟨by show 2 ≤ sizeLine; decide, [.int i tk, y], .cons ⟨_, rfl⟩ (.cons ru .nil), ⟨_, hT2, rfl, _, rfl⟩⟩
    have I1 : Inv X pins σ (upd H s.heap.objs.size (.tup [.int (i : Nat), x])) { s with heap := h'', toks := tk + 1 } :=
      I.turnedNew (ch := [e, it]) (fun b ob hb q => (sb.2 b (fun z => hb (by simp [z]))).trans (hk b ob (fun z => hb (by simp [z])) (fun z => hb (by simp [z])) q)) hf (Nat.le_refl _) new
    refine ⟨.ref s.heap.objs.size, _, I1, rfl, ⟨_, x, rfl, I.hok.fresh (Nat.le_refl _), rfl, fun ys hy' => by rw [I.tuple_inj hy' hq]; exact hx⟩, ⟨⟨y, ?_⟩, hst'.1.at fun o q => (sb.2 it (Ne.symm hne)).trans q, hne⟩, fun b hb => ?_⟩
    · have e1 : ((i + 1 : Nat) : Int) = (i : Int) + 1 := by omega
      rw [e1]; exact he'
    · have hb' : b < s.heap.objs.size := by
        have e' : b = e ∨ b = it := by simpa using hb
        rcases e' with z | z
        · rw [z]; exact hel
        · rw [z]; exact hil
      rw [upd_ne (Nat.ne_of_lt hb')]
      exact (hf b hb).1
  done := by
    intro X hP hw hK hc i pins s σ H E I hf st hg
    subst hP hw hK
    obtain ⟨⟨old, he⟩, hit, hne⟩ := st
    obtain ⟨xs, hq, hx⟩ := hg
    obtain ⟨its, rv, p, hz⟩ := I.tuple hq
    obtain ⟨f0, f1, f2, f3, f4, f5⟩ := hf it (by simp)
    have hl := rv.length
    have hh : X.A.in1.handled = none := I.ok.hd hc
    exact enum_endT hh he hit p (by simp; omega) fun h' eb => ⟨rfl, I.turned (t' := s.toks) (fun b o hb q => eb b o hb q) f0 f1 f3 f4 f5⟩
  self := fun A i s Q E st h => let ⟨⟨_, he⟩, _⟩ := st; wpAny_pyIter_enum he h
def iEnumT (K : PySem.W.Frag) (ta : TA) : TI := fun σ H R => ta σ H fun vs H1 => ∃ a xs, vs = [.ref a] ∧ SqT K H1 a xs ∧ R (IteT K a) H1
theorem pi_enumT {X : Cx} {e : Expr} {ta : TA} {p pos tpos : Pos} {elts : List Expr} {kk : Nat} (hg : Gl X "enumerate") (hm : X.mg "enumerate" = none) (ha : PA X [e] ta) (hs : starEach [e] X.env = [(false, eval e X.env)] := by rfl) :
    PI X (.Tuple elts kk tpos) (.Call (.Name "enumerate" p) [e] [] pos) (iEnumT X.K ta) := by
  refine ⟨fun pins s σ H R I h => ?_⟩
  refine PyProof.Rows.Call_ (ld_blt I hg hm PyProof.Rows.Boot.«enumerate» (PyProof.Rows.callWith_type1 (thn (ha.run pos pins s σ H _ I h) fun us s1 ⟨vs, H1, I1, r1, q1⟩ => ?_) hs rfl))
  obtain ⟨a, xs, ex, hq, q⟩ := q1
  subst ex
  cases r1 with
  | cons r rr =>
    cases rr
    cases r
    obtain ⟨its, rv, p', hz⟩ := I1.tuple hq
    have hal : a < s1.heap.objs.size := by obtain ⟨o, g, _⟩ := p'; exact Heap.lt_size g
    refine call_enum_tup p' fun h' he hit hsz hk => wpAny_pyIter_enum he ?_
    have I2 : Inv X pins σ H1 { s1 with heap := h' } := I1.kept (t' := s1.toks) hk
    refine ⟨s1.heap.objs.size + 1, [s1.heap.objs.size + 1, s1.heap.objs.size], _, _, H1, rfl, I2, turn_enumT a (s1.heap.objs.size + 1) s1.heap.objs.size (Nat.ne_of_lt hal) (Nat.ne_of_gt (Nat.lt_succ_of_lt hal)), ⟨⟨.none, he⟩, hit, Nat.succ_ne_self _⟩, fun b hb => ?_, q⟩
    have e' : b = s1.heap.objs.size + 1 ∨ b = s1.heap.objs.size := by simpa using hb
    have hle : s1.heap.objs.size ≤ b := by
      rcases e' with z | z
      · rw [z]; exact Nat.le_add_right _ _
      · rw [z]; exact Nat.le_refl _
    exact I1.fpOk hle (I1.hok.fresh hle)
/-- a loop over it -/
theorem for_enumT {K : PySem.W.Frag} {a : Addr} {xs : List V} {g : TG} {tb : TS} {D : Ends} {σ : L2.St} {H : Hp} (Pv : Nat → L2.St → Hp → Prop) (h0 : Pv 0 σ H) (hl : ∀ i σ H, i ≤ xs.length → Pv i σ H → SqT K H a xs)
    (hs : ∀ i x T σ H, xs[i]? = some x → H T = none → Pv i σ H → g (.ref T) σ (upd H T (.tup [.int (i : Nat), x])) fun σ2 H2 => tb { D with nx := Pv (i + 1), ct := Pv (i + 1), bk := D.nx } σ2 H2) (hd : ∀ σ H, Pv xs.length σ H → D.nx σ H) :
    ∃ W : Nat → Nat → L2.St → Hp → Prop, (∃ m, W 0 m σ H) ∧ ∀ i m σ H, W i m σ H →
      ((IteT K a).stop i H ∧ D.nx σ H) ∨ ((IteT K a).go i H ∧ ∃ N : L2.St → Hp → Prop, (∀ σ' H', N σ' H' → ∃ m', m' < m ∧ W (i + 1) m' σ' H') ∧ ∀ x H', (IteT K a).yld i H x H' → g x σ H' fun σ2 H2 => tb { D with nx := N, ct := N, bk := D.nx } σ2 H2) := by
  refine ⟨fun i m σ H => m = xs.length - i ∧ i ≤ xs.length ∧ Pv i σ H, ⟨xs.length, by simp, Nat.zero_le _, h0⟩, ?_⟩
  rintro i m σ H ⟨rfl, hi, p⟩
  have q := hl i σ H hi p
  by_cases hlt : i < xs.length
  · refine .inr ⟨⟨xs, xs[i], q, by simp [hlt]⟩, Pv (i + 1), fun σ' H' p' => ⟨xs.length - (i + 1), by omega, rfl, hlt, p'⟩, fun v H' y => ?_⟩
    obtain ⟨T, x, rfl, nT, rfl, y⟩ := y
    exact hs i x T σ _ (y xs q) nT p
  · have e : i = xs.length := by omega
    subst e
    exact .inl ⟨⟨xs, q, Nat.le_refl _⟩, hd σ H p⟩
/-! ### names -/
theorem low_ok : ∀ c, 97 ≤ c → c ≤ 122 → Unicode.isAlpha c = true ∧ Unicode.isLower c = true ∧ Unicode.isUpper c = false ∧ Unicode.isTitle c = false := by
  have h : ∀ k : Fin 26, Unicode.isAlpha (97 + k.val) = true ∧ Unicode.isLower (97 + k.val) = true ∧ Unicode.isUpper (97 + k.val) = false ∧ Unicode.isTitle (97 + k.val) = false := by decide +kernel
  intro c h1 h2
  have := h ⟨c - 97, by omega⟩
  rw [show 97 + (c - 97) = c by omega] at this
  exact this
/-- what is_name tells of a text -/
def nmS (z : Str) : Bool := !decide (8 < z.length) && (Txt.isascii z && (Txt.isalpha z && Txt.islower z))
def nmD : PyData → Bool
  | .str z => nmS z
  | _ => false
theorem IsWord.nm {z : Str} (h : IsWord z) : nmS z = true := by
  obtain ⟨h1, h2, h3⟩ := h
  have hm : ∀ c, c ∈ z.cps → 97 ≤ c ∧ c ≤ 122 := fun c hc => h3 c (Array.mem_toList_iff.mpr hc)
  have e1 : (!decide (8 < z.length)) = true := by simp; omega
  have e2 : Txt.isascii z = true := by
    unfold Txt.isascii
    rw [Array.all_eq_true_iff_forall_mem]
    intro c hc
    have := hm c hc
    exact decide_eq_true (by omega)
  have e3 : Txt.isalpha z = true := by
    unfold Txt.isalpha
    rw [Bool.and_eq_true]
    refine ⟨decide_eq_true (by omega), ?_⟩
    rw [Array.all_eq_true_iff_forall_mem]
    intro c hc
    exact (low_ok c (hm c hc).1 (hm c hc).2).1
  have e4 : Txt.islower z = true := by
    unfold Txt.islower
    rw [Bool.and_eq_true]
    have hz : 0 < z.cps.size := h1
    refine ⟨?_, ?_⟩
    · rw [← Array.any_toList, List.any_eq_true]
      exact ⟨z.cps[0], Array.mem_toList_iff.mpr (Array.getElem_mem hz), (low_ok _ (hm _ (Array.getElem_mem hz)).1 (hm _ (Array.getElem_mem hz)).2).2.1⟩
    · rw [Bool.not_eq_true', ← Array.any_toList, List.any_eq_false]
      intro c hc
      have hc := Array.mem_toList_iff.mp hc
      have := low_ok c (hm c hc).1 (hm c hc).2
      rw [this.2.2.1, this.2.2.2]
      simp
  unfold nmS
  rw [e1, e2, e3, e4]
  rfl
def spIsName (K : PySem.W.Frag) : Sp := fun vs H Q _ => ∃ (v : V) (d : PyData), vs = [v] ∧ Dp K H v d ∧ (∀ z, d = .str z → z.length ≤ 1000) ∧ Q (.bl (nmD d)) H
/-- never reached -/
theorem ps_never {X : Cx} {st : Stmt} : PS X st (fun _ _ _ => False) := ⟨fun _ _ _ _ _ _ h => h.elim⟩
section
variable {P : Program} {w : World} {K : PySem.W.Frag} {mg : Str → Option Value} {base : Heap}
theorem scIN : FnScope ["thing"] ["thing"] (defScope sIsName) := ⟨rfl, rfl, rfl, by decide +kernel, rfl, by decide +kernel, by decide +kernel⟩
theorem ok_isname {f : Addr} {fd : FuncData} {k : Nat} {tk : Tok} (F : Fun K "is_name" "is_name" sIsName f fd) (B : Bts mg) (mL : mg "LONGEST_NAME" = some (.int 8 tk)) : FnOk P w K mg base CX0 (k + 1) f fd ["thing"] (spIsName K) := by
  refine F.ok scIN (fun vs H Q E h => ?_) (fun cdv A outer s H vs Q E hr h => ?_)
  · obtain ⟨v, d, rfl, _⟩ := h
    rfl
  · obtain ⟨v, d, rfl, hv, hz, kk⟩ := h
    refine ⟨_, pss_cons (ps_if (PW.pt (pw_or (pt_not (pt_val (pe_callB call_isi (by rfl) B.isinstance (by decide +kernel) (pa_cons (pv 0) (pa_cons (pe_bltn (v := .ty "str") (by rfl) B.str (by decide +kernel) rfl) pa_nil)))))
          (pw_or1 (pt_cmpR op_gt (pe_callB call_len_str (by rfl) B.len PySem.boot_len (pa_cons (pv 0) pa_nil)) (pe_glob (v := .int 8) rfl mL ⟨tk, rfl⟩) (by rfl)))))
        (pss_one (ps_ret pe_bl)) pss_nil)
      (pss_one (ps_ret (pe_and (pe_bm0 PySem.F.plainAttrs_str PySem.F.slot_str_isascii PySem.F.type_str_isascii mt_isascii (pv 0))
        (pe_and (pe_bm0 PySem.F.plainAttrs_str PySem.F.slot_str_isalpha PySem.F.type_str_isalpha mt_isalpha (pv 0))
        (pe_one (pe_bm0 PySem.F.plainAttrs_str PySem.F.slot_str_islower PySem.F.type_str_islower mt_islower (pv 0))))))), ?_⟩
    by_cases hs : ∃ z, d = .str z
    · obtain ⟨z, rfl⟩ := hs
      have hl := hz z rfl
      cases hv
      refine ⟨_, rfl, _, _, _, _, true, rfl, .ty _, TyX.base (TyOf.str z), kit_ty (by decide +kernel), _, rfl, iteF ?_⟩
      refine ⟨_, rfl, z, rfl, len1000 hl, _, _, rfl, rfl, _, rfl, ite2 (fun h => ?_) (fun h => ?_)⟩
      · have h8 : 8 < z.length := by have := of_decide_eq_true h; omega
        have e : nmS z = false := by unfold nmS; rw [decide_eq_true h8]; rfl
        show Q (.bl false) H
        have kk : Q (.bl (nmS z)) H := kk
        rw [e] at kk
        exact kk
      · have h8 : ¬ 8 < z.length := fun q => h (decide_eq_true (by omega))
        have e : nmS z = (Txt.isascii z && (Txt.isalpha z && Txt.islower z)) := by unfold nmS; rw [decide_eq_false h8]; rfl
        have kk : Q (.bl (nmS z)) H := kk
        rw [e] at kk
        refine ⟨_, rfl, rfl, z, rfl, rfl, True.intro, _, rfl, ite2 (fun ha => ?_) (fun ha => ?_)⟩
        · rw [ha, Bool.true_and] at kk
          refine ⟨_, rfl, rfl, z, rfl, rfl, True.intro, _, rfl, ite2 (fun hb => ?_) (fun hb => ?_)⟩
          · rw [hb, Bool.true_and] at kk
            exact ⟨_, rfl, rfl, z, rfl, rfl, True.intro, kk⟩
          · rw [Bool.eq_false_iff.mpr hb, Bool.false_and] at kk
            exact kk
        · rw [Bool.eq_false_iff.mpr ha, Bool.false_and] at kk
          exact kk
    · have e : nmD d = false := by
        cases d with
        | str z => exact absurd ⟨z, rfl⟩ hs
        | _ => rfl
      have kt : kitB (tyName d) "str" = some false := by
        cases d with
        | str z => exact absurd ⟨z, rfl⟩ hs
        | none => exact (by decide +kernel : kitB "NoneType" "str" = some false)
        | bool b => exact (by decide +kernel : kitB "bool" "str" = some false)
        | int i => exact (by decide +kernel : kitB "int" "str" = some false)
        | list l => exact (by decide +kernel : kitB "list" "str" = some false)
        | tuple l => exact (by decide +kernel : kitB "tuple" "str" = some false)
        | dict l => cases hv
      rw [e] at kk
      exact ⟨_, rfl, _, _, _, _, false, rfl, .ty _, ty_of hv, kit_ty kt, _, rfl, iteT (iteT kk)⟩
/-- check_names(t): all are names -/
def spNames0 (K : PySem.W.Frag) : Sp := fun vs H Q _ => ∃ (t : Addr) (xs : List Str), vs = [.ref t] ∧ SqT K H t (xs.map V.str) ∧ (∀ x ∈ xs, IsWord x) ∧ Q .non H
theorem scCN : FnScope ["things", "thing"] ["things"] (defScope sNames) := ⟨rfl, rfl, rfl, by decide +kernel, rfl, by decide +kernel, by decide +kernel⟩
theorem ok_names0 {f fI : Addr} {fd fdI : FuncData} (F : Fun K "check_names" "check_names" sNames f fd) (GI : FnOk P w K mg base CX0 1 fI fdI ["thing"] (spIsName K)) (mI : mg "is_name" = some (.ref fI)) (kI : PySem.W.keepIn K (.ref fI) = true) (bI : Binds K fdI ["thing"] []) :
    FnOk P w K mg base CX0 2 f fd ["things"] (spNames0 K) := by
  refine F.ok scCN (fun vs H Q E h => ?_) (fun cdv A outer s H vs Q E hr h => ?_)
  · obtain ⟨t, xs, rfl, _⟩ := h
    rfl
  · obtain ⟨t, xs, rfl, ht, hw, kk⟩ := h
    refine ⟨_, pss_one (ps_for PassesOwn.never rfl (pi_tup (pv 0)) (pg_name (i := 1) scCN.nd rfl (.inl rfl))
      (pss_one (ps_if (pt_not (pt_val (pe_call GI hr (by rfl) mI kI bI .nil pass0 (pa_cons (pv 1) pa_nil)))) (pss_one ps_never) pss_nil))), ?_⟩
    refine ⟨_, rfl, t, rfl, ⟨_, ht⟩, for_tup (K := K) (a := t) (xs := xs.map V.str) (fun i σ H2 => ∃ y, σ = [some (.ref t), y] ∧ H2 = H) ⟨none, rfl, rfl⟩ (fun i σ H2 _ ⟨_, _, e⟩ => by rw [e]; exact ht) ?_ ?_⟩
    · rintro i x σ H2 hx ⟨y, rfl, rfl⟩
      rw [List.getElem?_map] at hx
      obtain ⟨z, hz, rfl⟩ := Option.map_eq_some_iff.mp hx
      have hwz := hw z (List.mem_of_getElem? hz)
      refine ⟨_, rfl, .str z, .str z, rfl, .str z, fun z' e => ?_, _, rfl, ?_⟩
      · cases e; have := hwz.2.1; omega
      · have e : nmD (.str z) = true := hwz.nm
        rw [e]
        exact iteF ⟨_, rfl, rfl⟩
    · rintro σ H2 ⟨y, rfl, rfl⟩
      exact kk
/-- check_unlike(t): all unlike -/
def spUnlike0 (K : PySem.W.Frag) : Sp := fun vs H Q _ => ∃ (t : Addr) (xs : List Str), vs = [.ref t] ∧ SqT K H t (xs.map V.str) ∧ xs.Nodup ∧ xs.length ≤ 1000 ∧ ∀ H', Same H H' → Q .non H'
theorem scCU : FnScope ["names", "at", "name"] ["names"] (defScope sUnlike) := ⟨rfl, rfl, rfl, by decide +kernel, rfl, by decide +kernel, by decide +kernel⟩
theorem ok_unlike0 {f : Addr} {fd : FuncData} {k : Nat} (F : Fun K "check_unlike" "check_unlike" sUnlike f fd) (me : mg "enumerate" = none) : FnOk P w K mg base CX0 (k + 1) f fd ["names"] (spUnlike0 K) := by
  refine F.ok scCU (fun vs H Q E h => ?_) (fun cdv A outer s H vs Q E hr h => ?_)
  · obtain ⟨t, xs, rfl, _⟩ := h
    rfl
  · obtain ⟨t, xs, rfl, ht, hn, hl, kk⟩ := h
    refine ⟨_, pss_one (ps_for PassesOwn.never rfl (pi_enumT (by rfl) me (pa_cons (pv 0) pa_nil)) (pg_tup rfl (pgs_cons (pg_name (i := 1) scCU.nd rfl (.inl rfl)) (pgs_cons (pg_name (i := 2) scCU.nd rfl (.inl rfl)) pgs_nil)))
      (pss_one (ps_if (pt_cmpR op_in_seq (pv 2) (pe_slice sl_tup (pv 0) po_none (po_some (pv 1))) (by rfl)) (pss_one ps_never) pss_nil))), ?_⟩
    refine ⟨_, rfl, t, _, rfl, ht, for_enumT (K := K) (a := t) (xs := xs.map V.str) (fun i σ H2 => ∃ y z, σ = [some (.ref t), y, z] ∧ Same H H2) ⟨none, none, rfl, Same.refl _⟩ (fun i σ H2 _ ⟨_, _, _, e⟩ => Same.seqT e ht) ?_ ?_⟩
    · rintro i x T σ H2 hx nT ⟨y, z, rfl, s2⟩
      rw [List.getElem?_map] at hx
      obtain ⟨u, hu, rfl⟩ := Option.map_eq_some_iff.mp hx
      have hi : i < xs.length := (List.getElem?_eq_some_iff.mp hu).1
      have s3 := s2.trans (same_new (o := .tup [.int (i : Nat), .str u]) nT)
      have ht3 := Same.seqT s3 ht
      refine ⟨T, [.int (i : Nat), .str u], rfl, SqT.of upd_same, rfl, .int (i : Nat), [.str u], rfl, .str u, [], rfl, rfl, ?_⟩
      refine ⟨_, rfl, _, rfl, _, rfl, i, rfl, t, _, rfl, ht3, ?_, fun p np => ?_⟩
      · rintro ⟨_, h2⟩
        rw [HT.sIx_nat, List.length_map] at h2
        omega
      · rw [cut_take]
        refine ⟨p, _, rfl, .inr (SqT.of upd_same), rfl, ?_, _, rfl, ?_⟩
        · rw [List.all_eq_true]
          intro v hv
          obtain ⟨w', _, rfl⟩ := List.mem_map.mp (List.mem_of_mem_take hv)
          rfl
        · have e : inV (.str u) ((xs.map V.str).take i) = false := by
            unfold inV
            rw [List.any_eq_false]
            intro v hv
            rw [← List.map_take] at hv
            obtain ⟨w', hw', rfl⟩ := List.mem_map.mp hv
            obtain ⟨j, hj⟩ := List.getElem?_of_mem hw'
            intro q
            have q' : w' = u := beq_iff_eq.mp q
            subst q'
            rw [List.getElem?_take] at hj
            split at hj
            · rename_i hji
              obtain ⟨h1, e1⟩ := List.getElem?_eq_some_iff.mp hj
              obtain ⟨h2, e2⟩ := List.getElem?_eq_some_iff.mp hu
              exact (List.pairwise_iff_getElem.mp hn) j i h1 h2 hji (e1.trans e2.symm)
            · cases hj
          rw [e]
          exact iteF ⟨_, _, rfl, s3.trans (same_new np)⟩
    · rintro σ H2 ⟨y, z, rfl, s2⟩
      exact kk H2 s2
end
/-! ### a static method called through its class; own == and str -/
structure SMet (K : PySem.W.Frag) (C : Addr) (m : Str) (p g : Addr) : Prop where
  at_ : PySem.W.findCls K (.ref C) (.type "type") m = some (.get (.builtin "staticmethod.__get__") (.ref p) .none (.ref C))
  rc : ∃ rest, PySem.W.recIn K p "staticmethod" = some (.ref g :: rest)
  kp : PySem.W.keepIn K (.ref g) = true
def tSMeth (C : Addr) (sp : Sp) (E : XK) (ta : TE) (t : TA) : TE := fun σ H Q => ta σ H fun x H1 => x = .ref C ∧ t σ H1 fun vs H2 => sp vs H2 Q E
section
variable {X : Cx} {CX : CXT} {k : Nat} {C p g : Addr} {sp : Sp} {E : XK} {o e : Expr} {es : List Expr} {m : Str} {pos apos : Pos} {ta : TE} {t : TA} {pl : Sem Bool}
theorem pe_smeth (he : PE X o ta) (r : ClX.CRead X.K C (.type "type")) (c : SMet X.K C m p g) (F : FnR X.prog X.w X.K X.mg X.base CX k g sp) (hr : Room k X.A) (hx : Passes CX X E) (ha : PA X (e :: es) t)
    (hst : starEach (e :: es) X.env = (false, eval e X.env) :: starEach es X.env := by rfl) (hpl : (backTo pos (starEach es X.env)).any (·.1) = false := by rfl)
    (ht : eval (.Call (.Attribute o m apos) (e :: es) [] pos) X.env = (do
      let ov ← eval o X.env
      standAt apos.atName
      let (f, first) ← holding [ov] (getMethod ov m pl)
      callWith pos f first (backTo pos (starEach (e :: es) X.env)) (backToKw pos (keywordEach [] X.env))) := by rfl) :
    PE X (.Call (.Attribute o m apos) (e :: es) [] pos) (tSMeth C sp E ta t) := by
  refine ⟨fun pins s σ H Q I h => ?_⟩
  refine PySem.W.methodCall_KW (pl := pl) (thn (he.run pins s σ H _ I h) fun u s1 ⟨x, H1, I1, rx, ex, q⟩ => ?_) ht
  subst ex
  obtain rfl : u = Value.ref C := rx
  obtain ⟨rest, hp⟩ := c.rc
  refine PySem.W.method_cls I1.kIn r.ga (PySem.W.cls_bind I1.kIn r.rd c.at_ (wpAny_call (PySem.W.sm_get I1.kIn hp (PySem.W.handed_on rfl ?_))))
  refine PySem.W.callWith_K (h₀ := X.base) (first := []) I.ok.mod.kin c.kp (thn (ha.run pos pins _ σ H1 _ (I1.tok _) q) fun us s2 ⟨vs, H2, I2, rv, q2⟩ => ⟨I2.kIn, ?_⟩) hst hpl
  exact wpAny_call (run_fnR F hr hx I2 rv q2)
/-- x == y by C's own __eq__, both of the class at C -/
def rEqOwn (C : Addr) (sp : Sp) (E : XK) : R2 := fun x y H Q => ∃ a dx fs b dy gs, x = .ref a ∧ y = .ref b ∧ H a = some (.ins C dx fs) ∧ H b = some (.ins C dy gs) ∧ sp [x, y] H Q E
theorem op_eqOwn (hs : PySem.W.findIn X.K (.ref C) "__eq__" = some (some (.ref g))) (hf : PySem.W.isFn X.K (.ref g) = true) (F : FnR X.prog X.w X.K X.mg X.base CX k g sp) (hr : Room k X.A) (hx : Passes CX X E) : OpR X (compareOp .Eq) (rEqOwn C sp E) := by
  intro pins s σ H x y v u Q I rx ry h
  obtain ⟨a, dx, fs, b, dy, gs, rfl, rfl, ha, hb, q⟩ := h
  cases (show v = Value.ref a from rx)
  cases (show u = Value.ref b from ry)
  obtain ⟨mA, O, _⟩ := ins_get I.hok ha
  obtain ⟨mB, O', _⟩ := ins_get I.hok hb
  obtain ⟨od, J, _⟩ := O.look
  obtain ⟨od', J', _⟩ := O'.look
  obtain ⟨m, hF⟩ := I.fr
  have hn : PySem.W.notFirst X.K C (.ref C) = true := by unfold PySem.W.notFirst; simp
  show wpAny _ _ (richCompare .Eq (.ref a) (.ref b)) _ _ _
  refine PySem.W.cmp_K (op := .Eq) (tb := .ref C) hr.units0 hF I.ok.mod.kin J J'.type hn hs hf ?_
  refine wpAny_mono (wpAny_call (run_fnR (us := [.ref a, .ref b]) (vs := [.ref a, .ref b]) F hr hx I (.cons rfl (.cons rfl .nil)) q)) (fun w s' z => ?_) fun _ _ x => x
  obtain ⟨z', H', I', rz, qz⟩ := z
  exact SlX.cmpback rz ⟨z', H', I', rz, qz⟩
/-- str(x) by C's own __str__ -/
def rStrOwn (C : Addr) (sp : Sp) (E : XK) : List V → Hp → VK → Prop := fun xs H Q => ∃ a dx fs, xs = [.ref a] ∧ H a = some (.ins C dx fs) ∧ sp [.ref a] H (fun z H' => ∃ x, z = .str x ∧ Q z H') E
theorem call_strOwn (hs : PySem.W.findIn X.K (.ref C) "__str__" = some (some (.ref g))) (hf : PySem.W.isFn X.K (.ref g) = true) (F : FnR X.prog X.w X.K X.mg X.base CX k g sp) (hr : Room (k + 2) X.A) (hx : Passes CX X E) : CallR X (.type "str") (rStrOwn C sp E) := by
  intro pins s σ H xs us Q I r h
  obtain ⟨a, dx, fs, rfl, ha, q⟩ := h
  obtain ⟨u, rfl, ru⟩ := r.one
  cases (show u = Value.ref a from ru)
  obtain ⟨mA, O, _⟩ := ins_get I.hok ha
  obtain ⟨od, J, _⟩ := O.look
  have hr2 : Room k X.A.in1.in1 := (show Room (k + 1) X.A.in1 from Room.in1 hr).in1
  refine PySem.W.kso_call hr2.units0 I.kIn J hs hf (wpAny_mono (wpAny_call (SlX.run_at (us := [.ref a]) (ws := [.ref a]) F hr2 I.env0.in1.in1 hx I (.cons rfl .nil) q)) (fun w s' z => ?_) fun _ _ x => x)
  obtain ⟨z', H', I', rz, x, ex, qz⟩ := z
  subst ex
  obtain ⟨t, rfl⟩ := (show ∃ t, w = Value.str x t from rz)
  exact ⟨.str x, H', I', ⟨t, rfl⟩, qz⟩
end
/-! ### things -/
/-- what the written part says of Thing -/
structure ThIn (K : PySem.W.Frag) (mg : Str → Option Value) (C : Addr) : Prop where
  m : mg "Thing" = some (.ref C)
  cls : Cls K C
  nk : NoAttr K C "kind"
  nn : NoAttr K C "name"
  np : NoAttr K C "parts"
  rd : ClX.CRead K C (.type "type")
  ca : PySem.W.findIn K (.ref C) "__class__" = some (some (.builtin "object.__class__"))
  cn : PySem.W.specialIn K (.builtin "object.__class__") "__get__" = some (some (.builtin "getset_descriptor.__get__"))
  ct : PySem.W.takesIn K (.builtin "object.__class__") = some true
  cm : PySem.W.mroIn K C (.type "object") = some true
/-- a thing at a -/
def ThingAt (K : PySem.W.Frag) (H : Hp) (C a : Addr) (kind name : Str) (parts : List Str) : Prop :=
  ∃ dx fs t, H a = some (.ins C dx fs) ∧ fs.lookup ("kind" : Str) = some (.str kind) ∧ fs.lookup ("name" : Str) = some (.str name) ∧ fs.lookup ("parts" : Str) = some (.ref t) ∧ SqT K H t (parts.map V.str)
theorem ThingAt.same {K : PySem.W.Frag} {H H' : Hp} {C a : Addr} {kind name : Str} {parts : List Str} (s : Same H H') (h : ThingAt K H C a kind name parts) : ThingAt K H' C a kind name parts := by
  obtain ⟨dx, fs, t, h1, h2, h3, h4, h5⟩ := h
  exact ⟨dx, fs, t, s _ _ h1, h2, h3, h4, Same.seqT s h5⟩
def spInit (K : PySem.W.Frag) (C : Addr) : Sp := fun vs H Q _ => ∃ (a dx : Addr) (kind name : Str) (t : Addr) (parts : List Str), vs = [.ref a, .str kind, .str name, .ref t] ∧ H a = some (.ins C dx []) ∧ SqT K H t (parts.map V.str) ∧ IsWord name ∧ (∀ x ∈ parts, IsWord x) ∧ parts.length ≤ 900 ∧
  ∀ H', (∀ b o, b ≠ a → H b = some o → H' b = some o) → ThingAt K H' C a kind name parts → Q .non H'
/-- Thing.feed(name) and the like -/
def spMk (K : PySem.W.Frag) (C : Addr) (kind : Str) : Sp := fun vs H Q _ => ∃ (name : Str), vs = [.str name] ∧ IsWord name ∧ ∀ a H', Same H H' → ThingAt K H' C a kind name [] → Q (.ref a) H'
def spFieldM (K : PySem.W.Frag) (C : Addr) : Sp := fun vs H Q _ => ∃ (name over : Str), vs = [.str name, .str over] ∧ IsWord name ∧ IsWord over ∧ ∀ a H', Same H H' → ThingAt K H' C a "field" name [over] → Q (.ref a) H'
def spTableM (K : PySem.W.Frag) (C : Addr) : Sp := fun vs H Q _ => ∃ (name : Str) (keys : List Str), vs = .str name :: keys.map V.str ∧ IsWord name ∧ (∀ x ∈ keys, IsWord x) ∧ keys.Nodup ∧ keys.length ≤ 4 ∧ ∀ a H', Same H H' → ThingAt K H' C a "table" name keys → Q (.ref a) H'
section
variable {P : Program} {w : World} {K : PySem.W.Frag} {mg : Str → Option Value} {base : Heap}
theorem scTI : FnScope ["self", "kind", "name", "parts"] ["self", "kind", "name", "parts"] (defScope (me 1)) := ⟨rfl, rfl, rfl, by decide +kernel, rfl, by decide +kernel, by decide +kernel⟩
theorem fs_look (kind name : Str) (t : Addr) : (putF "parts" (.ref t) (putF "name" (.str name) (putF "kind" (.str kind) []))).lookup ("kind" : Str) = some (.str kind) ∧ (putF "parts" (.ref t) (putF "name" (.str name) (putF "kind" (.str kind) []))).lookup ("name" : Str) = some (.str name) ∧
    (putF "parts" (.ref t) (putF "name" (.str name) (putF "kind" (.str kind) []))).lookup ("parts" : Str) = some (.ref t) := by
  refine ⟨?_, ?_, ?_⟩ <;> simp only [lookup_putF] <;> rfl
theorem ok_init {f fN C : Addr} {fd fdN : FuncData} (T : ThIn K mg C) (F : Fun K "__init__" "Thing.__init__" (me 1) f fd) (GN : FnOk P w K mg base CX0 2 fN fdN ["things"] (spNames0 K)) (mN : mg "check_names" = some (.ref fN)) (kN : PySem.W.keepIn K (.ref fN) = true) (bN : Binds K fdN ["things"] []) :
    FnOk P w K mg base CX0 3 f fd ["self", "kind", "name", "parts"] (spInit K C) := by
  refine F.ok scTI (fun vs H Q E h => ?_) (fun cdv A outer s H vs Q E hr h => ?_)
  · obtain ⟨a, dx, kind, name, t, parts, rfl, _⟩ := h
    rfl
  · obtain ⟨a, dx, kind, name, t, parts, rfl, ha, ht, hn, hp, hl, kk⟩ := h
    refine ⟨_, pss_cons (ps_expr (pe_call GN hr (by rfl) mN kN bN .nil pass0 (pa_cons (pe_tup (pa_cons (pv 2) (StX.pa_star (pv 3) pa_nil))) pa_nil)))
      (pss_cons (ps_fld (pv 0) (pv 1) rfl) (pss_cons (ps_fld (pv 0) (pv 2) rfl) (pss_one (ps_fld (pv 0) (pv 3) rfl)))), ?_⟩
    refine ⟨_, rfl, _, rfl, t, _, rfl, .inl ht, len1000 (by simp only [List.length_cons, List.length_append, List.length_map, List.length_nil]; omega), fun p np => ?_⟩
    have npa : p ≠ a := (ne_of_none ha np).symm
    refine ⟨p, name :: parts, rfl, ?_, fun x hx => ?_, ?_⟩
    · rw [List.map_cons]
      have : (V.str name :: (parts.map V.str ++ [])) = V.str name :: parts.map V.str := by rw [List.append_nil]
      rw [← this]
      exact SqT.of upd_same
    · rcases List.mem_cons.mp hx with rfl | hx
      · exact hn
      · exact hp x hx
    · have ha1 := same_new (o := .tup (V.str name :: (parts.map V.str ++ []))) np _ _ ha
      refine ⟨_, rfl, _, rfl, a, C, dx, _, rfl, ha1, T.cls, T.nk, by decide, ?_⟩
      refine ⟨_, rfl, _, rfl, a, C, dx, _, rfl, upd_same, T.cls, T.nn, by simp [putF], ?_⟩
      refine ⟨_, rfl, _, rfl, a, C, dx, _, rfl, upd_same, T.cls, T.np, ?_, ?_⟩
      · have h2 : ∀ fs : List (Str × V), ∀ f v, (putF f v fs).length ≤ fs.length + 1 := fun fs f v => by
          induction fs with
          | nil => simp [putF]
          | cons p r ih =>
            obtain ⟨g, x⟩ := p
            unfold putF
            split
            · simp
            · simp only [List.length_cons]; omega
        have := h2 (putF "kind" (.str kind) []) "name" (.str name)
        have := h2 [] "kind" (.str kind)
        simp only [List.length_nil] at this
        omega
      · have kp : ∀ b o, b ≠ a → H b = some o → (upd (upd (upd (upd H p (.tup (V.str name :: (parts.map V.str ++ [])))) a (.ins C dx (putF "kind" (.str kind) []))) a (.ins C dx (putF "name" (.str name) (putF "kind" (.str kind) [])))) a (.ins C dx (putF "parts" (.ref t) (putF "name" (.str name) (putF "kind" (.str kind) []))))) b = some o := fun b o nb e => by
          rw [upd_ne nb, upd_ne nb, upd_ne nb]
          exact same_new np _ _ e
        refine kk _ kp ⟨dx, _, t, upd_same, (fs_look kind name t).1, (fs_look kind name t).2.1, (fs_look kind name t).2.2, ?_⟩
        rcases ht with (h1 | ⟨o, h1⟩) | h3
        · refine .inl (.inl (kp _ _ (fun e => ?_) h1))
          rw [e, ha] at h1; cases h1
        · refine .inl (.inr ⟨o, kp _ _ (fun e => ?_) h1⟩)
          rw [e, ha] at h1; cases h1
        · exact .inr h3
/-- Thing(kind, name, parts) -/
theorem make_at {C t0 x dx : Addr} {H1 : Hp} {kind name : Str} {parts : List Str} {R : Hp → Prop} (ht : SqT K H1 t0 (parts.map V.str)) (hn : IsWord name) (hp : ∀ x ∈ parts, IsWord x) (hl : parts.length ≤ 900) (nx : H1 x = none) (ndx : H1 dx = none) (q : ∀ H', Same H1 H' → ThingAt K H' C x kind name parts → R H') :
    spInit K C (.ref x :: ([.str kind, .str name, .ref t0] ++ [])) (upd (upd H1 dx (.own x)) x (.ins C dx [])) (fun v H2 => v = .non ∧ R H2) E0 := by
  have s1 : Same H1 (upd (upd H1 dx (.own x)) x (.ins C dx [])) := fun b o e => by
    rw [upd_ne (ne_of_none e nx), upd_ne (ne_of_none e ndx)]; exact e
  exact ⟨x, dx, kind, name, t0, parts, rfl, upd_same, Same.seqT s1 ht, hn, hp, hl, fun H' kp th => ⟨rfl, q H' (fun b o e => kp b o (ne_of_none e nx) (s1 b o e)) th⟩⟩
theorem ok_mk {i : Nat} {f fI C : Addr} {fd fdI : FuncData} {m qual kind : Str} (T : ThIn K mg C) (M : Mk K C fI) (F : Fun K m qual (me i) f fd) (GI : FnOk P w K mg base CX0 3 fI fdI ["self", "kind", "name", "parts"] (spInit K C)) (bI : Binds K fdI ["self", "kind", "name", "parts"] [])
    (S : FnScope ["name"] ["name"] (defScope (me i))) (hg : ∀ cdv A outer s H E, Gl (cxOf CX0 P w K mg base ["name"] qual (defScope (me i)) f cdv A outer s H E).nox "Thing") (hv : Vis (defScope (me i)) "name")
    {p1 p2 p3 p4 p5 p6 : Pos} {j k : Nat} (hb : defBody (me i) = [.Return (some (.Call (.Name "Thing" p1) [.Constant (.str kind) j p2, .Name "name" p3, .Tuple [] k p4] [] p5)) p6]) : FnOk P w K mg base CX0 5 f fd ["name"] (spMk K C kind) := by
  refine F.ok S (fun vs H Q E h => ?_) (fun cdv A outer s H vs Q E hr h => ?_)
  · obtain ⟨name, rfl, _⟩ := h
    rfl
  · obtain ⟨name, rfl, hn, kk⟩ := h
    rw [hb]
    refine ⟨_, pss_one (ps_ret (pe_make M GI hr (hg _ _ _ _ _ _) T.m bI .nil pass0 (pa_cons pe_str (pa_cons (pe_var (i := 0) rfl hv (by decide) (by decide)) (pa_cons (pe_tup pa_nil) pa_nil))))), ?_⟩
    refine ⟨_, rfl, by show 0 ≤ sizeLine; decide, fun t0 nt => ?_⟩
    intro x dx nx ndx _
    exact make_at (parts := []) (SqT.of upd_same) hn (fun x hx => by cases hx) (by simp) nx ndx fun H' s th => kk x H' ((same_new nt).trans s) th
end
section
variable {P : Program} {w : World} {K : PySem.W.Frag} {mg : Str → Option Value} {base : Heap}
theorem scF2 : FnScope ["name", "over"] ["name", "over"] (defScope (me 6)) := ⟨rfl, rfl, rfl, by decide +kernel, rfl, by decide +kernel, by decide +kernel⟩
theorem ok_field {f fI C : Addr} {fd fdI : FuncData} (T : ThIn K mg C) (M : Mk K C fI) (F : Fun K "field" "Thing.field" (me 6) f fd) (GI : FnOk P w K mg base CX0 3 fI fdI ["self", "kind", "name", "parts"] (spInit K C)) (bI : Binds K fdI ["self", "kind", "name", "parts"] []) : FnOk P w K mg base CX0 5 f fd ["name", "over"] (spFieldM K C) := by
  refine F.ok scF2 (fun vs H Q E h => ?_) (fun cdv A outer s H vs Q E hr h => ?_)
  · obtain ⟨name, over, rfl, _⟩ := h
    rfl
  · obtain ⟨name, over, rfl, hn, ho, kk⟩ := h
    refine ⟨_, pss_one (ps_ret (pe_make M GI hr (by rfl) T.m bI .nil pass0 (pa_cons pe_str (pa_cons (pv 0) (pa_cons (pe_tup (pa_cons (pv 1) pa_nil)) pa_nil))))), ?_⟩
    refine ⟨_, rfl, _, rfl, by show 1 ≤ sizeLine; decide, fun t0 nt => ?_⟩
    intro x dx nx ndx _
    exact make_at (parts := [over]) (SqT.of upd_same) hn (fun x hx => by rw [List.mem_singleton.mp hx]; exact ho) (by simp) nx ndx fun H' s th => kk x H' ((same_new nt).trans s) th
theorem scTb : FnScope ["name", "keys", "made"] ([("name" : Str)] ++ [("keys" : Str)]) (defScope (me 4)) := ⟨rfl, rfl, rfl, by decide +kernel, rfl, by decide +kernel, by decide +kernel⟩
theorem ok_tableM {f fI fU C : Addr} {fd fdI fdU : FuncData} {tk : Tok} (T : ThIn K mg C) (M : Mk K C fI) (F : Fun K "table" "Thing.table" (me 4) f fd) (GI : FnOk P w K mg base CX0 3 fI fdI ["self", "kind", "name", "parts"] (spInit K C)) (bI : Binds K fdI ["self", "kind", "name", "parts"] [])
    (GU : FnOk P w K mg base CX0 2 fU fdU ["names"] (spUnlike0 K)) (mU : mg "check_unlike" = some (.ref fU)) (kU : PySem.W.keepIn K (.ref fU) = true) (bU : Binds K fdU ["names"] []) (mlen : mg "len" = none) (mM : mg "MOST_KEYS" = some (.int 4 tk)) : FnR P w K mg base CX0 5 f (spTableM K C) := by
  obtain ⟨oc, od, kV, doc, pm, an, cdv, ct, osl, rfl, lk, hcd⟩ := F.ex
  have G := StX.fn_star (CX := CX0) (P := P) (w := w) (mg := mg) (base := base) (k := 4) (ps := ["name"]) (pv := "keys") (N := ["name", "keys", "made"])
    (sp := fun vs H Q _ => ∃ (name : Str) (t : Addr) (keys : List Str), vs = [.str name, .ref t] ∧ SqT K H t (keys.map V.str) ∧ IsWord name ∧ (∀ x ∈ keys, IsWord x) ∧ keys.Nodup ∧ keys.length ≤ 4 ∧ ∀ a H', Same H H' → ThingAt K H' C a "table" name keys → Q (.ref a) H')
    lk hcd scTb StX.cxUp_none (StX.bind_star1 (B := fun us => bindArgs (PySem.W.fnOf "table" "Thing.table" (defArgs (me 4)) (defBody (me 4)) (defScope (me 4)) .none kV doc pm an cdv ct) ⟨us, []⟩) (p1 := "name") (pv := "keys") (fun a => rfl) (fun a r rs => rfl)) (fun A outer s H vs Q E hr h => ?_)
  · intro A outer s H us vs Q E hr e0 rv hsp
    obtain ⟨name, keys, rfl, hn, hk, hd, hl, kk⟩ := hsp
    refine G A outer s H us _ Q E hr e0 rv ⟨[.str name], keys.map V.str, rfl, rfl, by rw [List.length_map]; exact len1000 (by omega), fun p np => ⟨name, p, keys, rfl, SqT.of upd_same, hn, hk, hd, hl, fun a H' s th => kk a H' ((same_new np).trans s) th⟩⟩
  · obtain ⟨name, t, keys, rfl, ht, hn, hk, hd, hl, kk⟩ := h
    have hr2 : Room 2 _ := hr.mono (by decide)
    refine ⟨_, PSs.nox (pss_cons (ps_set (i := 2) scTb.nd rfl (.inl rfl) (pe_make M GI hr (by rfl) T.m bI .nil pass0 (pa_cons pe_str (pa_cons (pv 0) (pa_cons (pv 1) pa_nil)))))
      (pss_cons (ps_expr (pe_call GU hr2 (by rfl) mU kU bU .nil pass0 (pa_cons (pv 1) pa_nil)))
      (pss_cons (ps_if (pt_cmpR op_gt (pe_callB call_len_seq (by rfl) mlen PySem.boot_len (pa_cons (pv 1) pa_nil)) (pe_glob (v := .int 4) rfl mM ⟨tk, rfl⟩) (by rfl)) (pss_one ps_never) pss_nil)
      (pss_one (ps_ret (pv 2)))))), ?_⟩
    refine ⟨_, rfl, _, rfl, ?_⟩
    intro a dx nx ndx _
    refine make_at (parts := keys) ht hn hk (by omega) nx ndx fun H' s th => ?_
    refine ⟨_, rfl, t, keys, rfl, Same.seqT s ht, hd, by omega, fun H2 s2 => ?_⟩
    refine ⟨_, rfl, t, _, rfl, .inr (Same.seqT (s.trans s2) ht), _, _, rfl, rfl, _, rfl, ?_⟩
    rw [decide_eq_false (by rw [List.length_map]; omega)]
    exact iteF ⟨_, rfl, kk a H2 (s.trans s2) (th.same s2)⟩
/-! ### == and str of things -/
theorem eqv_strs (xs ys : List Str) : PyData.eqv (.tuple (xs.map .str)) (.tuple (ys.map .str)) = decide (xs = ys) := by
  show PyData.eqvAll (xs.map .str) (ys.map .str) = _
  induction xs generalizing ys with
  | nil => cases ys with
    | nil => simp [PyData.eqvAll]
    | cons y ys => simp [PyData.eqvAll]
  | cons x xs ih => cases ys with
    | nil => simp [PyData.eqvAll]
    | cons y ys =>
      simp only [List.map_cons, PyData.eqvAll, ih, PyData.eqv]
      by_cases h : x = y
      · subst h; simp
      · simp [h]
theorem word_str {x : Str} (h : IsWord x) : PyData.strOk x = true := by
  unfold PyData.strOk
  rw [Array.all_eq_true_iff_forall_mem]
  intro c hc
  have := (h.2.2 c (Array.mem_toList_iff.mpr hc)).2
  exact decide_eq_true (by omega)
theorem strs_dp {K : PySem.W.Frag} {H : Hp} : ∀ xs : List Str, DpAll K H (xs.map V.str) (xs.map PyData.str)
  | [] => .nil
  | _ :: r => .cons (.str _) (strs_dp r)
theorem strs_shaped {xs : List Str} (h : ∀ x ∈ xs, IsWord x) : SeqAt.shaped (.tuple (xs.map .str)) = true := by
  have h1 : PyData.canLayAll0 (xs.map .str) = true := by
    induction xs with
    | nil => rfl
    | cons x r ih =>
      simp only [List.map_cons, PyData.canLayAll0, PyData.canLay0, Bool.and_eq_true]
      exact ⟨word_str (h x List.mem_cons_self), ih fun y hy => h y (List.mem_cons_of_mem _ hy)⟩
  have h2 : PyData.depthAll (xs.map .str) ≤ 1 := by
    induction xs with
    | nil => simp [PyData.depthAll]
    | cons x r ih =>
      simp only [List.map_cons, PyData.depthAll, PyData.depth]
      have := ih (fun y hy => h y (List.mem_cons_of_mem _ hy)) (by
        simp only [List.map_cons, PyData.canLayAll0, Bool.and_eq_true] at h1
        exact h1.2)
      omega
  unfold SeqAt.shaped
  simp only [PyData.canLay0, h1, PyData.depth, Bool.true_and]
  exact decide_eq_true (by omega)
def spEq (K : PySem.W.Frag) (C : Addr) : Sp := fun vs H Q _ => ∃ (a b : Addr) (k n k' n' : Str) (p p' : List Str), vs = [.ref a, .ref b] ∧ ThingAt K H C a k n p ∧ ThingAt K H C b k' n' p' ∧ (∀ x ∈ p, IsWord x) ∧ (∀ x ∈ p', IsWord x) ∧ Q (.bl (decide (k = k' ∧ n = n' ∧ p = p'))) H
theorem scE : FnScope ["self", "other"] ["self", "other"] (defScope (me 9)) := ⟨rfl, rfl, rfl, by decide +kernel, rfl, by decide +kernel, by decide +kernel⟩
theorem ok_eq {f C : Addr} {fd : FuncData} {k : Nat} (T : ThIn K mg C) (F : Fun K "__eq__" "Thing.__eq__" (me 9) f fd) (mi : mg "isinstance" = none) : FnOk P w K mg base CX0 (k + 1) f fd ["self", "other"] (spEq K C) := by
  refine F.ok scE (fun vs H Q E h => ?_) (fun cdv A outer s H vs Q E hr h => ?_)
  · obtain ⟨a, b, k, n, k', n', p, p', rfl, _⟩ := h
    rfl
  · obtain ⟨a, b, k, n, k', n', p, p', rfl, ⟨dx, fs, t, a1, a2, a3, a4, a5⟩, ⟨dy, gs, u, b1, b2, b3, b4, b5⟩, hp, hp', kk⟩ := h
    refine ⟨_, pss_one (ps_ret (pe_and (pe_callB call_isi (by rfl) mi (by decide +kernel) (pa_cons (pv 1) (pa_cons (pe_glob (v := .ref C) rfl T.m rfl) pa_nil)))
      (pe_and (pe_cmpR op_eq (pe_fld (pv 0) rfl) (pe_fld (pv 1) rfl) (by rfl)) (pe_and (pe_cmpR op_eq (pe_fld (pv 0) rfl) (pe_fld (pv 1) rfl) (by rfl))
        (pe_one (pe_cmpR (op_eqD hr.units) (pe_fld (pv 0) rfl) (pe_fld (pv 1) rfl) (by rfl))))))), ?_⟩
    have kc : PySem.W.kitOne K (.ref C) (.ref C) = some true := by unfold PySem.W.kitOne; rw [if_pos (by simp)]
    refine ⟨_, rfl, _, _, _, _, true, rfl, .own C, TyX.base (TyOf.ins b1 T.cls T.ca T.cn T.ct T.cm), kc, _, rfl, iteT ?_⟩
    refine ⟨_, rfl, a, C, dx, fs, _, rfl, a1, T.cls, T.nk, a2, _, rfl, b, C, dy, gs, _, rfl, b1, T.cls, T.nk, b2, rfl, _, rfl, ite2 (fun h => ?_) (fun h => ?_)⟩
    · have e1 : k = k' := V.str.inj (of_decide_eq_true h)
      refine ⟨_, rfl, a, C, dx, fs, _, rfl, a1, T.cls, T.nn, a3, _, rfl, b, C, dy, gs, _, rfl, b1, T.cls, T.nn, b3, rfl, _, rfl, ite2 (fun h2 => ?_) (fun h2 => ?_)⟩
      · have e2 : n = n' := V.str.inj (of_decide_eq_true h2)
        refine ⟨_, rfl, a, C, dx, fs, _, rfl, a1, T.cls, T.np, a4, _, rfl, b, C, dy, gs, _, rfl, b1, T.cls, T.np, b4, ?_⟩
        refine ⟨.tuple (p.map .str), .tuple (p'.map .str), .tup a5 (strs_dp p), .tup b5 (strs_dp p'), strs_shaped hp, strs_shaped hp', ?_⟩
        rw [eqv_strs]
        have : decide (k = k' ∧ n = n' ∧ p = p') = decide (p = p') := by simp [e1, e2]
        rw [this] at kk
        exact kk
      · have : decide (k = k' ∧ n = n' ∧ p = p') = false := decide_eq_false fun e => h2 (decide_eq_true (by rw [e.2.1]))
        rw [this] at kk
        exact kk
    · have : decide (k = k' ∧ n = n' ∧ p = p') = false := decide_eq_false fun e => h (decide_eq_true (by rw [e.1]))
      rw [this] at kk
      exact kk
def spStr (K : PySem.W.Frag) (C : Addr) : Sp := fun vs H Q _ => ∃ (a : Addr) (k n : Str) (p : List Str), vs = [.ref a] ∧ ThingAt K H C a k n p ∧ k.length ≤ 100 ∧ n.length ≤ 100 ∧ (∀ x ∈ p, x.length ≤ 100) ∧ p.length ≤ 100 ∧ ∀ H', Same H H' → Q (.str (Str.join " " (k :: n :: p))) H'
theorem sum_le {B : Nat} : ∀ xs : List Str, (∀ x ∈ xs, x.length ≤ B) → (xs.map (·.length)).sum ≤ B * xs.length
  | [], _ => by simp
  | x :: r, h => by
    have h1 := h x List.mem_cons_self
    have h2 := sum_le r fun y hy => h y (List.mem_cons_of_mem _ hy)
    simp only [List.map_cons, List.sum_cons, List.length_cons, Nat.mul_succ]
    omega
theorem scS2 : FnScope ["self"] ["self"] (defScope (me 10)) := ⟨rfl, rfl, rfl, by decide +kernel, rfl, by decide +kernel, by decide +kernel⟩
theorem ok_str {f C : Addr} {fd : FuncData} {k : Nat} (T : ThIn K mg C) (F : Fun K "__str__" "Thing.__str__" (me 10) f fd) : FnOk P w K mg base CX0 (k + 1) f fd ["self"] (spStr K C) := by
  refine F.ok scS2 (fun vs H Q E h => ?_) (fun cdv A outer s H vs Q E hr h => ?_)
  · obtain ⟨a, k, n, p, rfl, _⟩ := h
    rfl
  · obtain ⟨a, k, n, p, rfl, ⟨dx, fs, t, a1, a2, a3, a4, a5⟩, hk, hn, hp, hl, kk⟩ := h
    refine ⟨_, pss_one (ps_ret (pe_join pe_str (pe_lst (pa_cons (pe_fld (pv 0) rfl) (pa_cons (pe_fld (pv 0) rfl) (StX.pa_star (pe_fld (pv 0) rfl) pa_nil)))))), ?_⟩
    refine ⟨⟨_, rfl⟩, _, rfl, a, C, dx, fs, _, rfl, a1, T.cls, T.nk, a2, _, rfl, a, C, dx, fs, _, rfl, a1, T.cls, T.nn, a3, _, rfl, a, C, dx, fs, _, rfl, a1, T.cls, T.np, a4, t, _, rfl, .inl a5, ?_, fun r nr => ?_⟩
    · simp only [List.length_cons, List.length_append, List.length_map, List.length_nil]
      exact len1000 (by omega)
    · have e : (V.str k :: V.str n :: (p.map V.str ++ [])) = (k :: n :: p).map V.str := by rw [List.append_nil]; rfl
      rw [e]
      refine ⟨_, r, k :: n :: p, rfl, rfl, .inl (SqL.of upd_same), ?_, ?_⟩
      · have := sum_le (B := 100) (k :: n :: p) fun x hx => by
          rcases List.mem_cons.mp hx with rfl | hx
          · exact hk
          · rcases List.mem_cons.mp hx with rfl | hx
            · exact hn
            · exact hp x hx
        simp only [List.length_cons] at this ⊢
        have l1 : (Str.ofString " ").length = 1 := by decide +kernel
        rw [l1]
        have line : (20000 : Nat) ≤ sizeLine := by decide
        omega
      · rw [show Txt.join _ (k :: n :: p) = Str.join _ (k :: n :: p) from StrLaws.glued_eq_join _ _]
        exact kk _ (same_new nr)
end
/-! ### the law's own makers -/
/-- the promises of Thing's methods -/
structure Tdefs (P : Program) (w : World) (K : PySem.W.Frag) (mg : Str → Option Value) (base : Heap) (C : Addr) : Prop where
  one : ∀ m ∈ [("feed" : Str), "dice", "source", "flag", "slot"], ∃ p g, SMet K C m p g ∧ FnR P w K mg base CX0 5 g (spMk K C m)
  field : ∃ p g, SMet K C "field" p g ∧ FnR P w K mg base CX0 5 g (spFieldM K C)
  table : ∃ p g, SMet K C "table" p g ∧ FnR P w K mg base CX0 5 g (spTableM K C)
/-! ### what the top says of Thing -/
def SmAll (K : PySem.W.Frag) (C : Addr) (m qual : Str) (i : Nat) : Prop := ∃ p g fd, SMet K C m p g ∧ Fun K m qual (me i) g fd
theorem sm_in {K : PySem.W.Frag} {C p g : Addr} {m qual : Str} {i : Nat} {rest : List Value} {oc : Value} {od an : Option Addr} {osl : Array (Option Value)} {kV doc pm cdv ct : Value}
    (at_ : PySem.W.findCls K (.ref C) (.type "type") m = some (.get (.builtin "staticmethod.__get__") (.ref p) .none (.ref C))) (rc : PySem.W.recIn K p "staticmethod" = some (.ref g :: rest)) (kp : PySem.W.keepIn K (.ref g) = true)
    (l : K.lookup g = some ⟨oc, od, .func (PySem.W.fnOf m qual (defArgs (me i)) (defBody (me i)) (defScope (me i)) .none kV doc pm an cdv ct), osl⟩) (c : PySem.W.codeIn K cdv qual = true) : SmAll K C m qual i :=
  ⟨p, g, _, ⟨at_, ⟨rest, rc⟩, kp⟩, fun_mk l c kp⟩
def MeAll (K : PySem.W.Frag) (C : Addr) (m qual : Str) (i : Nat) : Prop := ∃ g fd, PySem.W.findIn K (.ref C) m = some (some (.ref g)) ∧ PySem.W.isFn K (.ref g) = true ∧ Fun K m qual (me i) g fd
theorem me_in {K : PySem.W.Frag} {C g : Addr} {m qual : Str} {i : Nat} {oc : Value} {od an : Option Addr} {osl : Array (Option Value)} {kV doc pm cdv ct : Value}
    (at_ : PySem.W.findIn K (.ref C) m = some (some (.ref g))) (fn : PySem.W.isFn K (.ref g) = true) (kp : PySem.W.keepIn K (.ref g) = true)
    (l : K.lookup g = some ⟨oc, od, .func (PySem.W.fnOf m qual (defArgs (me i)) (defBody (me i)) (defScope (me i)) .none kV doc pm an cdv ct), osl⟩) (c : PySem.W.codeIn K cdv qual = true) : MeAll K C m qual i :=
  ⟨g, _, at_, fn, fun_mk l c kp⟩
theorem mg_int {K : PySem.W.Frag} {h : Heap} {mg : Str → Option Value} {n : Str} {i : Int} {tk : Tok} (X : K.In h) (G : h.Ns mainGlobals mg) (e : PySem.W.nsIn K mainGlobals n = some (some (.int i tk))) : ∃ tk, mg n = some (.int i tk) := ⟨tk, PySem.W.mg_of X G e⟩
structure ThAll (K : PySem.W.Frag) (mg : Str → Option Value) (C : Addr) : Prop where
  T : ThIn K mg C
  mkC : PySem.W.makesIn K C = true
  kpC : PySem.W.keepIn K (.ref C) = true
  ini : MeAll K C "__init__" "Thing.__init__" 1
  feed : SmAll K C "feed" "Thing.feed" 2
  dice : SmAll K C "dice" "Thing.dice" 3
  table : SmAll K C "table" "Thing.table" 4
  source : SmAll K C "source" "Thing.source" 5
  field : SmAll K C "field" "Thing.field" 6
  flag : SmAll K C "flag" "Thing.flag" 7
  slot : SmAll K C "slot" "Thing.slot" 8
  eq : MeAll K C "__eq__" "Thing.__eq__" 9
  str : MeAll K C "__str__" "Thing.__str__" 10
theorem th_in {K : PySem.W.Frag} {h : Heap} {mg : Str → Option Value} {C : Addr} (X : K.In h) (G : h.Ns mainGlobals mg) (a : PySem.W.nsIn K mainGlobals "Thing" = some (some (.ref C)))
    (pg : PySem.W.plainGet K C Str.empty = true) (hd : PySem.W.hasDictIn K C = true) (po : PySem.W.plainOver K C = true) (sa : PySem.W.findIn K (.ref C) "__setattr__" = some (some (.builtin "object.__setattr__")))
    (nk : PySem.W.findIn K (.ref C) "kind" = some none) (nn : PySem.W.findIn K (.ref C) "name" = some none) (np : PySem.W.findIn K (.ref C) "parts" = some none)
    (rd : PySem.W.readsIn K C (.type "type") = true) (ga : PySem.W.specialIn K (.ref C) "__getattribute__" = some (some (.builtin "type.__getattribute__")))
    (ca : PySem.W.findIn K (.ref C) "__class__" = some (some (.builtin "object.__class__"))) (cn : PySem.W.specialIn K (.builtin "object.__class__") "__get__" = some (some (.builtin "getset_descriptor.__get__"))) (ct : PySem.W.takesIn K (.builtin "object.__class__") = some true) (cm : PySem.W.mroIn K C (.type "object") = some true)
    (mk : PySem.W.makesIn K C = true) (kp : PySem.W.keepIn K (.ref C) = true)
    (ini : MeAll K C "__init__" "Thing.__init__" 1) (m1 : SmAll K C "feed" "Thing.feed" 2) (m2 : SmAll K C "dice" "Thing.dice" 3) (m3 : SmAll K C "table" "Thing.table" 4) (m4 : SmAll K C "source" "Thing.source" 5) (m5 : SmAll K C "field" "Thing.field" 6) (m6 : SmAll K C "flag" "Thing.flag" 7) (m7 : SmAll K C "slot" "Thing.slot" 8)
    (eq : MeAll K C "__eq__" "Thing.__eq__" 9) (str : MeAll K C "__str__" "Thing.__str__" 10) : ∃ C, ThAll K mg C :=
  ⟨C, ⟨PySem.W.mg_of X G a, ⟨pg, hd, po, sa⟩, nk, nn, np, ⟨rd, ga⟩, ca, cn, ct, cm⟩, mk, kp, ini, m1, m2, m3, m4, m5, m6, m7, eq, str⟩
section
variable {P : Program} {w : World} {K : PySem.W.Frag} {mg : Str → Option Value} {base : Heap}
theorem scMs (i : Nat) (h : i = 2 ∨ i = 3 ∨ i = 5 ∨ i = 7 ∨ i = 8) : FnScope ["name"] ["name"] (defScope (me i)) := by
  rcases h with rfl | rfl | rfl | rfl | rfl <;> exact ⟨rfl, rfl, rfl, by decide +kernel, rfl, by decide +kernel, by decide +kernel⟩
theorem th_raw {C f : Addr} {fd : FuncData} {m qual kind : Str} {i : Nat} (F : Fun K m qual (me i) f fd) (G : FnOk P w K mg base CX0 5 f fd ["name"] (spMk K C kind)) (hb : ∀ (kV doc pm : Value) (an : Option Addr) (cdv ct : Value) (us : List Value), us.length = 1 → bindArgs (PySem.W.fnOf m qual (defArgs (me i)) (defBody (me i)) (defScope (me i)) .none kV doc pm an cdv ct) ⟨us, []⟩ = pure ([("name" : Str)].zip us)) : FnR P w K mg base CX0 5 f (spMk K C kind) := by
  have := G.raw (F.binds (ps := ["name"]) hb) .nil
  intro A outer s H us vs Q E hr e0 r h
  exact this A outer s H us vs Q E hr e0 r (by show spMk K C kind (vs ++ []) H Q E; rw [List.append_nil]; exact h)
theorem t_defs {C fN fU : Addr} {fdN fdU : FuncData} {tk : Tok} (T : ThAll K mg C) (GN : FnOk P w K mg base CX0 2 fN fdN ["things"] (spNames0 K)) (mN : mg "check_names" = some (.ref fN)) (kN : PySem.W.keepIn K (.ref fN) = true) (bN : Binds K fdN ["things"] [])
    (GU : FnOk P w K mg base CX0 2 fU fdU ["names"] (spUnlike0 K)) (mU : mg "check_unlike" = some (.ref fU)) (kU : PySem.W.keepIn K (.ref fU) = true) (bU : Binds K fdU ["names"] []) (mlen : mg "len" = none) (mM : mg "MOST_KEYS" = some (.int 4 tk)) : Tdefs P w K mg base C := by
  obtain ⟨fI, fdI, aI, nI, FI⟩ := T.ini
  have bI : Binds K fdI ["self", "kind", "name", "parts"] [] := FI.binds (ps := ["self", "kind", "name", "parts"]) fun _ _ _ _ _ _ us hl => match us, hl with | [_, _, _, _], _ => rfl
  have GI := ok_init (base := base) (P := P) (w := w) T.T FI GN mN kN bN
  have M : Mk K C fI := ⟨T.mkC, aI, nI, T.kpC⟩
  refine ⟨fun m hm => ?_, ?_, ?_⟩
  · simp only [List.mem_cons, List.not_mem_nil, or_false] at hm
    rcases hm with rfl | rfl | rfl | rfl | rfl
    · obtain ⟨p, g, fd, s, F⟩ := T.feed
      exact ⟨p, g, s, th_raw F (ok_mk T.T M F GI bI (scMs 2 (by simp)) (fun _ _ _ _ _ _ => rfl) (.inl rfl) rfl) fun _ _ _ _ _ _ us hl => match us, hl with | [_], _ => rfl⟩
    · obtain ⟨p, g, fd, s, F⟩ := T.dice
      exact ⟨p, g, s, th_raw F (ok_mk T.T M F GI bI (scMs 3 (by simp)) (fun _ _ _ _ _ _ => rfl) (.inl rfl) rfl) fun _ _ _ _ _ _ us hl => match us, hl with | [_], _ => rfl⟩
    · obtain ⟨p, g, fd, s, F⟩ := T.source
      exact ⟨p, g, s, th_raw F (ok_mk T.T M F GI bI (scMs 5 (by simp)) (fun _ _ _ _ _ _ => rfl) (.inl rfl) rfl) fun _ _ _ _ _ _ us hl => match us, hl with | [_], _ => rfl⟩
    · obtain ⟨p, g, fd, s, F⟩ := T.flag
      exact ⟨p, g, s, th_raw F (ok_mk T.T M F GI bI (scMs 7 (by simp)) (fun _ _ _ _ _ _ => rfl) (.inl rfl) rfl) fun _ _ _ _ _ _ us hl => match us, hl with | [_], _ => rfl⟩
    · obtain ⟨p, g, fd, s, F⟩ := T.slot
      exact ⟨p, g, s, th_raw F (ok_mk T.T M F GI bI (scMs 8 (by simp)) (fun _ _ _ _ _ _ => rfl) (.inl rfl) rfl) fun _ _ _ _ _ _ us hl => match us, hl with | [_], _ => rfl⟩
  · obtain ⟨p, g, fd, s, F⟩ := T.field
    refine ⟨p, g, s, ?_⟩
    have := (ok_field (P := P) (w := w) (base := base) T.T M F GI bI).raw (F.binds (ps := ["name", "over"]) fun _ _ _ _ _ _ us hl => match us, hl with | [_, _], _ => rfl) .nil
    intro A outer s H us vs Q E hr e0 r h
    exact this A outer s H us vs Q E hr e0 r (by show spFieldM K C (vs ++ []) H Q E; rw [List.append_nil]; exact h)
  · obtain ⟨p, g, fd, s, F⟩ := T.table
    exact ⟨p, g, s, ok_tableM T.T M F GI bI GU mU kU bU mlen mM⟩
theorem fnR0 {f : Addr} {fd : FuncData} {ps : List Str} {k : Nat} {sp : Sp} (F : FnOk P w K mg base CX0 k f fd ps sp) (b : Binds K fd ps []) : FnR P w K mg base CX0 k f sp := by
  have := F.raw b .nil
  intro A outer s H us vs Q E hr e0 r h
  exact this A outer s H us vs Q E hr e0 r (by show sp (vs ++ []) H Q E; rw [List.append_nil]; exact h)
end
/-! ### deeds -/
/-- the dict PARTS, KINDS .. : what the written part holds of the words -/
structure PartsK (K : PySem.W.Frag) (w : World) (dP : Addr) (word : Str) (kinds : List Str) : Prop where
  has : ∃ r, PySem.W.nsIn K dP word = some (some r)
  ex : ∃ tP, KDct K w dP word (.ref tP) ∧ ∀ H, SqT K H tP (kinds.map V.str)
def longest : Int := 10 ^ 30
/-- what may stand where PARTS has this part -/
inductive GoodArg : Str → PyData → Prop where
  | length {n : Int} (h0 : 0 ≤ n) (h1 : n ≤ longest) : GoodArg "length" (.int n)
  | keys {xs : List Str} (h : ∀ x ∈ xs, IsWord x) (hl : xs.length ≤ 1000) : GoodArg "keys" (.tuple (xs.map .str))
  | name {part x : Str} (h1 : part ≠ "length") (h2 : part ≠ "keys") (h : IsWord x) : GoodArg part (.str x)
def isIntD : PyData → Bool
  | .int _ => true
  | _ => false
def spIsInt (K : PySem.W.Frag) : Sp := fun vs H Q _ => ∃ (v : V) (d : PyData), vs = [v] ∧ Dp K H v d ∧ Q (.bl (isIntD d)) H
def spIsLength : Sp := fun vs H Q _ => ∃ n : Int, vs = [.int n] ∧ 0 ≤ n ∧ n ≤ longest ∧ Q (.bl true) H
def spIsPart (K : PySem.W.Frag) : Sp := fun vs H Q _ => ∃ (part : Str) (v : V) (d : PyData), vs = [.str part, v] ∧ Dp K H v d ∧ GoodArg part d ∧ ∀ H', Same H H' → Q (.bl true) H'
/-- is_deed(deed): a deed -/
def spIsDeed (K : PySem.W.Frag) (w : World) (dP : Addr) : Sp := fun vs H Q _ => ∃ (a : Addr) (word : Str) (args : List V) (ds : List PyData) (kinds : List Str), vs = [.ref a] ∧ SqT K H a (.str word :: args) ∧ DpAll K H args ds ∧ PartsK K w dP word kinds ∧ args.length ≤ 100 ∧
  Paired GoodArg kinds ds ∧ ∀ H', Same H H' → Q (.bl true) H'
theorem bools_true : ∀ bs : List Bool, (∀ b ∈ bs, b = true) → bs.all id = true := fun bs h => List.all_eq_true.mpr fun b hb => h b hb
theorem map_true (n : Nat) : (List.replicate n true).all id = true := bools_true _ fun b hb => (List.mem_replicate.mp hb).2
section
variable {P : Program} {w : World} {K : PySem.W.Frag} {mg : Str → Option Value} {base : Heap}
theorem scII : FnScope ["thing"] ["thing"] (defScope sIsInt) := ⟨rfl, rfl, rfl, by decide +kernel, rfl, by decide +kernel, by decide +kernel⟩
theorem ok_isint {f : Addr} {fd : FuncData} {k : Nat} (F : Fun K "is_int" "is_int" sIsInt f fd) (B : Bts mg) : FnOk P w K mg base CX0 (k + 1) f fd ["thing"] (spIsInt K) := by
  refine F.ok scII (fun vs H Q E h => ?_) (fun cdv A outer s H vs Q E hr h => ?_)
  · obtain ⟨v, d, rfl, _⟩ := h
    rfl
  · obtain ⟨v, d, rfl, hv, kk⟩ := h
    refine ⟨_, pss_one (ps_ret (pe_and (pe_callB call_isi (by rfl) B.isinstance (by decide +kernel) (pa_cons (pv 0) (pa_cons (pe_bltn (v := .ty "int") (by rfl) B.int (by decide +kernel) rfl) pa_nil)))
      (pe_one (pe_not (pe_callB call_isi (by rfl) B.isinstance (by decide +kernel) (pa_cons (pv 0) (pa_cons (pe_bltn (v := .ty "bool") (by rfl) B.bool (by decide +kernel) rfl) pa_nil))))))), ?_⟩
    obtain ⟨a, b, h1, h2, h3⟩ : ∃ a b, kitB (tyName d) "int" = some a ∧ (a = true → kitB (tyName d) "bool" = some b) ∧ isIntD d = (a && !b) := by
      cases d with
      | none => exact ⟨false, false, (by decide +kernel : kitB "NoneType" "int" = some false), (fun h => nomatch h), rfl⟩
      | bool b => exact ⟨true, true, (by decide +kernel : kitB "bool" "int" = some true), (fun _ => (by decide +kernel : kitB "bool" "bool" = some true)), rfl⟩
      | int i => exact ⟨true, false, (by decide +kernel : kitB "int" "int" = some true), (fun _ => (by decide +kernel : kitB "int" "bool" = some false)), rfl⟩
      | str z => exact ⟨false, false, (by decide +kernel : kitB "str" "int" = some false), (fun h => nomatch h), rfl⟩
      | list l => exact ⟨false, false, (by decide +kernel : kitB "list" "int" = some false), (fun h => nomatch h), rfl⟩
      | tuple l => exact ⟨false, false, (by decide +kernel : kitB "tuple" "int" = some false), (fun h => nomatch h), rfl⟩
      | dict l => cases hv
    refine ⟨_, rfl, _, _, _, _, a, rfl, .ty _, ty_of hv, kit_ty h1, _, rfl, ?_⟩
    cases a with
    | false =>
      refine iteF ?_
      rw [Bool.false_and] at h3
      show Q (.bl false) H
      rw [← h3]; exact kk
    | true =>
      refine iteT ⟨_, rfl, _, _, _, _, b, rfl, .ty _, ty_of hv, kit_ty (h2 rfl), _, rfl, ?_⟩
      rw [Bool.true_and] at h3
      show Q (.bl (!b)) H
      rw [← h3]; exact kk
theorem scIL : FnScope ["given"] ["given"] (defScope sIsLength) := ⟨rfl, rfl, rfl, by decide +kernel, rfl, by decide +kernel, by decide +kernel⟩
theorem ok_islength {f fI : Addr} {fd fdI : FuncData} {tk : Tok} (F : Fun K "is_length" "is_length" sIsLength f fd) (GI : FnOk P w K mg base CX0 1 fI fdI ["thing"] (spIsInt K)) (mI : mg "is_int" = some (.ref fI)) (kI : PySem.W.keepIn K (.ref fI) = true) (bI : Binds K fdI ["thing"] [])
    (mL : mg "LONGEST_ROW" = some (.int longest tk)) : FnOk P w K mg base CX0 2 f fd ["given"] spIsLength := by
  refine F.ok scIL (fun vs H Q E h => ?_) (fun cdv A outer s H vs Q E hr h => ?_)
  · obtain ⟨n, rfl, _⟩ := h
    rfl
  · obtain ⟨n, rfl, h0, h1, kk⟩ := h
    refine ⟨_, pss_one (ps_ret (pe_and (pe_call GI hr (by rfl) mI kI bI .nil pass0 (pa_cons (pv 0) pa_nil)) (pe_one (pe_chain op_le op_le pe_int (pv 0) (pe_glob (v := .int longest) rfl mL ⟨tk, rfl⟩))))), ?_⟩
    refine ⟨_, rfl, .int n, .int n, rfl, .int n, _, rfl, iteT ?_⟩
    refine ⟨_, rfl, 0, n, rfl, rfl, _, rfl, ?_⟩
    rw [decide_eq_true h0]
    refine iteT ⟨n, longest, rfl, rfl, ?_⟩
    show Q (V.bl (decide (n ≤ longest))) H
    rw [decide_eq_true h1]
    exact kk
theorem scIP : FnScope ["part", "given", "key"] ["part", "given"] (defScope sIsPart) := ⟨rfl, rfl, rfl, by decide +kernel, rfl, by decide +kernel, by decide +kernel⟩
theorem ok_ispart {f fL fN : Addr} {fd fdL fdN : FuncData} (F : Fun K "_is_part" "_is_part" sIsPart f fd) (B : Bts mg) (mA : mg "all" = none) (GL : FnOk P w K mg base CX0 2 fL fdL ["given"] spIsLength) (mL : mg "is_length" = some (.ref fL)) (kL : PySem.W.keepIn K (.ref fL) = true) (bL : Binds K fdL ["given"] [])
    (GN : FnOk P w K mg base CX0 1 fN fdN ["thing"] (spIsName K)) (mN : mg "is_name" = some (.ref fN)) (kN : PySem.W.keepIn K (.ref fN) = true) (bN : Binds K fdN ["thing"] []) : FnOk P w K mg base CX0 3 f fd ["part", "given"] (spIsPart K) := by
  refine F.ok scIP (fun vs H Q E h => ?_) (fun cdv A outer s H vs Q E hr h => ?_)
  · obtain ⟨part, v, d, rfl, _⟩ := h
    rfl
  · obtain ⟨part, v, d, rfl, hv, hg, kk⟩ := h
    have hr1 : Room 1 _ := hr.mono (by decide)
    refine ⟨_, pss_cons (ps_if (pt_cmpR op_eq (pv 0) pe_str (nomark _)) (pss_one (ps_ret (pe_call GL hr (by rfl) mL kL bL .nil pass0 (pa_cons (pv 1) pa_nil)))) pss_nil)
      (pss_cons (ps_if (pt_cmpR op_eq (pv 0) pe_str (nomark _)) (pss_one (ps_ret (pe_and (pe_callB call_isi (by rfl) B.isinstance (by decide +kernel) (pa_cons (pv 1) (pa_cons (pe_bltn (v := .ty "tuple") (by rfl) B.tuple (by decide +kernel) rfl) pa_nil)))
        (pe_one (pe_callB (cr_all rfl) (by rfl) mA (by decide +kernel) (pa_cons (pe_lc (own := [("key", 2)]) (g := gName 2) (tt := tYes) rfl scIP.nd (pi_tup (pv 1)) (blkOk_by (N := ["part", "given", "key"]) (sc := defScope sIsPart) (by decide +kernel))
          (fun _ _ _ _ _ => pg_name (i := 2) scIP.nd rfl (.inl rfl)) (fun _ _ _ _ _ => pts_nil) (fun _ _ _ _ _ => pe_call GN hr1 (by rfl) mN kN bN .nil pass0 (pa_cons (pv 2) pa_nil))) pa_nil)))))) pss_nil)
      (pss_one (ps_ret (pe_call GN hr1 (by rfl) mN kN bN .nil pass0 (pa_cons (pv 1) pa_nil))))), ?_⟩
    cases hg with
    | @length n h0 h1 =>
      cases hv
      refine ⟨_, rfl, rfl, _, rfl, ?_⟩
      refine iteT ⟨_, rfl, n, rfl, h0, h1, kk H (Same.refl H)⟩
    | @keys xs hx hl =>
      obtain ⟨t, ys, rfl, ht, hys⟩ := dp_tup hv
      refine ⟨_, rfl, rfl, _, rfl, iteF ⟨_, rfl, rfl, _, rfl, iteT ?_⟩⟩
      refine ⟨_, rfl, _, _, _, _, true, rfl, .ty _, ty_of hv, kit_ty (by decide +kernel : kitB "tuple" "tuple" = some true), _, rfl, iteT ?_⟩
      refine ⟨_, rfl, t, rfl, ⟨_, ht⟩, fun D nD => ?_⟩
      have ly : ys.length = xs.length := by rw [dpAll_len hys, List.length_map]
      refine lc_tup (K := K) (a := t) (xs := ys) (fun i H2 => ∃ acc : List Bool, H2 D = some (.lst (acc.map V.bl)) ∧ acc.length = i ∧ (∀ b ∈ acc, b = true) ∧ Same H H2)
        ⟨[], upd_same, rfl, fun _ h => (by cases h), same_new nD⟩ (fun i H2 _ ⟨_, _, _, _, s⟩ => Same.seqT s ht) (fun i y H2 hy hI => ?_) (fun H2 hI => ?_)
      · obtain ⟨acc, eD, el, ha, s2⟩ := hI
        obtain ⟨d, ed, hd⟩ := dpAll_at hys hy
        rw [List.getElem?_map] at ed
        obtain ⟨x, ex, rfl⟩ := Option.map_eq_some_iff.mp ed
        have hwx := hx x (List.mem_of_getElem? ex)
        have hi : i < xs.length := (List.getElem?_eq_some_iff.mp ex).1
        cases hd
        refine ⟨rfl, ?_⟩
        refine ⟨_, rfl, .str x, .str x, rfl, .str x, fun z e => by cases e; have := hwx.2.1; omega, ?_⟩
        refine ⟨acc.map V.bl, eD, small1000 (by rw [List.length_map]; omega), acc ++ [nmD (.str x)], by rw [upd_same, List.map_append]; rfl, by rw [List.length_append, el]; rfl, fun b hb => ?_, fun b o e => ?_⟩
        · rcases List.mem_append.mp hb with hb | hb
          · exact ha b hb
          · rw [List.mem_singleton.mp hb]; exact hwx.nm
        · rw [upd_ne (ne_of_none e nD)]; exact s2 b o e
      · obtain ⟨acc, eD, el, ha, s2⟩ := hI
        refine ⟨D, acc, rfl, SqL.of eD, ?_⟩
        rw [bools_true acc ha]
        exact kk H2 s2
    | @name _ x h1 h2 hx =>
      cases hv
      refine ⟨_, rfl, rfl, _, rfl, ?_⟩
      rw [decide_eq_false fun e => h1 (V.str.inj e)]
      refine iteF ⟨_, rfl, rfl, _, rfl, ?_⟩
      rw [decide_eq_false fun e => h2 (V.str.inj e)]
      refine iteF ⟨_, rfl, .str x, .str x, rfl, .str x, fun z e => by cases e; have := hx.2.1; omega, ?_⟩
      have e : nmD (.str x) = true := hx.nm
      rw [e]
      exact kk H (Same.refl H)
end
theorem walk_zipT {K : PySem.W.Frag} {a b : Addr} {xs ys : List V} {n : Nat} (hn : n = min xs.length ys.length) : Walk (RZ.ItzT K a b) n (fun H => SqT K H a xs ∧ SqT K H b ys) (YPair (fun i => xs[i]?) (fun i => ys[i]?)) := by
  subst hn
  refine ⟨fun i _ hi q => ?_, fun _ q => ⟨xs, ys, q.1, q.2, by omega⟩, fun i H v H' _ q y => ?_⟩
  · have h1 : i < xs.length := by omega
    have h2 : i < ys.length := by omega
    exact ⟨xs, ys, xs[i], ys[i], q.1, q.2, by simp [h1], by simp [h2]⟩
  · obtain ⟨T, x, z, h1, h2, h3, h4, h5⟩ := y
    exact ⟨T, x, z, h1, h2, h3, h4 xs q.1, h5 ys q.2⟩
theorem paired_at {α β : Type} {R : α → β → Prop} : ∀ {xs : List α} {ys : List β} {i : Nat} {x : α} {y : β}, Paired R xs ys → xs[i]? = some x → ys[i]? = some y → R x y
  | _, _, _, _, _, .nil, e, _ => by simp at e
  | _, _, 0, _, _, .cons h _, e, e' => by
    obtain rfl := Option.some.inj e
    obtain rfl := Option.some.inj e'
    exact h
  | _, _, i + 1, _, _, .cons _ t, e, e' => paired_at (i := i) t e e'
theorem paired_len {α β : Type} {R : α → β → Prop} : ∀ {xs : List α} {ys : List β}, Paired R xs ys → xs.length = ys.length
  | _, _, .nil => rfl
  | _, _, .cons _ t => by rw [List.length_cons, List.length_cons, paired_len t]
section
variable {P : Program} {w : World} {K : PySem.W.Frag} {mg : Str → Option Value} {base : Heap}
theorem scID : FnScope ["deed", "parts", "part", "given"] ["deed"] (defScope sIsDeed) := ⟨rfl, rfl, rfl, by decide +kernel, rfl, by decide +kernel, by decide +kernel⟩
theorem ok_isdeed {f fP dP : Addr} {fd fdP : FuncData} {es : Array DictEntry} {n : Nat} (F : Fun K "is_deed" "is_deed" sIsDeed f fd) (B : Bts mg) (mA : mg "all" = none) (mZ : mg "zip" = none) (D : KDict K w dP es n) (mP : mg "PARTS" = some (.ref dP)) (GP : FnOk P w K mg base CX0 3 fP fdP ["part", "given"] (spIsPart K)) (mIP : mg "_is_part" = some (.ref fP)) (kP : PySem.W.keepIn K (.ref fP) = true) (bP : Binds K fdP ["part", "given"] []) :
    FnOk P w K mg base CX0 4 f fd ["deed"] (spIsDeed K w dP) := by
  refine F.ok scID (fun vs H Q E h => ?_) (fun cdv A outer s H vs Q E hr h => ?_)
  · obtain ⟨a, word, args, ds, kinds, rfl, _⟩ := h
    rfl
  · obtain ⟨a, word, args, ds, kinds, rfl, ht, hargs, hp, hl, hg, kk⟩ := h
    refine ⟨_, pss_cons (ps_if (PW.pt (pw_or (pt_not (pt_val (pe_callB call_isi (by rfl) B.isinstance (by decide +kernel) (pa_cons (pv 0) (pa_cons (pe_bltn (v := .ty "tuple") (by rfl) B.tuple (by decide +kernel) rfl) pa_nil))))) (pw_or1 (pt_not (pt_truth (pv 0) (by intro _; rfl))))))
        (pss_one (ps_ret pe_bl)) pss_nil)
      (pss_cons (ps_if (PW.pt (pw_or (pt_not (pt_val (pe_callB call_isi (by rfl) B.isinstance (by decide +kernel) (pa_cons (pe_ix ix_tup (pv 0) pe_int (fun _ _ => rfl)) (pa_cons (pe_bltn (v := .ty "str") (by rfl) B.str (by decide +kernel) rfl) pa_nil)))))
          (pw_or1 (pt_cmpR (op_notIn_kd D) (pe_ix ix_tup (pv 0) pe_int (fun _ _ => rfl)) (pe_glob (v := .ref dP) rfl mP rfl) (by rfl)))))
        (pss_one (ps_ret pe_bl)) pss_nil)
      (pss_cons (ps_set (i := 1) scID.nd rfl (.inl rfl) (pe_ix ix_kdict (pe_glob (v := .ref dP) rfl mP rfl) (pe_ix ix_tup (pv 0) pe_int (fun _ _ => rfl)) (fun _ _ => rfl)))
      (pss_cons (ps_if (pt_cmpR op_ne (pe_callB call_len_seq (by rfl) B.len PySem.boot_len (pa_cons (pv 0) pa_nil)) (pe_op op_add (pe_callB call_len_seq (by rfl) B.len PySem.boot_len (pa_cons (pv 1) pa_nil)) pe_int) (nomark _)) (pss_one (ps_ret pe_bl)) pss_nil)
      (pss_one (ps_ret (pe_callB (cr_all rfl) (by rfl) mA (by decide +kernel) (pa_cons (pe_lc (own := [("part", 2), ("given", 3)]) (g := gTup K 2 (gCons (gName 2) (gCons (gName 3) gNil))) (tt := tYes) rfl scID.nd
          (RZ.pi_zipA (by rfl) mZ (pa_cons (pv 1) (pa_cons (pe_slice sl_tup (pv 0) (po_some pe_int) po_none) pa_nil))) (blkOk_by (N := ["deed", "parts", "part", "given"]) (sc := defScope sIsDeed) (by decide +kernel))
          (fun _ _ _ _ _ => pg_tup rfl (pgs_cons (pg_name (i := 2) scID.nd rfl (.inl rfl)) (pgs_cons (pg_name (i := 3) scID.nd rfl (.inl rfl)) pgs_nil))) (fun _ _ _ _ _ => pts_nil)
          (fun _ _ _ _ _ => pe_call GP hr (by rfl) mIP kP bP .nil pass0 (pa_cons (pv 2) (pa_cons (pv 3) pa_nil)))) pa_nil))))))), ?_⟩
    have hv : Dp K H (.ref a) (.tuple (.str word :: ds)) := .tup ht (.cons (.str word) hargs)
    obtain ⟨r, hr0⟩ := hp.has
    obtain ⟨tP, hk, hT⟩ := hp.ex
    have lk : kinds.length = args.length := by rw [paired_len hg, dpAll_len hargs]
    refine ⟨_, rfl, _, _, _, _, true, rfl, .ty _, ty_of hv, kit_ty (by decide +kernel : kitB "tuple" "tuple" = some true), _, rfl, iteF ?_⟩
    refine ⟨_, rfl, true, .inr (.inl ⟨_, ht, rfl⟩), iteF ?_⟩
    have h0 : atI (V.str word :: args) 0 = some (.str word) := atI_nat (j := 0) rfl
    refine ⟨_, rfl, a, _, 0, _, rfl, rfl, ht, h0, _, _, _, _, true, rfl, .ty _, TyX.base (TyOf.str word), kit_ty (by decide +kernel), _, rfl, iteF ?_⟩
    refine ⟨_, rfl, a, _, 0, _, rfl, rfl, ht, h0, word, some r, rfl, rfl, hr0, _, rfl, iteF ?_⟩
    refine ⟨_, rfl, a, _, 0, _, rfl, rfl, ht, h0, dP, word, .ref tP, rfl, rfl, hk, ?_⟩
    refine ⟨_, rfl, a, _, rfl, .inr ht, _, rfl, tP, _, rfl, .inr (hT H), _, _, rfl, rfl, rfl, _, rfl, ?_⟩
    have e1 : ((V.str word :: args).length : Int) = (((kinds.map V.str).length : Nat) : Int) + 1 := by rw [List.length_map, List.length_cons, lk]; omega
    rw [e1]
    refine ite2 (fun hne => by simp at hne) (fun _ => ?_)
    refine ⟨_, rfl, _, rfl, 1, rfl, a, _, rfl, ht, ?_, fun c nc => ?_⟩
    · rintro ⟨h2, _⟩
      rw [show HT.sIx (V.str word :: args).length 0 (some 1) = min 1 (V.str word :: args).length from HT.sIx_nat _ 0 1, List.length_cons] at h2
      omega
    · rw [cut_tail]
      have sc := same_new (o := .tup args) nc
      have hT1 := hT (upd H c (.tup args))
      have hc1 : SqT K (upd H c (.tup args)) c args := SqT.of upd_same
      have ha1 := dpAll_same sc _ _ hargs
      generalize upd H c (.tup args) = H1 at *
      refine ⟨tP, c, _, _, rfl, .inr ⟨hT1, hc1, fun D nD => ?_⟩⟩
      have ly : (kinds.map V.str).length = kinds.length := List.length_map _
      refine lc_it (walk_zipT (n := args.length) (by rw [List.length_map, lk, Nat.min_self])) (fun i H2 => ∃ acc : List Bool, H2 D = some (.lst (acc.map V.bl)) ∧ acc.length = i ∧ (∀ b ∈ acc, b = true) ∧ Same H1 H2)
        ⟨[], upd_same, rfl, fun _ h => (by cases h), same_new nD⟩ (fun i H2 _ ⟨_, _, _, _, s⟩ => ⟨hT H2, Same.seqT s hc1⟩) (fun i x H2 H3 hi hI hy => ?_) (fun H2 hI => ?_)
      · obtain ⟨acc, eD, el, hac, s2⟩ := hI
        obtain ⟨T, x1, x2, rfl, nT, rfl, hx1, hx2⟩ := hy
        replace hx1 : (kinds.map V.str)[i]? = some x1 := hx1
        replace hx2 : args[i]? = some x2 := hx2
        rw [List.getElem?_map] at hx1
        obtain ⟨part, ep, rfl⟩ := Option.map_eq_some_iff.mp hx1
        have s3 := s2.trans (same_new (o := .tup [.str part, x2]) nT)
        obtain ⟨d, ed, hd⟩ := dpAll_at (dpAll_same s3 _ _ ha1) hx2
        have hga := paired_at hg ep ed
        have eT : (upd H2 T (.tup [.str part, x2])) T = some (.tup [.str part, x2]) := upd_same
        have eD3 : (upd H2 T (.tup [.str part, x2])) D = some (.lst (acc.map V.bl)) := same_new nT _ _ eD
        generalize upd H2 T (.tup [.str part, x2]) = H3 at *
        refine ⟨T, _, rfl, SqT.of eT, rfl, .str part, [x2], rfl, x2, [], rfl, rfl, rfl, ?_⟩
        refine ⟨_, rfl, _, rfl, part, x2, d, rfl, hd, hga, fun H4 s4 => ?_⟩
        refine ⟨acc.map V.bl, s4 _ _ eD3, small1000 (by rw [List.length_map]; omega), acc ++ [true], by rw [upd_same, List.map_append]; rfl, by rw [List.length_append, el]; rfl, fun b hb => ?_, fun b o e => ?_⟩
        · rcases List.mem_append.mp hb with hb | hb
          · exact hac b hb
          · exact List.mem_singleton.mp hb
        · rw [upd_ne (ne_of_none e nD)]; exact s4 _ _ (s3 b o e)
      · obtain ⟨acc, eD, el, hac, s2⟩ := hI
        refine ⟨D, acc, rfl, SqL.of eD, ?_⟩
        rw [bools_true acc hac]
        exact kk H2 (sc.trans s2)
end
/-! ### check_deed without a fault -/
def kindsS : List Str := ["feed", "dice", "table", "source", "field", "flag", "slot"]
structure KindsK (K : PySem.W.Frag) (C : Addr) : Prop where
  ex : ∃ kt, ClX.CVal K C (.type "type") "KINDS" (.ref kt) (.ref kt) ∧ ∀ H, SqT K H kt (kindsS.map V.str)
/-- the things by their names: kind and parts -/
abbrev Ths := List (Str × Str × List Str)
inductive ThL (K : PySem.W.Frag) (H : Hp) (C : Addr) : List (Str × V) → Ths → Prop where
  | nil : ThL K H C [] []
  | cons {n kind : Str} {parts : List Str} {a : Addr} {l : List (Str × V)} {th : Ths} (h : ThingAt K H C a kind n parts) (t : ThL K H C l th) : ThL K H C ((n, .ref a) :: l) ((n, kind, parts) :: th)
theorem ThL.same {K : PySem.W.Frag} {H H' : Hp} {C : Addr} (s : Same H H') : ∀ {l : List (Str × V)} {th : Ths}, ThL K H C l th → ThL K H' C l th
  | _, _, .nil => .nil
  | _, _, .cons h t => .cons (h.same s) (t.same s)
theorem ThL.at {K : PySem.W.Frag} {H : Hp} {C : Addr} {n kind : Str} {parts : List Str} : ∀ {l : List (Str × V)} {th : Ths}, ThL K H C l th → look th n = some (kind, parts) → ∃ a, look l n = some (.ref a) ∧ ThingAt K H C a kind n parts
  | _, _, .nil, e => by cases e
  | _, _, .cons (n := m) (kind := k) (parts := p) (a := a) h t, e => by
    by_cases q : m = n
    · rw [look_pos (p := (m, k, p)) q] at e
      cases Option.some.inj e
      subst q
      exact ⟨a, look_pos (p := (m, V.ref a)) rfl, h⟩
    · rw [look_neg (p := (m, k, p)) q] at e
      obtain ⟨b, e', h'⟩ := t.at e
      exact ⟨b, by rw [look_neg (p := (m, V.ref a)) q]; exact e', h'⟩
theorem ThL.len {K : PySem.W.Frag} {H : Hp} {C : Addr} : ∀ {l : List (Str × V)} {th : Ths}, ThL K H C l th → l.length = th.length
  | _, _, .nil => rfl
  | _, _, .cons _ t => by rw [List.length_cons, List.length_cons, t.len]
/-- a part of a deed that check_deed lets pass; x0: the deed's first name -/
inductive CheckArg (th : Ths) (x0 : PyData) : Str → PyData → Prop where
  | key {k x kind : Str} {parts : List Str} (e0 : x0 = .str x) (e : look th x = some (kind, parts)) (h : k ∈ parts) : CheckArg th x0 "key" (.str k)
  | thing {x kind : Str} {parts : List Str} (e : look th x = some (kind, parts)) : CheckArg th x0 "thing" (.str x)
  | kind {x part : Str} {parts : List Str} (m : part ∈ kindsS) (e : look th x = some (part, parts)) : CheckArg th x0 part (.str x)
  | other {part : Str} {d : PyData} (h1 : part ≠ "key") (h2 : part ≠ "thing") (h3 : part ∉ kindsS) : CheckArg th x0 part d
def spCheck (K : PySem.W.Frag) (w : World) (C dP : Addr) : Sp := fun vs H Q _ => ∃ (bn a : Addr) (tl : List (Str × V)) (th : Ths) (word : Str) (args : List V) (ds : List PyData) (kinds : List Str), vs = [.ref bn, .ref a] ∧ H bn = some (.dK (kvs tl)) ∧ ThL K H C tl th ∧
  SqT K H a (.str word :: args) ∧ DpAll K H args ds ∧ PartsK K w dP word kinds ∧ Paired (CheckArg th (ds.headD .none)) kinds ds ∧ ∀ H', Same H H' → Q .non H'
theorem inV_str {x : Str} {xs : List Str} : inV (.str x) (xs.map V.str) = decide (x ∈ xs) := by
  unfold inV
  by_cases h : x ∈ xs
  · rw [decide_eq_true h, List.any_eq_true]
    exact ⟨.str x, List.mem_map.mpr ⟨x, h, rfl⟩, by show (x == x) = true; simp⟩
  · rw [decide_eq_false h, List.any_eq_false]
    intro v hv
    obtain ⟨y, hy, rfl⟩ := List.mem_map.mp hv
    intro q
    have q' : y = x := beq_iff_eq.mp q
    exact h (q' ▸ hy)
theorem flat_strs (xs : List Str) : (xs.map V.str).all flatV = true := by
  rw [List.all_eq_true]
  intro v hv
  obtain ⟨y, _, rfl⟩ := List.mem_map.mp hv
  rfl
section
variable {P : Program} {w : World} {K : PySem.W.Frag} {mg : Str → Option Value} {base : Heap}
theorem scCD : FnScope ["by_name", "deed", "part", "given"] ["by_name", "deed"] (defScope sCheckDeed) := ⟨rfl, rfl, rfl, by decide +kernel, rfl, by decide +kernel, by decide +kernel⟩
theorem ok_check {f C dP : Addr} {fd : FuncData} (F : Fun K "check_deed" "check_deed" sCheckDeed f fd) (mZ : mg "zip" = none) (mP : mg "PARTS" = some (.ref dP)) (T : ThIn K mg C) (G : KindsK K C) :
    FnOk P w K mg base CX0 1 f fd ["by_name", "deed"] (spCheck K w C dP) := by
  refine F.ok scCD (fun vs H Q E h => ?_) (fun cdv A outer s H vs Q E hr h => ?_)
  · obtain ⟨bn, a, tl, th, word, args, ds, kinds, rfl, _⟩ := h
    rfl
  · obtain ⟨bn, a, tl, th, word, args, ds, kinds, rfl, hbn, hth, ht, hargs, hp, hg, kk⟩ := h
    have hu := hu_of hr
    obtain ⟨tP, hk, hT⟩ := hp.ex
    obtain ⟨kt, hcv, hks⟩ := G.ex
    refine ⟨_, pss_one (ps_for PassesOwn.never rfl (RZ.pi_zipA (by rfl) mZ (pa_cons (pe_ix ix_kdict (pe_glob (v := .ref dP) rfl mP rfl) (pe_ix ix_tup (pv 1) pe_int (fun _ _ => rfl)) (fun _ _ => rfl)) (pa_cons (pe_slice sl_tup (pv 1) (po_some pe_int) po_none) pa_nil)))
        (pg_tup rfl (pgs_cons (pg_name (i := 2) scCD.nd rfl (.inl rfl)) (pgs_cons (pg_name (i := 3) scCD.nd rfl (.inl rfl)) pgs_nil)))
      (pss_cons (ps_if (PW.pt (pw_and (pt_cmpR op_eq (pv 2) pe_str (nomark _)) (pw_and1 (pt_cmpR op_notIn_seq (pv 3) (pe_fld (pe_dget hu (pv 0) (pe_ix ix_tup (pv 1) pe_int (fun _ _ => rfl)) (fun _ _ => rfl)) rfl) (by rfl))))) (pss_one ps_never) pss_nil)
      (pss_cons (ps_if (PW.pt (pw_and (pt_cmpR op_eq (pv 2) pe_str (nomark _)) (pw_and1 (pt_cmp (pc_dnotin hu (pv 3) (pv 0)))))) (pss_one ps_never) pss_nil)
      (pss_one (ps_if (PW.pt (pw_and (pt_cmpR op_in_seq (pv 2) (ClX.pe_cval (pe_glob (v := .ref C) rfl T.m rfl) rfl) (by rfl)) (pw_and1 (PW.pt (pw_or (pt_cmp (pc_dnotin hu (pv 3) (pv 0))) (pw_or1 (pt_cmpR op_ne (pe_fld (pe_dget hu (pv 0) (pv 3) (fun _ _ => rfl)) rfl) (pv 2) (nomark _))))))))
        (pss_one ps_never) pss_nil))))), ?_⟩
    have lk : kinds.length = args.length := by rw [paired_len hg, dpAll_len hargs]
    have h0 : atI (V.str word :: args) 0 = some (.str word) := atI_nat (j := 0) rfl
    refine ⟨_, rfl, a, _, 0, _, rfl, rfl, ht, h0, dP, word, .ref tP, rfl, rfl, hk, ?_⟩
    refine ⟨_, rfl, 1, rfl, a, _, rfl, ht, ?_, fun c nc => ?_⟩
    · rintro ⟨h2, _⟩
      rw [show HT.sIx (V.str word :: args).length 0 (some 1) = min 1 (V.str word :: args).length from HT.sIx_nat _ 0 1, List.length_cons] at h2
      omega
    rw [cut_tail]
    have sc := same_new (o := .tup args) nc
    have hc1 : SqT K (upd H c (.tup args)) c args := SqT.of upd_same
    have ha1 := dpAll_same sc _ _ hargs
    have hth1 := hth.same sc
    have hbn1 := sc _ _ hbn
    have ht1 := Same.seqT sc ht
    generalize upd H c (.tup args) = H1 at *
    refine ⟨tP, c, _, _, rfl, .inr ⟨hT H1, hc1, ?_⟩⟩
    refine for_it (walk_zipT (n := args.length) (by rw [List.length_map, lk, Nat.min_self])) (fun i σ H2 => ∃ y2 y3 : Option V, σ = [some (.ref bn), some (.ref a), y2, y3] ∧ Same H1 H2)
      ⟨none, none, rfl, Same.refl _⟩ (fun i σ H2 _ ⟨_, _, _, s⟩ => ⟨hT H2, Same.seqT s hc1⟩) (fun i x σ H2 H3 hi hI hy => ?_) (fun σ H2 hI => ?_)
    · obtain ⟨y2, y3, rfl, s2⟩ := hI
      obtain ⟨T', x1, x2, rfl, nT, rfl, hx1, hx2⟩ := hy
      replace hx1 : (kinds.map V.str)[i]? = some x1 := hx1
      replace hx2 : args[i]? = some x2 := hx2
      rw [List.getElem?_map] at hx1
      obtain ⟨part, ep, rfl⟩ := Option.map_eq_some_iff.mp hx1
      have s3 := s2.trans (same_new (o := .tup [.str part, x2]) nT)
      obtain ⟨d, ed, hd⟩ := dpAll_at (dpAll_same s3 _ _ ha1) hx2
      have hga := paired_at hg ep ed
      have eT : (upd H2 T' (.tup [.str part, x2])) T' = some (.tup [.str part, x2]) := upd_same
      have hth3 := hth1.same s3
      have hbn3 := s3 _ _ hbn1
      have ht3 := Same.seqT s3 ht1
      have hargs3 := dpAll_same s3 _ _ ha1
      generalize upd H2 T' (.tup [.str part, x2]) = H3 at *
      refine ⟨T', _, rfl, SqT.of eT, rfl, .str part, [x2], rfl, x2, [], rfl, rfl, ?_⟩
      have hget : ∀ {x kind : Str} {parts : List Str}, look th x = some (kind, parts) → ∃ b, ThingAt K H3 C b kind x parts ∧ DGet H3 bn (.str x) (some (.ref b)) := fun {x kind parts} e => by
        obtain ⟨b, e1, e2⟩ := hth3.at e
        refine ⟨b, e2, ?_⟩
        have := DGet.k (k := Sum.inr x) hbn3
        rw [valV_kvs, e1] at this
        exact this
      cases hga with
      | @key k x kind parts e0 e hm =>
        obtain ⟨b, ⟨dx, fs, t, b1, b2, b3, b4, b5⟩, g⟩ := hget e
        cases hd
        have hx0 : ∃ r, args = V.str x :: r := by
          cases ds with
          | nil => cases (show PyData.none = PyData.str x from e0)
          | cons d' r' =>
            obtain ⟨v', r, rfl, h', _⟩ := dpAll_cons hargs3
            have e' : d' = PyData.str x := e0
            subst e'
            cases h'
            exact ⟨r, rfl⟩
        obtain ⟨r, rfl⟩ := hx0
        refine ⟨_, rfl, rfl, _, rfl, iteT ?_⟩
        refine ⟨_, rfl, _, rfl, _, rfl, a, _, 1, _, rfl, rfl, ht3, atI_nat (j := 1) rfl, bn, _, rfl, g, b, C, dx, fs, _, rfl, b1, T.cls, T.np, b4, t, _, rfl, .inr b5, rfl, flat_strs parts, _, rfl, ?_⟩
        rw [inV_str, decide_eq_true hm]
        refine iteF ⟨_, rfl, rfl, _, rfl, iteF ?_⟩
        refine ⟨_, rfl, C, _, _, _, rfl, T.rd, hcv, kt, _, rfl, .inr (hks H3), rfl, flat_strs kindsS, _, rfl, ?_⟩
        rw [inV_str, show decide (("key" : Str) ∈ kindsS) = false by decide +kernel]
        exact iteF ⟨_, _, rfl, s3⟩
      | @thing x kind parts e =>
        obtain ⟨b, hb, g⟩ := hget e
        cases hd
        refine ⟨_, rfl, rfl, _, rfl, iteF ⟨_, rfl, rfl, _, rfl, iteT ?_⟩⟩
        refine ⟨_, rfl, _, rfl, bn, _, rfl, g, _, rfl, iteF ?_⟩
        refine ⟨_, rfl, C, _, _, _, rfl, T.rd, hcv, kt, _, rfl, .inr (hks H3), rfl, flat_strs kindsS, _, rfl, ?_⟩
        rw [inV_str, show decide (("thing" : Str) ∈ kindsS) = false by decide +kernel]
        exact iteF ⟨_, _, rfl, s3⟩
      | @kind x part parts m e =>
        obtain ⟨b, ⟨dx, fs, t, b1, b2, b3, b4, b5⟩, g⟩ := hget e
        cases hd
        have n1 : part ≠ "key" := fun q => by rw [q] at m; exact absurd m (by decide +kernel)
        have n2 : part ≠ "thing" := fun q => by rw [q] at m; exact absurd m (by decide +kernel)
        refine ⟨_, rfl, rfl, _, rfl, ?_⟩
        rw [decide_eq_false fun e => n1 (V.str.inj e)]
        refine iteF ⟨_, rfl, rfl, _, rfl, ?_⟩
        rw [decide_eq_false fun e => n2 (V.str.inj e)]
        refine iteF ⟨_, rfl, C, _, _, _, rfl, T.rd, hcv, kt, _, rfl, .inr (hks H3), rfl, flat_strs kindsS, _, rfl, ?_⟩
        rw [inV_str, decide_eq_true m]
        refine iteT ⟨_, rfl, _, rfl, bn, _, rfl, g, _, rfl, iteF ?_⟩
        refine ⟨_, rfl, _, rfl, bn, _, rfl, g, b, C, dx, fs, _, rfl, b1, T.cls, T.nk, b2, _, rfl, rfl, _, rfl, ?_⟩
        rw [decide_eq_true rfl]
        exact iteF ⟨_, _, rfl, s3⟩
      | other h1 h2 h3 =>
        refine ⟨_, rfl, rfl, _, rfl, ?_⟩
        rw [decide_eq_false fun e => h1 (V.str.inj e)]
        refine iteF ⟨_, rfl, rfl, _, rfl, ?_⟩
        rw [decide_eq_false fun e => h2 (V.str.inj e)]
        refine iteF ⟨_, rfl, C, _, _, _, rfl, T.rd, hcv, kt, _, rfl, .inr (hks H3), rfl, flat_strs kindsS, _, rfl, ?_⟩
        rw [inV_str, decide_eq_false h3]
        exact iteF ⟨_, _, rfl, s3⟩
    · obtain ⟨y2, y3, rfl, s2⟩ := hI
      exact kk H2 (sc.trans s2)
end
/-! ### State: made -/
def stF (bn ct : Addr) (f sd sr : Nat) : List (Str × V) := [("by_name", .ref bn), ("contents", .ref ct), ("fetchings", .int (f : Int)), ("seedings", .int (sd : Int)), ("serials", .int (sr : Int))]
theorem stF_made (bn ct : Addr) : putF "serials" (.int 0) (putF "seedings" (.int 0) (putF "fetchings" (.int 0) (putF "contents" (.ref ct) (putF "by_name" (.ref bn) [])))) = stF bn ct 0 0 0 := rfl
theorem stF_fet (bn ct : Addr) (f sd sr g : Nat) : putF "fetchings" (.int (g : Int)) (stF bn ct f sd sr) = stF bn ct g sd sr := rfl
theorem stF_see (bn ct : Addr) (f sd sr g : Nat) : putF "seedings" (.int (g : Int)) (stF bn ct f sd sr) = stF bn ct f g sr := rfl
theorem stF_ser (bn ct : Addr) (f sd sr g : Nat) : putF "serials" (.int (g : Int)) (stF bn ct f sd sr) = stF bn ct f sd g := rfl
theorem stF_bn (bn ct : Addr) (f sd sr : Nat) : (stF bn ct f sd sr).lookup ("by_name" : Str) = some (.ref bn) := rfl
theorem stF_ct (bn ct : Addr) (f sd sr : Nat) : (stF bn ct f sd sr).lookup ("contents" : Str) = some (.ref ct) := rfl
theorem stF_f (bn ct : Addr) (f sd sr : Nat) : (stF bn ct f sd sr).lookup ("fetchings" : Str) = some (.int (f : Int)) := rfl
theorem stF_sd (bn ct : Addr) (f sd sr : Nat) : (stF bn ct f sd sr).lookup ("seedings" : Str) = some (.int (sd : Int)) := rfl
theorem stF_sr (bn ct : Addr) (f sd sr : Nat) : (stF bn ct f sd sr).lookup ("serials" : Str) = some (.int (sr : Int)) := rfl
theorem stF_len (bn ct : Addr) (f sd sr : Nat) : (stF bn ct f sd sr).length < 1000 := by show 5 < 1000; decide
structure StIn (K : PySem.W.Frag) (mg : Str → Option Value) (CS : Addr) : Prop where
  m : mg "State" = some (.ref CS)
  cls : Cls K CS
  nb : NoAttr K CS "by_name"
  nc : NoAttr K CS "contents"
  nf : NoAttr K CS "fetchings"
  ns : NoAttr K CS "seedings"
  nr : NoAttr K CS "serials"
/-- the content of a thing at first -/
def firstD (kind : Str) : PyData :=
  if kind = "feed" then .tuple [.int 0, .int 0, .int 0] else if kind = "dice" then .tuple [.int 0, .int 0] else if kind = "table" then .tuple [] else if kind = "source" then .int 0 else if kind = "flag" then .bool false else .none
def firsts (th : Ths) : List (Str × PyData) := th.map fun t => (t.1, firstD t.2.1)
structure FirstK (K : PySem.W.Frag) (w : World) (dA : Addr) : Prop where
  at_ : ∀ kind ∈ kindsS, ∃ v, KDct K w dA kind v ∧ ∀ H, Dq K H v (firstD kind)
theorem ThL.names {K : PySem.W.Frag} {H : Hp} {C : Addr} : ∀ {l : List (Str × V)} {th : Ths}, ThL K H C l th → Qp.names l = Qp.names th
  | _, _, .nil => rfl
  | _, _, .cons _ t => by
    show _ :: _ = _ :: _
    rw [show List.map _ _ = _ from t.names]
    rfl
theorem ThL.get {K : PySem.W.Frag} {H : Hp} {C : Addr} : ∀ {l : List (Str × V)} {th : Ths} {i : Nat} {v : V}, ThL K H C l th → (l.map (·.2))[i]? = some v → ∃ n kind parts a, v = .ref a ∧ l[i]? = some (n, .ref a) ∧ th[i]? = some (n, kind, parts) ∧ ThingAt K H C a kind n parts
  | _, _, _, _, .nil, e => by simp at e
  | _, _, 0, _, .cons h _, e => by
    obtain rfl := Option.some.inj e
    exact ⟨_, _, _, _, rfl, rfl, rfl, h⟩
  | _, _, i + 1, _, .cons _ t, e => t.get (i := i) e
/-- a new name is put at the end -/
theorem put_new {α : Type} {l : List (Str × α)} {n : Str} {v : α} (h : n ∉ names l) : put l n v = l ++ [(n, v)] := by
  unfold put
  rw [if_neg]
  intro q
  obtain ⟨p, hp, e⟩ := List.any_eq_true.mp q
  exact h (List.mem_map.mpr ⟨p, hp, of_decide_eq_true e⟩)
theorem nodup_take {α : Type} {l : List (Str × α)} {n : Str} {v : α} {i : Nat} (h : (names l).Nodup) (e : l[i]? = some (n, v)) : n ∉ names (l.take i) := by
  intro m
  obtain ⟨p, hp, ep⟩ := List.mem_map.mp m
  obtain ⟨j, hj⟩ := List.getElem?_of_mem hp
  rw [List.getElem?_take] at hj
  split at hj
  · rename_i hji
    obtain ⟨h1, e1⟩ := List.getElem?_eq_some_iff.mp hj
    obtain ⟨h2, e2⟩ := List.getElem?_eq_some_iff.mp e
    have hl : (names l).length = l.length := List.length_map _
    have := (List.pairwise_iff_getElem.mp h) j i (by rw [hl]; exact h1) (by rw [hl]; exact h2) hji
    apply this
    unfold names
    rw [List.getElem_map, List.getElem_map, e1, e2]
    exact ep
  · cases hj
theorem seqT_mask {K : PySem.W.Frag} {H : Hp} {l : List Addr} {a : Addr} {xs : List V} (h : SqT K H a xs) (n : ∀ b ∈ l, ¬ Rd H b (.tup xs)) : SqT K (mask l H) a xs := by
  rcases h with h | h
  · have na : a ∉ l := fun m => n a m h
    refine .inl ?_
    rcases h with h | ⟨o, h⟩
    · exact .inl (by rw [mask_out na]; exact h)
    · exact .inr ⟨o, by rw [mask_out na]; exact h⟩
  · exact .inr h
theorem rd_ins {H : Hp} {s C dx : Addr} {fs : List (Str × V)} {xs : List V} (hs : H s = some (.ins C dx fs)) : ¬ Rd H s (.tup xs) := by
  rintro (h | ⟨o, h⟩) <;> rw [hs] at h <;> cases h
theorem ThingAt.maskS {K : PySem.W.Frag} {H : Hp} {C CS s ds a : Addr} {kind n : Str} {parts : List Str} (hs : H s = some (.ins CS ds [])) (h : ThingAt K H C a kind n parts) : ThingAt K (mask [s] H) C a kind n parts := by
  obtain ⟨dx, fs, t, h1, h2, h3, h4, h5⟩ := h
  have na : a ∉ [s] := fun m => by
    rw [List.mem_singleton.mp m, hs] at h1
    cases h1
    cases h2
  exact ⟨dx, fs, t, by rw [mask_out na]; exact h1, h2, h3, h4, seqT_mask h5 fun b hb => by rw [List.mem_singleton.mp hb]; exact rd_ins hs⟩
theorem ThL.maskS {K : PySem.W.Frag} {H : Hp} {C CS s ds : Addr} (hs : H s = some (.ins CS ds [])) : ∀ {l : List (Str × V)} {th : Ths}, ThL K H C l th → ThL K (mask [s] H) C l th
  | _, _, .nil => .nil
  | _, _, .cons h t => .cons (h.maskS hs) (t.maskS hs)
def spSInit (K : PySem.W.Frag) (C CS : Addr) : Sp := fun vs H Q _ => ∃ (s ds t : Addr) (tl : List (Str × V)) (th : Ths), vs = [.ref s, .ref t] ∧ H s = some (.ins CS ds []) ∧ SqT K H t (tl.map (·.2)) ∧ ThL K H C tl th ∧ (names th).Nodup ∧ th.length ≤ 100 ∧ (∀ t ∈ th, t.2.1 ∈ kindsS) ∧
  ∀ (H' : Hp) (bn ct : Addr) (l : List (Str × V)), (∀ b o, b ≠ s → H b = some o → H' b = some o) → H bn = none → H ct = none → bn ≠ ct → H' s = some (.ins CS ds (stF bn ct 0 0 0)) → H' bn = some (.dK (kvs tl)) → H' ct = some (.dK (kvs l)) → (∀ M, CsR K M l (firsts th)) → Q .non H'
section
variable {P : Program} {w : World} {K : PySem.W.Frag} {mg : Str → Option Value} {base : Heap}
theorem scSI : FnScope ["self", "things", "thing"] ["self", "things"] (defScope (st 0)) := ⟨rfl, rfl, rfl, by decide +kernel, rfl, by decide +kernel, by decide +kernel⟩
theorem ok_sinit {f C CS dA : Addr} {fd : FuncData} {k : Nat} (F : Fun K "__init__" "State.__init__" (st 0) f fd) (T : ThIn K mg C) (S : StIn K mg CS) (mA : mg "AT_FIRST" = some (.ref dA)) (G : FirstK K w dA) : FnOk P w K mg base CX0 (k + 1) f fd ["self", "things"] (spSInit K C CS) := by
  refine F.ok scSI (fun vs H Q E h => ?_) (fun cdv A outer s0 H vs Q E hr h => ?_)
  · obtain ⟨s, ds, t, tl, th, rfl, _⟩ := h
    rfl
  · obtain ⟨s, ds, t, tl, th, rfl, hs, ht, hth, hnd, hl, hk, kk⟩ := h
    refine ⟨_, pss_cons (ps_fld (pv 0) (pe_dc (own := [("thing", 2)]) (g := gName 2) (tt := tYes) (tk := tFld K (tVar 2) "name") (tv := tVar 2) rfl scSI.nd (pi_tup (pv 1)) (blkOk_by (N := ["self", "things", "thing"]) (sc := defScope (st 0)) (by decide +kernel))
          (fun _ _ _ _ _ => pg_name (i := 2) scSI.nd rfl (.inl rfl)) (fun _ _ _ _ _ => pts_nil) (fun _ _ _ _ _ => pe_fld (pv 2) rfl) (fun _ _ _ _ _ => pv 2)) rfl)
      (pss_cons (ps_fld (pv 0) (pe_dc (own := [("thing", 2)]) (g := gName 2) (tt := tYes) (tk := tFld K (tVar 2) "name") (tv := tOp (rIxD K w) (tC (.ref dA)) (tFld K (tVar 2) "kind")) rfl scSI.nd (pi_tup (pv 1)) (blkOk_by (N := ["self", "things", "thing"]) (sc := defScope (st 0)) (by decide +kernel))
          (fun _ _ _ _ _ => pg_name (i := 2) scSI.nd rfl (.inl rfl)) (fun _ _ _ _ _ => pts_nil) (fun _ _ _ _ _ => pe_fld (pv 2) rfl) (fun _ _ _ _ _ => pe_ix ix_kdict (pe_glob (v := .ref dA) (by rfl) mA rfl) (pe_fld (pv 2) rfl) (fun _ _ => rfl))) rfl)
      (pss_cons (ps_fld (pv 0) pe_int rfl) (pss_cons (ps_fld (pv 0) pe_int rfl) (pss_one (ps_fld (pv 0) pe_int rfl))))), ?_⟩
    -- by_name
    have lt : (tl.map (·.2)).length = tl.length := List.length_map _
    have ltl : tl.length = th.length := hth.len
    have htn : (names tl).Nodup := by rw [hth.names]; exact hnd
    refine ⟨_, rfl, t, rfl, ⟨_, ht⟩, fun bn nbn => ?_⟩
    refine dc_tup (K := K) (a := t) (xs := tl.map (·.2)) (fun i H2 => H2 bn = some (.dK (kvs (tl.take i))) ∧ Same H H2) ⟨upd_same, same_new nbn⟩ (fun i H2 _ hI => Same.seqT hI.2 ht) (fun i x H2 hx hI => ?_) (fun H2 hI => ?_)
    · obtain ⟨eD, s2⟩ := hI
      obtain ⟨n, kind, parts, a, rfl, e1, e2, th1⟩ := hth.get hx
      obtain ⟨dx, fs, t1, b1, b2, b3, b4, b5⟩ := th1.same s2
      have hi : i < tl.length := (List.getElem?_eq_some_iff.mp e1).1
      refine ⟨rfl, ?_⟩
      refine ⟨_, rfl, a, C, dx, fs, _, rfl, b1, T.cls, T.nn, b3, _, rfl, _, .inr n, rfl, eD, small1000 (by rw [kvs_len, List.length_take]; omega), ?_, fun b o e => ?_⟩
      · rw [upd_same, putK_kvs, put_new (nodup_take htn e1), List.take_add_one, e1]
        rfl
      · rw [upd_ne (ne_of_none e nbn)]; exact s2 b o e
    obtain ⟨eb, s2⟩ := hI
    rw [lt, List.take_length] at eb
    have hs2 := s2 _ _ hs
    refine ⟨_, rfl, s, CS, ds, [], rfl, hs2, S.cls, S.nb, by decide, ?_⟩
    have nsb : bn ≠ s := (ne_of_none hs nbn).symm
    have eb3 : (upd H2 s (.ins CS ds (putF "by_name" (.ref bn) []))) bn = some (.dK (kvs tl)) := by rw [upd_ne nsb]; exact eb
    have es3 : (upd H2 s (.ins CS ds (putF "by_name" (.ref bn) []))) s = some (.ins CS ds (putF "by_name" (.ref bn) [])) := upd_same
    have c3 : Chg [s] H (upd H2 s (.ins CS ds (putF "by_name" (.ref bn) []))) := (Chg.of_same s2).trans (.upd List.mem_cons_self)
    generalize upd H2 s (.ins CS ds (putF "by_name" (.ref bn) [])) = H3 at *
    have keep : ∀ {b : Addr} {o : HO}, b ≠ s → H b = some o → H3 b = some o := fun {b o} nb e => c3 b o (fun m => nb (List.mem_singleton.mp m)) e
    -- contents
    have htM : SqT K (mask [s] H) t (tl.map (·.2)) := seqT_mask ht fun b hb => by rw [List.mem_singleton.mp hb]; exact rd_ins hs
    have hthM := hth.maskS hs
    have ht3 : SqT K H3 t (tl.map (·.2)) := Same.seqT (c3.mask.trans (mask_sub _ _)) htM
    have hth3 : ThL K H3 C tl th := hthM.same (c3.mask.trans (mask_sub _ _))
    refine ⟨_, rfl, t, rfl, ⟨_, ht3⟩, fun ct nct => ?_⟩
    refine dc_tup (K := K) (a := t) (xs := tl.map (·.2)) (fun i H4 => (∃ l : List (Str × V), H4 ct = some (.dK (kvs l)) ∧ names l = names (th.take i) ∧ ∀ M, CsR K M l (firsts (th.take i))) ∧ Same H3 H4) ⟨⟨[], upd_same, rfl, fun M => .nil⟩, same_new nct⟩ (fun i H4 _ hI => Same.seqT hI.2 ht3) (fun i x H4 hx hI => ?_) (fun H4 hI => ?_)
    · obtain ⟨⟨l, eD, en, hl3⟩, s4⟩ := hI
      obtain ⟨n, kind, parts, a, rfl, e1, e2, th1⟩ := hth3.get hx
      obtain ⟨dx, fs, t1, b1, b2, b3, b4, b5⟩ := th1.same s4
      have hi : i < th.length := (List.getElem?_eq_some_iff.mp e2).1
      obtain ⟨v, hv, hd⟩ := G.at_ kind (hk _ (List.mem_of_getElem? e2))
      have ll : l.length ≤ 100 := by
        have := congrArg List.length en
        simp only [names, List.length_map, List.length_take] at this
        omega
      refine ⟨rfl, ?_⟩
      refine ⟨_, rfl, a, C, dx, fs, _, rfl, b1, T.cls, T.nn, b3, ?_⟩
      refine ⟨_, rfl, a, C, dx, fs, _, rfl, b1, T.cls, T.nk, b2, dA, kind, v, rfl, rfl, hv, ?_⟩
      refine ⟨_, .inr n, rfl, eD, small1000 (by rw [kvs_len]; omega), ⟨l ++ [(n, v)], ?_, ?_, fun M => ?_⟩, fun b o e => ?_⟩
      · rw [upd_same, putK_kvs, put_new (by rw [en]; exact nodup_take hnd e2)]
      · rw [List.take_add_one, e2]
        show List.map _ _ = List.map _ _
        rw [List.map_append, List.map_append, show List.map (fun x => x.1) l = names l from rfl, en]
        rfl
      · rw [List.take_add_one, e2]
        show CsR K M _ (List.map _ _)
        rw [List.map_append]
        exact (hl3 M).app (.cons (hd M) .nil)
      · rw [upd_ne (ne_of_none e nct)]; exact s4 b o e
    obtain ⟨⟨l, ec, en, hl3⟩, s4⟩ := hI
    rw [show (tl.map (·.2)).length = th.length by rw [lt, ltl], List.take_length] at hl3
    have es4 := s4 _ _ es3
    have ncs : ct ≠ s := (ne_of_none es3 nct).symm
    have nbc : bn ≠ ct := ne_of_none eb3 nct
    have nctH : H ct = none := c3.free nct fun m => ncs (List.mem_singleton.mp m)
    refine ⟨_, rfl, s, CS, ds, _, rfl, es4, S.cls, S.nc, by show 1 < 1000; decide, ?_⟩
    refine ⟨_, rfl, s, CS, ds, _, rfl, upd_same, S.cls, S.nf, by show 2 < 1000; decide, ?_⟩
    refine ⟨_, rfl, s, CS, ds, _, rfl, upd_same, S.cls, S.ns, by show 3 < 1000; decide, ?_⟩
    refine ⟨_, rfl, s, CS, ds, _, rfl, upd_same, S.cls, S.nr, by show 4 < 1000; decide, ?_⟩
    refine kk _ bn ct l (fun b o nb e => ?_) nbn nctH nbc ?_ ?_ ?_ hl3
    · rw [upd_ne nb, upd_ne nb, upd_ne nb, upd_ne nb]
      exact s4 _ _ (keep nb e)
    · rw [upd_same, stF_made]
    · rw [upd_ne nsb, upd_ne nsb, upd_ne nsb, upd_ne nsb]
      exact s4 _ _ eb3
    · rw [upd_ne ncs, upd_ne ncs, upd_ne ncs, upd_ne ncs]
      exact ec
end
/-! ### World: made -/
def spUnlikeL : Sp := fun vs H Q _ => ∃ (t : Addr) (xs : List Str), vs = [.ref t] ∧ H t = some (.lst (xs.map V.str)) ∧ xs.Nodup ∧ xs.length ≤ 1000 ∧ ∀ H', Same H H' → Q .non H'
/-- a field stands behind what it is over -/
def FieldsOk (th : Ths) : Prop := ∀ (i : Nat) (n : Str) (parts : List Str), th[i]? = some (n, ("field" : Str), parts) → ∃ over rest, parts = over :: rest ∧ ∃ (j : Nat) (k : Str) (ps : List Str), j < i ∧ th[j]? = some (over, k, ps) ∧ (k = "source" ∨ k = "field")
def spFields (K : PySem.W.Frag) (C : Addr) : Sp := fun vs H Q _ => ∃ (t : Addr) (tl : List (Str × V)) (th : Ths), vs = [.ref t] ∧ SqT K H t (tl.map (·.2)) ∧ ThL K H C tl th ∧ FieldsOk th ∧ th.length ≤ 100 ∧ ∀ H', Same H H' → Q .non H'
theorem not_inV {u : Str} {xs : List Str} {i : Nat} (hn : xs.Nodup) (hu : xs[i]? = some u) : inV (.str u) ((xs.map V.str).take i) = false := by
  rw [← List.map_take, inV_str, decide_eq_false]
  intro hm
  obtain ⟨j, hj⟩ := List.getElem?_of_mem hm
  rw [List.getElem?_take] at hj
  split at hj
  · rename_i hji
    obtain ⟨h1, e1⟩ := List.getElem?_eq_some_iff.mp hj
    obtain ⟨h2, e2⟩ := List.getElem?_eq_some_iff.mp hu
    exact (List.pairwise_iff_getElem.mp hn) j i h1 h2 hji (e1.trans e2.symm)
  · cases hj
section
variable {P : Program} {w : World} {K : PySem.W.Frag} {mg : Str → Option Value} {base : Heap}
theorem ok_unlikeL {f : Addr} {fd : FuncData} {k : Nat} (F : Fun K "check_unlike" "check_unlike" sUnlike f fd) (me : mg "enumerate" = none) : FnOk P w K mg base CX0 (k + 1) f fd ["names"] spUnlikeL := by
  refine F.ok scCU (fun vs H Q E h => ?_) (fun cdv A outer s H vs Q E hr h => ?_)
  · obtain ⟨t, xs, rfl, _⟩ := h
    rfl
  · obtain ⟨t, xs, rfl, ht, hn, hl, kk⟩ := h
    refine ⟨_, pss_one (ps_for PassesOwn.never rfl (pi_enum (by rfl) me (pa_cons (pv 0) pa_nil)) (pg_tup rfl (pgs_cons (pg_name (i := 1) scCU.nd rfl (.inl rfl)) (pgs_cons (pg_name (i := 2) scCU.nd rfl (.inl rfl)) pgs_nil)))
      (pss_one (ps_if (pt_cmpR op_in_seq (pv 2) (pe_slice sl_list (pv 0) po_none (po_some (pv 1))) (by rfl)) (pss_one ps_never) pss_nil))), ?_⟩
    refine ⟨_, rfl, t, _, rfl, SqL.of ht, ?_⟩
    refine for_it (walk_enum (a := t) (xs := xs.map V.str)) (fun i σ H2 => ∃ y z, σ = [some (.ref t), y, z] ∧ Same H H2) ⟨none, none, rfl, Same.refl _⟩ (fun i σ H2 _ ⟨_, _, _, e⟩ => SqL.of (e _ _ ht)) ?_ ?_
    · rintro i x σ H2 H3 hi ⟨y, z, rfl, s2⟩ ⟨T, x1, x2, rfl, nT, rfl, hx1, hx2⟩
      replace hx1 : some (V.int (i : Nat)) = some x1 := hx1
      cases hx1
      replace hx2 : (xs.map V.str)[i]? = some x2 := hx2
      rw [List.getElem?_map] at hx2
      obtain ⟨u, hu, rfl⟩ := Option.map_eq_some_iff.mp hx2
      have s3 := s2.trans (same_new (o := .tup [.int (i : Nat), .str u]) nT)
      refine ⟨T, [.int (i : Nat), .str u], rfl, SqT.of upd_same, rfl, .int (i : Nat), [.str u], rfl, .str u, [], rfl, rfl, ?_⟩
      refine ⟨_, rfl, _, rfl, _, rfl, i, rfl, t, _, rfl, SqL.of (s3 _ _ ht), fun p np => ?_⟩
      rw [cut_take]
      refine ⟨p, _, rfl, .inl (SqL.of upd_same), rfl, ?_, _, rfl, ?_⟩
      · rw [← List.map_take]; exact flat_strs _
      · show (if (inV (.str u) ((xs.map V.str).take i)) = true then _ else _)
        rw [not_inV hn hu]
        exact iteF ⟨_, _, rfl, s3.trans (same_new np)⟩
    · rintro σ H2 ⟨y, z, rfl, s2⟩
      exact kk H2 s2
theorem scCF : FnScope ["things", "at", "thing", "below", "other"] ["things"] (defScope sFields) := ⟨rfl, rfl, rfl, by decide +kernel, rfl, by decide +kernel, by decide +kernel⟩
theorem ok_fields {f C : Addr} {fd : FuncData} {k : Nat} (F : Fun K "_check_fields" "_check_fields" sFields f fd) (me : mg "enumerate" = none) (T : ThIn K mg C) : FnOk P w K mg base CX0 (k + 1) f fd ["things"] (spFields K C) := by
  refine F.ok scCF (fun vs H Q E h => ?_) (fun cdv A outer s H vs Q E hr h => ?_)
  · obtain ⟨t, tl, th, rfl, _⟩ := h
    rfl
  · obtain ⟨t, tl, th, rfl, ht, hth, hf, hl, kk⟩ := h
    refine ⟨_, pss_one (ps_for PassesOwn.never rfl (pi_enumT (by rfl) me (pa_cons (pv 0) pa_nil)) (pg_tup rfl (pgs_cons (pg_name (i := 1) scCF.nd rfl (.inl rfl)) (pgs_cons (pg_name (i := 2) scCF.nd rfl (.inl rfl)) pgs_nil)))
      (pss_cons (ps_setLc (i := 3) (own := [("other", 4)]) (g := gName 4) (te := tFld K (tVar 4) "name") (tt := tTest (tOp (rIn K false) (tFld K (tVar 4) "kind") (tTup (tCons (tC (.str "source")) (tCons (tC (.str "field")) tNil))))) rfl scCF.nd rfl rfl (sw_true rfl rfl rfl (by decide +kernel)) (pi_tup (pe_slice sl_tup (pv 0) po_none (po_some (pv 1)))) (blkOk_by (N := ["things", "at", "thing", "below", "other"]) (sc := defScope sFields) (by decide +kernel))
          (fun _ _ _ _ _ => pg_name (i := 4) scCF.nd rfl (.inl rfl)) (fun _ _ _ _ _ => pts_one (pt_cmpR op_in_seq (pe_fld (pv 4) rfl) (pe_tup (pa_cons pe_str (pa_cons pe_str pa_nil))) (by rfl))) (fun _ _ _ _ _ => pe_fld (pv 4) rfl))
      (pss_one (ps_if (PW.pt (pw_and (pt_cmpR op_eq (pe_fld (pv 2) rfl) pe_str (nomark _)) (pw_and1 (pt_cmpR op_notIn_seq (pe_ix ix_tup (pe_fld (pv 2) rfl) pe_int (fun _ _ => rfl)) (pv 3) (by rfl))))) (pss_one ps_never) pss_nil)))), ?_⟩
    have ltl : tl.length = th.length := hth.len
    refine ⟨_, rfl, t, _, rfl, ht, for_enumT (K := K) (a := t) (xs := tl.map (·.2)) (fun i σ H2 => ∃ y z b, σ = [some (.ref t), y, z, b, none] ∧ Same H H2) ⟨none, none, none, rfl, Same.refl _⟩ (fun i σ H2 _ ⟨_, _, _, _, e⟩ => Same.seqT e ht) ?_ ?_⟩
    · rintro i x T' σ H2 hx nT ⟨y, z, b, rfl, s2⟩
      obtain ⟨n, kind, parts, a, rfl, e1, e2, th1⟩ := hth.get hx
      have hi : i < th.length := (List.getElem?_eq_some_iff.mp e2).1
      have s3 := s2.trans (same_new (o := .tup [.int (i : Nat), .ref a]) nT)
      have ht3 := Same.seqT s3 ht
      have eT : (upd H2 T' (.tup [.int (i : Nat), .ref a])) T' = some (.tup [.int (i : Nat), .ref a]) := upd_same
      have hth3 := hth.same s3
      generalize upd H2 T' (.tup [.int (i : Nat), .ref a]) = H3 at *
      refine ⟨T', _, rfl, SqT.of eT, rfl, .int (i : Nat), [.ref a], rfl, .ref a, [], rfl, rfl, ?_⟩
      refine ⟨_, rfl, _, rfl, i, rfl, t, _, rfl, ht3, ?_, fun c nc => ?_⟩
      · rintro ⟨_, h2⟩
        rw [HT.sIx_nat, List.length_map] at h2
        omega
      rw [cut_take]
      have s4 := s3.trans (same_new (o := .tup ((tl.map (·.2)).take i)) nc)
      have ec : SqT K (upd H3 c (.tup ((tl.map (·.2)).take i))) c ((tl.map (·.2)).take i) := SqT.of upd_same
      have hth4 := hth3.same (same_new (o := .tup ((tl.map (·.2)).take i)) nc)
      generalize upd H3 c (.tup ((tl.map (·.2)).take i)) = H4 at *
      refine ⟨c, rfl, ⟨_, ec⟩, fun D nD => ?_⟩
      refine lc_tup (K := K) (a := c) (xs := (tl.map (·.2)).take i) (fun m H5 => ∃ ys : List Str, H5 D = some (.lst (ys.map V.str)) ∧ ys.length ≤ m ∧ (∀ (j : Nat) (n k : Str) (ps : List Str), j < m → th[j]? = some (n, k, ps) → (k = "source" ∨ k = "field") → n ∈ ys) ∧ Same H4 H5)
        ⟨[], upd_same, Nat.le_refl _, fun j n k ps h => absurd h (by omega), same_new nD⟩ (fun m H5 _ ⟨_, _, _, _, s⟩ => Same.seqT s ec) (fun m x H5 hx5 hI => ?_) (fun H5 hI => ?_)
      · obtain ⟨ys, eD, el, hin, s5⟩ := hI
        rw [List.getElem?_take] at hx5
        split at hx5
        · rename_i hmi
          obtain ⟨n2, k2, p2, a2, rfl, f1, f2, th2⟩ := hth4.get hx5
          obtain ⟨dx, fs, t1, b1, b2, b3, b4, b5⟩ := th2.same s5
          refine ⟨rfl, ?_⟩
          refine ⟨_, rfl, a2, C, dx, fs, _, rfl, b1, T.cls, T.nk, b2, by show 2 ≤ sizeLine; decide, fun p np => ?_⟩
          have s6 := s5.trans (same_new (o := .tup [.str "source", .str "field"]) np)
          have b1' := same_new (o := .tup [.str "source", .str "field"]) np _ _ b1
          have eD' := same_new (o := .tup [.str "source", .str "field"]) np _ _ eD
          refine ⟨p, _, rfl, .inr (SqT.of upd_same), rfl, rfl, _, rfl, ?_⟩
          have ein : inV (.str k2) [V.str "source", V.str "field"] = decide (k2 ∈ [("source" : Str), "field"]) := inV_str (xs := [("source" : Str), "field"])
          show (if inV (.str k2) [V.str "source", V.str "field"] = true then _ else _)
          rw [ein]
          generalize upd H5 p (.tup [.str "source", .str "field"]) = H6 at *
          refine ite2 (fun hk => ?_) (fun hk => ?_)
          · refine ⟨_, rfl, a2, C, dx, fs, _, rfl, b1', T.cls, T.nn, b3, ys.map V.str, eD', small1000 (by rw [List.length_map]; omega), ys ++ [n2], by rw [upd_same, List.map_append]; rfl, by rw [List.length_append]; show ys.length + 1 ≤ m + 1; omega, fun j n k ps hj ej hk2 => ?_, fun b o e => ?_⟩
            · by_cases q : j = m
              · subst q
                rw [f2] at ej
                cases Option.some.inj ej
                exact List.mem_append_right _ List.mem_cons_self
              · exact List.mem_append_left _ (hin j n k ps (by omega) ej hk2)
            · rw [upd_ne (ne_of_none e nD)]; exact s6 b o e
          · refine ⟨ys, eD', by omega, fun j n k ps hj ej hk2 => ?_, s6⟩
            by_cases q : j = m
            · subst q
              rw [f2] at ej
              cases Option.some.inj ej
              exact absurd (decide_eq_true (by rcases hk2 with q | q <;> rw [q] <;> decide +kernel)) hk
            · exact hin j n k ps (by omega) ej hk2
        · cases hx5
      obtain ⟨ys, eD, el, hin, s5⟩ := hI
      rw [List.length_take, Nat.min_eq_left (by rw [List.length_map]; omega)] at hin
      have thi : ThingAt K H5 C a kind n parts := by
        obtain ⟨n', kind', parts', a', q1, q2, q3, q4⟩ := (hth4.same s5).get hx
        rw [e2] at q3
        cases Option.some.inj q3
        cases q1
        exact q4
      obtain ⟨dx, fs, t1, b1, b2, b3, b4, b5⟩ := thi
      refine ⟨_, rfl, a, C, dx, fs, _, rfl, b1, T.cls, T.nk, b2, rfl, _, rfl, ite2 (fun hk => ?_) (fun _ => ?_)⟩
      · have ek : kind = "field" := V.str.inj (of_decide_eq_true hk)
        subst ek
        obtain ⟨over, rest, rfl, j, k, ps, hj, ej, hk2⟩ := hf i n parts e2
        refine ⟨_, rfl, a, C, dx, fs, _, rfl, b1, T.cls, T.np, b4, t1, _, 0, _, rfl, rfl, b5, atI_nat (j := 0) rfl, _, rfl, D, _, rfl, .inl (SqL.of eD), rfl, flat_strs ys, _, rfl, ?_⟩
        show (if (!inV (.str over) (ys.map V.str)) = true then _ else _)
        rw [inV_str, decide_eq_true (hin j over k ps hj ej hk2)]
        exact iteF ⟨_, _, _, rfl, s4.trans s5⟩
      · exact ⟨_, _, _, rfl, s4.trans s5⟩
    · rintro σ H2 ⟨y, z, b, rfl, s2⟩
      exact kk H2 s2
end
def woF (t s : Addr) (log : V) : List (Str × V) := [("things", .ref t), ("_state", .ref s), ("_log", log)]
theorem woF_made (t s : Addr) (log : V) : putF "_log" log (putF "_state" (.ref s) (putF "things" (.ref t) [])) = woF t s log := rfl
theorem woF_t (t s : Addr) (log : V) : (woF t s log).lookup ("things" : Str) = some (.ref t) := rfl
theorem woF_s (t s : Addr) (log : V) : (woF t s log).lookup ("_state" : Str) = some (.ref s) := rfl
theorem woF_l (t s : Addr) (log : V) : (woF t s log).lookup ("_log" : Str) = some log := rfl
structure WoIn (K : PySem.W.Frag) (mg : Str → Option Value) (CW : Addr) : Prop where
  m : mg "World" = some (.ref CW)
  cls : Cls K CW
  nt : NoAttr K CW "things"
  ns : NoAttr K CW "_state"
  nl : NoAttr K CW "_log"
/-- a world by a model -/
structure Ws where
  th : Ths
  cs : List (Str × PyData)
  ft : Nat
  sd : Nat
  sr : Nat
/-- the state at s, the dict of its contents at ct; L: what may change -/
structure StAt (K : PySem.W.Frag) (L : List Addr) (H : Hp) (C CS s ct : Addr) (W : Ws) : Prop where
  sL : s ∈ L
  cL : ct ∈ L
  ex : ∃ (ds bn : Addr) (tl l : List (Str × V)), H s = some (.ins CS ds (stF bn ct W.ft W.sd W.sr)) ∧ mask L H bn = some (.dK (kvs tl)) ∧ ThL K (mask L H) C tl W.th ∧ H ct = some (.dK (kvs l)) ∧ CsR K (mask L H) l W.cs
/-- the world at w, unwatched -/
def WoAt (K : PySem.W.Frag) (L : List Addr) (H : Hp) (CW w s : Addr) (vs : List V) : Prop := ∃ dw t, mask L H w = some (.ins CW dw (woF t s .non)) ∧ SqT K (mask L H) t vs
def spWInit (K : PySem.W.Frag) (C CS CW : Addr) : Sp := fun vs H Q _ => ∃ (w dw : Addr) (L : List Addr) (tl : List (Str × V)) (th : Ths), vs = .ref w :: tl.map (·.2) ∧ H w = some (.ins CW dw []) ∧ w ∉ L ∧ Alive L H ∧ ThL K (mask L H) C tl th ∧ (names th).Nodup ∧ th.length ≤ 8 ∧ (∀ t ∈ th, t.2.1 ∈ kindsS) ∧ FieldsOk th ∧
  ∀ (H' : Hp) (s ct : Addr), (∀ b o, b ≠ w → H b = some o → H' b = some o) → H s = none → H ct = none → WoAt K (s :: ct :: L) H' CW w s (tl.map (·.2)) → StAt K (s :: ct :: L) H' C CS s ct ⟨th, firsts th, 0, 0, 0⟩ → Q .non H'
section
variable {P : Program} {w : World} {K : PySem.W.Frag} {mg : Str → Option Value} {base : Heap}
theorem scWI : FnScope ["self", "things", "thing"] ([("self" : Str)] ++ [("things" : Str)]) (defScope (wo 0)) := ⟨rfl, rfl, rfl, by decide +kernel, rfl, by decide +kernel, by decide +kernel⟩
theorem ok_winit {f fU fF fS C CS CW : Addr} {fd fdU fdF fdS : FuncData} {tk : Tok} (F : Fun K "__init__" "World.__init__" (wo 0) f fd) (T : ThIn K mg C) (S : StIn K mg CS) (W : WoIn K mg CW) (MS : Mk K CS fS) (GS : FnOk P w K mg base CX0 2 fS fdS ["self", "things"] (spSInit K C CS)) (bS : Binds K fdS ["self", "things"] [])
    (GU : FnOk P w K mg base CX0 3 fU fdU ["names"] spUnlikeL) (mU : mg "check_unlike" = some (.ref fU)) (kU : PySem.W.keepIn K (.ref fU) = true) (bU : Binds K fdU ["names"] [])
    (GF : FnOk P w K mg base CX0 3 fF fdF ["things"] (spFields K C)) (mF : mg "_check_fields" = some (.ref fF)) (kF : PySem.W.keepIn K (.ref fF) = true) (bF : Binds K fdF ["things"] []) (mlen : mg "len" = none) (mM : mg "MOST_THINGS" = some (.int 8 tk)) : FnR P w K mg base CX0 4 f (spWInit K C CS CW) := by
  obtain ⟨oc, od, kV, doc, pm, an, cdv, ct, osl, rfl, lk, hcd⟩ := F.ex
  have G := StX.fn_star (CX := CX0) (P := P) (w := w) (mg := mg) (base := base) (k := 3) (ps := ["self"]) (pv := "things") (N := ["self", "things", "thing"]) (sp := fun vs H Q _ => ∃ (w dw t : Addr) (L : List Addr) (tl : List (Str × V)) (th : Ths), vs = [.ref w, .ref t] ∧ H w = some (.ins CW dw []) ∧ SqT K (mask L H) t (tl.map (·.2)) ∧ w ∉ L ∧ Alive L H ∧ ThL K (mask L H) C tl th ∧ (names th).Nodup ∧ th.length ≤ 8 ∧ (∀ t ∈ th, t.2.1 ∈ kindsS) ∧ FieldsOk th ∧
      ∀ (H' : Hp) (s ct : Addr), (∀ b o, b ≠ w → H b = some o → H' b = some o) → H s = none → H ct = none → WoAt K (s :: ct :: L) H' CW w s (tl.map (·.2)) → StAt K (s :: ct :: L) H' C CS s ct ⟨th, firsts th, 0, 0, 0⟩ → Q .non H') lk hcd scWI StX.cxUp_none (StX.bind_star1 (B := fun us => bindArgs (PySem.W.fnOf "__init__" "World.__init__" (defArgs (wo 0)) (defBody (wo 0)) (defScope (wo 0)) .none kV doc pm an cdv ct) ⟨us, []⟩) (p1 := "self") (pv := "things") (fun a => rfl) (fun a r rs => rfl)) ?_
  · refine G.imp fun vs H Q E h => ?_
    obtain ⟨w, dw, L, tl, th, rfl, hw, hwL, al, hth, hnd, hl, hk, hf, kk⟩ := h
    refine ⟨[.ref w], tl.map (·.2), rfl, rfl, by rw [List.length_map, hth.len]; exact len1000 (by omega), fun p np => ⟨w, dw, p, L, tl, th, rfl, ?_, SqT.of (mask_upd (al.not np)), hwL, al.same (same_new np), hth.same (mask_same (same_new np)), hnd, hl, hk, hf, fun H' s ct h1 h2 h3 h4 h5 => kk H' s ct (fun b o nb e => h1 b o nb (same_new np _ _ e)) ?_ ?_ h4 h5⟩⟩
    · exact same_new np _ _ hw
    · by_cases q : s = p
      · rw [q] at h2; rw [upd_same] at h2; cases h2
      · rw [upd_ne q] at h2; exact h2
    · by_cases q : ct = p
      · rw [q] at h3; rw [upd_same] at h3; cases h3
      · rw [upd_ne q] at h3; exact h3
  · intro A outer s0 H vs Q E hr h
    obtain ⟨w, dw, t, L, tl, th, rfl, hw, htM, hwL, al, hthM, hnd, hl, hk, hf, kk⟩ := h
    have hr3 : Room 3 _ := hr
    refine ⟨_, pss_cons (ps_expr (pe_call GU hr (by rfl) mU kU bU .nil pass0 (pa_cons (pe_lc (own := [("thing", 2)]) (g := gName 2) (tt := tYes) (te := tFld K (tVar 2) "name") rfl scWI.nd (pi_tup (pv 1)) (blkOk_by (N := ["self", "things", "thing"]) (sc := defScope (wo 0)) (by decide +kernel))
          (fun _ _ _ _ _ => pg_name (i := 2) scWI.nd rfl (.inl rfl)) (fun _ _ _ _ _ => pts_nil) (fun _ _ _ _ _ => pe_fld (pv 2) rfl)) pa_nil)))
      (pss_cons (ps_expr (pe_call GF hr (by rfl) mF kF bF .nil pass0 (pa_cons (pv 1) pa_nil)))
      (pss_cons (ps_if (pt_cmpR op_gt (pe_callB call_len_seq (by rfl) mlen PySem.boot_len (pa_cons (pv 1) pa_nil)) (pe_glob (v := .int 8) rfl mM ⟨tk, rfl⟩) (nomark _)) (pss_one ps_never) pss_nil)
      (pss_cons (ps_fld (pv 0) (pv 1) rfl)
      (pss_cons (ps_fld (pv 0) (pe_make MS GS hr (by rfl) S.m bS .nil pass0 (pa_cons (pv 1) pa_nil)) rfl)
      (pss_one (ps_fld (pv 0) pe_non rfl)))))), ?_⟩
    have ht : SqT K H t (tl.map (·.2)) := Same.seqT (mask_sub _ _) htM
    have hth : ThL K H C tl th := hthM.same (mask_sub _ _)
    have ltl : tl.length = th.length := hth.len
    have lt : (tl.map (·.2)).length = th.length := by rw [List.length_map, ltl]
    refine ⟨_, rfl, t, rfl, ⟨_, ht⟩, fun D nD => ?_⟩
    refine lc_tup (K := K) (a := t) (xs := tl.map (·.2)) (fun i H2 => H2 D = some (.lst (((names th).take i).map V.str)) ∧ Same H H2) ⟨upd_same, same_new nD⟩ (fun i H2 _ hI => Same.seqT hI.2 ht) (fun i x H2 hx hI => ?_) (fun H2 hI => ?_)
    · obtain ⟨eD, s2⟩ := hI
      obtain ⟨n, kind, parts, a, rfl, e1, e2, th1⟩ := hth.get hx
      obtain ⟨dx, fs, t1, b1, b2, b3, b4, b5⟩ := th1.same s2
      have hi : i < th.length := (List.getElem?_eq_some_iff.mp e2).1
      refine ⟨rfl, ?_⟩
      refine ⟨_, rfl, a, C, dx, fs, _, rfl, b1, T.cls, T.nn, b3, _, eD, small1000 (by rw [List.length_map, List.length_take]; omega), ?_, fun b o e => ?_⟩
      · have en : (names th)[i]? = some n := by
          unfold names
          rw [List.getElem?_map, e2]
          rfl
        rw [upd_same, List.take_add_one, en, List.map_append]
        rfl
      · rw [upd_ne (ne_of_none e nD)]; exact s2 b o e
    obtain ⟨eD, s2⟩ := hI
    have ln : (names th).length = th.length := List.length_map _
    rw [lt, ← ln, List.take_length] at eD
    refine ⟨D, names th, rfl, eD, hnd, by rw [ln]; omega, fun H3 s3 => ?_⟩
    refine ⟨_, rfl, t, tl, th, rfl, Same.seqT (s2.trans s3) ht, hth.same (s2.trans s3), hf, by omega, fun H4 s4 => ?_⟩
    have s14 := (s2.trans s3).trans s4
    refine ⟨_, rfl, t, _, rfl, .inr (Same.seqT s14 ht), _, _, rfl, rfl, _, rfl, ?_⟩
    rw [decide_eq_false (by rw [lt]; omega)]
    refine iteF ?_
    have hw4 := s14 _ _ hw
    refine ⟨_, rfl, _, rfl, w, CW, dw, [], rfl, hw4, W.cls, W.nt, by decide, ?_⟩
    -- self._state = State(things)
    have c5 : Chg [w] H (upd H4 w (.ins CW dw (putF "things" (.ref t) []))) := (Chg.of_same s14).trans (.upd List.mem_cons_self)
    have hw5 : (upd H4 w (.ins CW dw (putF "things" (.ref t) []))) w = some (.ins CW dw (putF "things" (.ref t) [])) := upd_same
    generalize upd H4 w (.ins CW dw (putF "things" (.ref t) [])) = H5 at *
    -- what stays: behind the mask of w and L
    have hwm : mask L H w = some (.ins CW dw []) := by rw [mask_out hwL]; exact hw
    have htW : SqT K (mask [w] (mask L H)) t (tl.map (·.2)) := seqT_mask htM fun b hb => by rw [List.mem_singleton.mp hb]; exact rd_ins hwm
    have hthW : ThL K (mask [w] (mask L H)) C tl th := hthM.maskS hwm
    have alW : Alive L H5 := fun b hb => by
      obtain ⟨o, e⟩ := al b hb
      exact ⟨o, c5 b o (fun m => hwL (by rw [← List.mem_singleton.mp m]; exact hb)) e⟩
    have sub5 : Same (mask [w] (mask L H)) H5 := fun b o e => by
      by_cases q : b ∈ [w]
      · rw [mask_in q] at e; cases e
      · rw [mask_out q] at e
        exact c5 b o q (mask_sub _ _ _ _ e)
    refine ⟨_, rfl, fun s ds ns nds nes => ?_⟩
    have s6 : Same H5 (upd (upd H5 ds (.own s)) s (.ins CS ds [])) := fun b o e => by
      rw [upd_ne (ne_of_none e ns), upd_ne (ne_of_none e nds)]; exact e
    refine ⟨s, ds, t, tl, th, rfl, upd_same, Same.seqT (sub5.trans s6) htW, hthW.same (sub5.trans s6), hnd, by omega, hk, fun H7 bn ct l k7 nbn nct nbc e7s e7b e7c hcs => ⟨rfl, ?_⟩⟩
    have nws : w ≠ s := ne_of_none hw5 ns
    have keep7 : ∀ b o, H5 b = some o → H7 b = some o := fun b o e => k7 b o (ne_of_none e ns) (s6 b o e)
    have hw7 := keep7 _ _ hw5
    refine ⟨_, rfl, w, CW, dw, _, rfl, hw7, W.cls, W.ns, by show 1 < 1000; decide, ?_⟩
    refine ⟨_, rfl, w, CW, dw, _, rfl, upd_same, W.cls, W.nl, by show 2 < 1000; decide, ?_⟩
    have free6 : ∀ {b : Addr}, (upd (upd H5 ds (.own s)) s (.ins CS ds [])) b = none → H5 b = none := fun {b} e => by
      by_cases q1 : b = s
      · rw [q1, upd_same] at e; cases e
      · rw [upd_ne q1] at e
        by_cases q2 : b = ds
        · rw [q2, upd_same] at e; cases e
        · rw [upd_ne q2] at e; exact e
    have nbn5 := free6 nbn
    have nct5 := free6 nct
    have nwc : w ≠ ct := ne_of_none hw5 nct5
    have nwb : w ≠ bn := ne_of_none hw5 nbn5
    have nsb : s ≠ bn := fun q => by rw [q, e7b] at e7s; cases e7s
    have nsc : s ≠ ct := fun q => by rw [q, e7c] at e7s; cases e7s
    have freeH : ∀ {b : Addr}, b ≠ w → H5 b = none → H b = none := fun {b} nb e => c5.free e fun m => nb (List.mem_singleton.mp m)
    have bnL : bn ∉ s :: ct :: L := fun m => by
      rcases List.mem_cons.mp m with q | m
      · exact nsb q.symm
      · rcases List.mem_cons.mp m with q | m
        · exact nbc q
        · exact alW.not nbn5 m
    have wL : w ∉ s :: ct :: L := fun m => by
      rcases List.mem_cons.mp m with q | m
      · exact nws q
      · rcases List.mem_cons.mp m with q | m
        · exact nwc q
        · exact hwL m
    -- the last heap
    have fin : ∀ {b : Addr} {o : HO}, b ≠ w → H7 b = some o → (upd (upd H7 w (.ins CW dw (putF "_state" (.ref s) (putF "things" (.ref t) [])))) w (.ins CW dw (putF "_log" .non (putF "_state" (.ref s) (putF "things" (.ref t) []))))) b = some o := fun {b o} nb e => by
      rw [upd_ne nb, upd_ne nb]; exact e
    have hwF : (upd (upd H7 w (.ins CW dw (putF "_state" (.ref s) (putF "things" (.ref t) [])))) w (.ins CW dw (putF "_log" .non (putF "_state" (.ref s) (putF "things" (.ref t) []))))) w = some (.ins CW dw (woF t s .non)) := by rw [upd_same, woF_made]
    generalize upd (upd H7 w (.ins CW dw (putF "_state" (.ref s) (putF "things" (.ref t) [])))) w (.ins CW dw (putF "_log" .non (putF "_state" (.ref s) (putF "things" (.ref t) [])))) = H9 at *
    have sub9 : Same (mask [w] (mask L H)) (mask (s :: ct :: L) H9) := fun b o e => by
      have e5 := sub5 b o e
      have nbw : b ≠ w := fun q => by rw [q, mask_in List.mem_cons_self] at e; cases e
      have nbL : b ∉ L := fun m => by
        rw [mask_out fun m2 => nbw (List.mem_singleton.mp m2), mask_in m] at e; cases e
      rw [mask_out fun m => by
        rcases List.mem_cons.mp m with q | m
        · exact ne_of_none e5 ns q
        · rcases List.mem_cons.mp m with q | m
          · exact ne_of_none e5 nct5 q
          · exact nbL m]
      exact fin nbw (keep7 b o e5)
    refine kk H9 s ct (fun b o nb e => fin nb (keep7 b o (c5 b o (fun m => nb (List.mem_singleton.mp m)) e))) (freeH nws.symm ns) (freeH nwc.symm nct5) ⟨dw, t, by rw [mask_out wL]; exact hwF, Same.seqT sub9 htW⟩ ⟨List.mem_cons_self, List.mem_cons_of_mem _ List.mem_cons_self, ds, bn, tl, l, fin nws.symm e7s, by rw [mask_out bnL]; exact fin nwb.symm e7b, hthW.same sub9, fin nwc.symm e7c, hcs _⟩
end
/-! ### what actions see of a state -/
section
variable {K : PySem.W.Frag} {L : List Addr} {H H' : Hp} {C CS s ct : Addr} {W : Ws}
theorem StAt.keep (h : StAt K L H C CS s ct W) (c : Same (mask L H) (mask L H')) (es : ∀ o, H s = some o → H' s = some o) (ec : ∀ o, H ct = some o → H' ct = some o) : StAt K L H' C CS s ct W := by
  obtain ⟨sL, cL, ds, bn, tl, l, h1, h2, h3, h4, h5⟩ := h
  exact ⟨sL, cL, ds, bn, tl, l, es _ h1, c _ _ h2, h3.same c, ec _ h4, h5.same c⟩
theorem StAt.same (h : StAt K L H C CS s ct W) (c : Same H H') : StAt K L H' C CS s ct W := h.keep (mask_same c) (fun o e => c _ _ e) fun o e => c _ _ e
theorem StAt.pool {p q : Addr} {n : Nat} (h : StAt K L H C CS s ct W) (P : PoolAt H p q n) (k : Keeps p q H H') (hp : p ∈ L) (hq : q ∈ L) : StAt K L H' C CS s ct W := by
  obtain ⟨_, cs, b, c, e1, e2, _⟩ := P
  have h' := h
  obtain ⟨sL, cL, ds, bn, tl, l, h1, h2, h3, h4, h5⟩ := h'
  have n1 : s ≠ p := fun z => by rw [z, e1] at h1; cases h1
  have n2 : s ≠ q := fun z => by rw [z, e2] at h1; cases h1
  have n3 : ct ≠ p := fun z => by rw [z, e1] at h4; cases h4
  have n4 : ct ≠ q := fun z => by rw [z, e2] at h4; cases h4
  exact h.keep (k.maskL hp hq) (fun o e => k _ _ n1 n2 e) fun o e => k _ _ n3 n4 e
theorem StAt.ne (h : StAt K L H C CS s ct W) : s ≠ ct := by
  obtain ⟨sL, cL, ds, bn, tl, l, h1, h2, h3, h4, h5⟩ := h
  intro z
  rw [z, h4] at h1
  cases h1
/-- the contents, read -/
theorem StAt.getQ {x : Str} {d : PyData} (h : StAt K L H C CS s ct W) (e : look W.cs x = some d) : ∃ v, DGet H ct (.str x) (some v) ∧ Dq K (mask L H) v d := by
  obtain ⟨sL, cL, ds, bn, tl, l, h1, h2, h3, h4, h5⟩ := h
  obtain ⟨v, e1, hd⟩ := h5.at e
  refine ⟨v, ?_, hd⟩
  have := DGet.k (k := Sum.inr x) h4
  rw [valV_kvs, e1] at this
  exact this
theorem StAt.get {x : Str} {d : PyData} (h : StAt K L H C CS s ct W) (e : look W.cs x = some d) : ∃ v, DGet H ct (.str x) (some v) ∧ Dp K (mask L H) v d := let ⟨v, e1, e2⟩ := h.getQ e; ⟨v, e1, e2.dp⟩
/-- one content, stored -/
theorem StAt.putQ {x : Str} {v : V} {d : PyData} (h : StAt K L H C CS s ct W) (hl : W.cs.length ≤ 100) (hd : Dq K (mask L H) v d) : ∃ H4, DPut H ct (.str x) v H4 ∧ (∃ o, H4 = upd H ct o) ∧ StAt K L H4 C CS s ct { W with cs := put W.cs x d } := by
  have hne := h.ne
  obtain ⟨sL, cL, ds, bn, tl, l, h1, h2, h3, h4, h5⟩ := h
  refine ⟨_, DPut.k (k := Sum.inr x) h4 (small1000 (by rw [kvs_len, h5.len]; omega)), ⟨_, rfl⟩, sL, cL, ds, bn, tl, Qp.put l x v, ?_, ?_, ?_, ?_, ?_⟩
  · rw [upd_ne hne]; exact h1
  · exact mask_at cL _ _ h2
  · exact h3.same (mask_at cL)
  · rw [upd_same, putK_kvs]
  · exact (h5.same (mask_at cL)).put (hd |> dq_same (mask_at cL))
theorem StAt.put {x : Str} {v : V} {d : PyData} (h : StAt K L H C CS s ct W) (hl : W.cs.length ≤ 100) (hd : Dp K (mask L H) v d) (ht : isTab d = false := by rfl) : ∃ H4, DPut H ct (.str x) v H4 ∧ (∃ o, H4 = upd H ct o) ∧ StAt K L H4 C CS s ct { W with cs := put W.cs x d } := h.putQ hl (dq_of hd ht)
theorem StAt.self (h : StAt K L H C CS s ct W) : ∃ ds bn, H s = some (.ins CS ds (stF bn ct W.ft W.sd W.sr)) := by
  obtain ⟨sL, cL, ds, bn, tl, l, h1, h2, h3, h4, h5⟩ := h
  exact ⟨ds, bn, h1⟩
/-- counters stored -/
theorem StAt.count {ds bn : Addr} {f sd sr : Nat} (h : StAt K L H C CS s ct W) (e : H s = some (.ins CS ds (stF bn ct W.ft W.sd W.sr))) : StAt K L (upd H s (.ins CS ds (stF bn ct f sd sr))) C CS s ct { W with ft := f, sd := sd, sr := sr } := by
  have hne := h.ne
  obtain ⟨sL, cL, ds', bn', tl, l, h1, h2, h3, h4, h5⟩ := h
  rw [h1] at e
  injection e with e
  injection e with e1 e2 e3
  injection e3 with e4 _
  injection e4 with _ e5
  injection e5 with e5
  subst e2 e5
  exact ⟨sL, cL, ds', bn', tl, l, upd_same, mask_at sL _ _ h2, h3.same (mask_at sL), by rw [upd_ne hne.symm]; exact h4, h5.same (mask_at sL)⟩
end
/-- what an action changes -/
theorem chg_ct {s ct : Addr} {H : Hp} {o : HO} : Chg [s, ct] H (upd H ct o) := .upd (List.mem_cons_of_mem _ List.mem_cons_self)
theorem chg_s {s ct : Addr} {H : Hp} {o : HO} : Chg [s, ct] H (upd H s o) := .upd List.mem_cons_self
theorem Chg.inL {s ct : Addr} {L : List Addr} {H H' : Hp} (c : Chg [s, ct] H H') (sL : s ∈ L) (cL : ct ∈ L) : Chg L H H' := c.more fun x m => by
  rcases List.mem_cons.mp m with rfl | m
  · exact sL
  · rw [List.mem_singleton.mp m]; exact cL
/-- an action's promise: from a world's model, what it is and gives next, and what it returns -/
def spAct (K : PySem.W.Frag) (C CS : Addr) (R : Ws → List PyData → Ws → PyData → Prop) : Sp := fun vs H Q _ => ∃ (L : List Addr) (s ct : Addr) (W W' : Ws) (args : List V) (ds : List PyData) (d : PyData), vs = .ref s :: args ∧ StAt K L H C CS s ct W ∧ W.cs.length ≤ 100 ∧ Alive L H ∧ DpAll K (mask L H) args ds ∧ R W ds W' d ∧
  ∀ v H', Chg [s, ct] H H' → StAt K L H' C CS s ct W' → Dp K (mask L H') v d → Q v H'
def pair (a b : Int) : PyData := .tuple [.int a, .int b]
def rRoll : Ws → List PyData → Ws → PyData → Prop := fun W ds W' d => ∃ x a b, ds = [.str x] ∧ look W.cs x = some (pair a b) ∧ W' = { W with cs := put W.cs x (pair a (b + 1)) } ∧ d = pair a b
def rSeed : Ws → List PyData → Ws → PyData → Prop := fun W ds W' d => ∃ x, ds = [.str x] ∧ W' = { W with cs := put W.cs x (pair (W.sd + 1) 0), sd := W.sd + 1 } ∧ d = .none
theorem dp_pair {K : PySem.W.Frag} {M : Hp} {v : V} {a b : Int} (h : Dp K M v (pair a b)) : ∃ t, v = .ref t ∧ SqT K M t [.int a, .int b] := by
  obtain ⟨t, xs, rfl, ht, hx⟩ := dp_tup h
  obtain ⟨v1, r, rfl, h1, hx⟩ := dpAll_cons hx
  obtain ⟨v2, r, rfl, h2, hx⟩ := dpAll_cons hx
  obtain rfl := dpAll_nil hx
  cases h1
  cases h2
  exact ⟨t, rfl, ht⟩
/-- a new pair -/
theorem new_pair {K : PySem.W.Frag} {L : List Addr} {H : Hp} {t : Addr} {a b : Int} (al : Alive L H) (nt : H t = none) : Dp K (mask L (upd H t (.tup [.int a, .int b]))) (.ref t) (pair a b) :=
  .tup (SqT.of (mask_upd (al.not nt))) (.cons (.int a) (.cons (.int b) .nil))
theorem Alive.upd {l : List Addr} {H : Hp} {a : Addr} {o : HO} (h : Alive l H) : Alive l (L2.upd H a o) := fun x m => by
  by_cases q : x = a
  · exact ⟨o, by rw [q, upd_same]⟩
  · rw [upd_ne q]; exact h x m
theorem args1 {K : PySem.W.Frag} {M : Hp} {args : List V} {x : Str} (h : DpAll K M args [.str x]) : args = [.str x] := by
  obtain ⟨v, r, rfl, h1, h2⟩ := dpAll_cons h
  obtain rfl := dpAll_nil h2
  cases h1
  rfl
/-! ### flags, slots -/
def rLift : Ws → List PyData → Ws → PyData → Prop := fun W ds W' d => ∃ x, ds = [.str x] ∧ W' = { W with cs := put W.cs x (.bool true) } ∧ d = .none
def rRead : Ws → List PyData → Ws → PyData → Prop := fun W ds W' d => ∃ x, ds = [.str x] ∧ look W.cs x = some d ∧ W' = { W with cs := put W.cs x (.bool false) }
def rValue : Ws → List PyData → Ws → PyData → Prop := fun W ds W' d => ∃ x, ds = [.str x] ∧ look W.cs x = some d ∧ W' = W
def rKeep : Ws → List PyData → Ws → PyData → Prop := fun W ds W' d => ∃ x, ds = [.str x] ∧ W' = { W with cs := put W.cs x (.int ((W.sr + 1 : Nat) : Int)), sr := W.sr + 1 } ∧ d = .none
def rCopy : Ws → List PyData → Ws → PyData → Prop := fun W ds W' d => ∃ x y d0, ds = [.str x, .str y] ∧ look W.cs y = some d0 ∧ W' = { W with cs := put W.cs x d0 } ∧ d = .none
def isSomeD : PyData → Bool
  | .none => false
  | _ => true
def rBound : Ws → List PyData → Ws → PyData → Prop := fun W ds W' d => ∃ x d0, ds = [.str x] ∧ look W.cs x = some d0 ∧ W' = W ∧ d = .bool (isSomeD d0)
def rMark : Ws → List PyData → Ws → PyData → Prop := fun W ds W' d => ∃ x m, ds = [.str x, .str m] ∧ W' = { W with cs := put W.cs x (.str m) } ∧ d = .none
theorem args2 {K : PySem.W.Frag} {M : Hp} {args : List V} {x y : Str} (h : DpAll K M args [.str x, .str y]) : args = [.str x, .str y] := by
  obtain ⟨v, r, rfl, h1, h2⟩ := dpAll_cons h
  obtain rfl := args1 h2
  cases h1
  rfl
/-- new_serial() -/
def spSerial (K : PySem.W.Frag) (C CS : Addr) : Sp := fun vs H Q _ => ∃ (L : List Addr) (s ct : Addr) (W : Ws), vs = [.ref s] ∧ StAt K L H C CS s ct W ∧ Alive L H ∧ ∀ H', Chg [s, ct] H H' → StAt K L H' C CS s ct { W with sr := W.sr + 1 } → Alive L H' → Q (.int ((W.sr + 1 : Nat) : Int)) H'
/-! ### tables -/
def entV (es : List (Str × Int)) : List (Str × V) := es.map fun e => (e.1, V.int e.2)
def entD (e : Str × Int) : PyData := .tuple [.str e.1, .int e.2]
def TbD (es : List (Str × Int)) : PyData := .tuple (es.map entD)
def setD (es : List (Str × Int)) (k : Str) (v : Int) : List (Str × Int) := if (es.any fun p => decide (p.1 = k)) = true then es else es ++ [(k, v)]
def dropE (es : List (Str × Int)) (k : Str) : List (Str × Int) := es.filter fun e => decide (e.1 ≠ k)
def loadE : Nat → List Str → List (Str × Int)
  | _, [] => []
  | n, k :: r => (k, ((n + 1 : Nat) : Int)) :: loadE (n + 1) r
theorem loadE_snoc (k : Str) : ∀ (n : Nat) (l : List Str), loadE n (l ++ [k]) = loadE n l ++ [(k, ((n + l.length + 1 : Nat) : Int))]
  | n, [] => rfl
  | n, x :: r => by
    show (x, _) :: loadE (n + 1) (r ++ [k]) = (x, _) :: (loadE (n + 1) r ++ _)
    rw [loadE_snoc k (n + 1) r, List.length_cons]
    have : n + 1 + r.length + 1 = n + (r.length + 1) + 1 := by omega
    rw [this]
theorem loadE_len : ∀ (n : Nat) (l : List Str), (loadE n l).length = l.length
  | _, [] => rfl
  | n, x :: r => by
    show (loadE (n + 1) r).length + 1 = r.length + 1
    rw [loadE_len]
theorem look_entV (k : Str) : ∀ es : List (Str × Int), look (entV es) k = (look es k).map V.int
  | [] => rfl
  | e :: r => by
    have h : entV (e :: r) = (e.1, V.int e.2) :: entV r := rfl
    rw [h]
    by_cases q : e.1 = k
    · rw [look_pos (p := (e.1, V.int e.2)) q, look_pos q]; rfl
    · rw [look_neg (p := (e.1, V.int e.2)) q, look_neg q, look_entV k r]
theorem any_entV (k : Str) (es : List (Str × Int)) : ((entV es).any fun p => decide (p.1 = k)) = es.any fun p => decide (p.1 = k) := by
  unfold entV
  rw [List.any_map]; rfl
theorem put_entV (k : Str) (v : Int) (es : List (Str × Int)) : put (entV es) k (.int v) = entV (put es k v) := by
  unfold put
  rw [any_entV]
  split
  · unfold entV
    rw [List.map_map, List.map_map]
    refine List.map_congr_left fun e _ => ?_
    show (if e.1 = k then (e.1, V.int v) else (e.1, V.int e.2)) = _
    by_cases h : e.1 = k
    · rw [if_pos h]
      show _ = ((if e.1 = k then (e.1, v) else e).1, V.int (if e.1 = k then (e.1, v) else e).2)
      rw [if_pos h]
    · rw [if_neg h]
      show _ = ((if e.1 = k then (e.1, v) else e).1, V.int (if e.1 = k then (e.1, v) else e).2)
      rw [if_neg h]
  · unfold entV
    rw [List.map_append]; rfl
theorem look_any {α : Type} (k : Str) : ∀ l : List (Str × α), (look l k).isSome = l.any fun p => decide (p.1 = k)
  | [] => rfl
  | p :: r => by
    rw [List.any_cons]
    by_cases q : p.1 = k
    · rw [look_pos q, decide_eq_true q]; rfl
    · rw [look_neg q, decide_eq_false q, Bool.false_or]
      exact look_any k r
theorem setD_some {es : List (Str × Int)} {k : Str} {v w : Int} (h : look es k = some w) : setD es k v = es := by
  unfold setD
  rw [← look_any, h]; rfl
theorem setD_none {es : List (Str × Int)} {k : Str} {v : Int} (h : look es k = none) : setD es k v = es ++ [(k, v)] ∧ put es k v = es ++ [(k, v)] := by
  unfold setD put
  rw [← look_any, h]
  exact ⟨rfl, rfl⟩
theorem names_entV (es : List (Str × Int)) : names (entV es) = names es := by
  unfold names entV
  rw [List.map_map]; rfl
theorem mergeK_kvs : ∀ {a b : List (Str × V)}, (names (a ++ b)).Nodup → mergeK (kvs a) (kvs b) = kvs (a ++ b)
  | a, [], _ => by rw [List.append_nil]; rfl
  | a, p :: r, h => by
    have h2 : (names ((a ++ [p]) ++ r)).Nodup := by rw [List.append_assoc]; exact h
    have hn : p.1 ∉ names a := by
      unfold names at h ⊢
      rw [List.map_append, List.map_cons] at h
      have := (List.nodup_append.mp h).2.2
      exact fun m => this _ m _ List.mem_cons_self rfl
    show mergeK (putK (kvs a) (Sum.inr p.1) p.2) (kvs r) = _
    rw [putK_kvs, put_new hn, mergeK_kvs h2, List.append_assoc]; rfl
theorem dropK_kvs (k : Str) (es : List (Str × Int)) : dropK (kvs (entV es)) (Sum.inr k) = kvs (entV (dropE es k)) := by
  unfold dropK kvs entV dropE
  rw [List.map_map, List.map_map, List.filter_map]
  congr 1
  refine List.filter_congr fun e _ => ?_
  show decide ((Sum.inr e.1 : Key) ≠ Sum.inr k) = decide (e.1 ≠ k)
  exact decide_eq_decide.mpr ⟨fun h q => h (by rw [q]), fun h q => h (Sum.inr.inj q)⟩
theorem dropE_none {es : List (Str × Int)} {k : Str} (h : look es k = none) : dropE es k = es := by
  unfold dropE
  rw [List.filter_eq_self]
  intro e he
  refine decide_eq_true fun q => ?_
  have := look_any k es
  rw [h] at this
  have h2 : (es.any fun p => decide (p.1 = k)) = true := List.any_eq_true.mpr ⟨e, he, decide_eq_true q⟩
  rw [h2] at this
  cases this
theorem isTab_TbD (es : List (Str × Int)) : isTab (TbD es) = true := by
  cases es <;> rfl
/-- a table's content, opened -/
theorem tab_open {K : PySem.W.Frag} {M : Hp} {v : V} {es : List (Str × Int)} (h : Dq K M v (TbD es)) : ∃ a ps, v = .ref a ∧ SqT K M a (ps.map V.ref) ∧ PlainT K M a ∧ Paired (fun p kv => SqT K M p [kV kv.1, kv.2]) ps (kvs (entV es)) := by
  obtain ⟨a, rfl, hp⟩ := h.tab (isTab_TbD es)
  obtain ⟨a', xs, e, ht, hx⟩ := dp_tup h.dp
  cases e
  have go : ∀ {es : List (Str × Int)} {xs : List V}, DpAll K M xs (es.map entD) → ∃ ps : List Addr, xs = ps.map V.ref ∧ Paired (fun p kv => SqT K M p [kV kv.1, kv.2]) ps (kvs (entV es)) := by
    intro es
    induction es with
    | nil =>
      intro xs h
      obtain rfl := dpAll_nil h
      exact ⟨[], rfl, .nil⟩
    | cons e r ih =>
      intro xs h
      obtain ⟨v, xs, rfl, h1, h2⟩ := dpAll_cons h
      obtain ⟨ps, rfl, hps⟩ := ih h2
      obtain ⟨t, ys, rfl, ht, hy⟩ := dp_tup h1
      obtain ⟨y1, ys, rfl, g1, hy⟩ := dpAll_cons hy
      obtain ⟨y2, ys, rfl, g2, hy⟩ := dpAll_cons hy
      obtain rfl := dpAll_nil hy
      cases g1
      cases g2
      exact ⟨t :: ps, rfl, .cons ht hps⟩
  obtain ⟨ps, rfl, hps⟩ := go hx
  exact ⟨a, ps, rfl, ht, hp, hps⟩
/-- a table's content, made -/
theorem tab_dq {K : PySem.W.Frag} {L : List Addr} {H' : Hp} {p : Addr} {ts : List Addr} {es : List (Str × Int)} (np : p ∉ L) (nts : ∀ t ∈ ts, t ∉ L) (ep : H' p = some (.frz (tupO ts) (.tup (ts.map V.ref)))) (hp : Paired (fun (t : Addr) (q : Key × V) => H' t = some (.tup [kV q.1, q.2])) ts (kvs (entV es))) : Dq K (mask L H') (.ref p) (TbD es) := by
  have go : ∀ {ts : List Addr} {es : List (Str × Int)}, (∀ t ∈ ts, t ∉ L) → Paired (fun (t : Addr) (q : Key × V) => H' t = some (.tup [kV q.1, q.2])) ts (kvs (entV es)) → DpAll K (mask L H') (ts.map V.ref) (es.map entD) := by
    intro ts es
    induction es generalizing ts with
    | nil => intro _ h; cases h; exact .nil
    | cons e r ih =>
      intro hn h
      cases h with
      | cons h t =>
        rename_i t0 ts
        refine .cons (.tup (SqT.of ?_) (.cons (.str _) (.cons (.int _) .nil))) (ih (fun t ht => hn t (List.mem_cons_of_mem _ ht)) t)
        rw [mask_out (hn _ List.mem_cons_self)]
        exact h
  have em : mask L H' p = some (.frz (tupO ts) (.tup (ts.map V.ref))) := by rw [mask_out np]; exact ep
  exact ⟨.tup (.inl (.inr ⟨_, em⟩)) (go nts hp), fun _ => ⟨p, rfl, .inl ⟨_, _, em, rfl, rfl⟩⟩⟩
def TabOk (es : List (Str × Int)) : Prop := (names es).Nodup ∧ es.length ≤ 50
def rGet : Ws → List PyData → Ws → PyData → Prop := fun W ds W' d => ∃ x k es, ds = [.str x, .str k] ∧ look W.cs x = some (TbD es) ∧ TabOk es ∧ W' = { W with cs := put W.cs x (TbD (setD es k 0)) } ∧ d = .int ((look es k).getD 0)
def rPeek : Ws → List PyData → Ws → PyData → Prop := fun W ds W' d => ∃ x k es, ds = [.str x, .str k] ∧ look W.cs x = some (TbD es) ∧ TabOk es ∧ W' = W ∧ d = (match look es k with | some v => .int v | none => .none)
def rHas : Ws → List PyData → Ws → PyData → Prop := fun W ds W' d => ∃ x k es, ds = [.str x, .str k] ∧ look W.cs x = some (TbD es) ∧ TabOk es ∧ W' = W ∧ d = .bool (look es k).isSome
def rPut : Ws → List PyData → Ws → PyData → Prop := fun W ds W' d => ∃ x k es, ds = [.str x, .str k] ∧ look W.cs x = some (TbD es) ∧ TabOk es ∧ W' = { W with cs := put W.cs x (TbD (put es k ((W.sr + 1 : Nat) : Int))), sr := W.sr + 1 } ∧ d = .none
def rFill : Ws → List PyData → Ws → PyData → Prop := fun W ds W' d => ∃ x k es, ds = [.str x, .str k] ∧ look W.cs x = some (TbD es) ∧ TabOk es ∧ W' = { W with cs := put W.cs x (TbD (setD es k ((W.sr + 1 : Nat) : Int))), sr := W.sr + 1 } ∧ d = .none
def rDrop : Ws → List PyData → Ws → PyData → Prop := fun W ds W' d => ∃ x k es, ds = [.str x, .str k] ∧ look W.cs x = some (TbD es) ∧ TabOk es ∧ W' = { W with cs := put W.cs x (TbD (dropE es k)) } ∧ d = .none
def rSize : Ws → List PyData → Ws → PyData → Prop := fun W ds W' d => ∃ x es, ds = [.str x] ∧ look W.cs x = some (TbD es) ∧ TabOk es ∧ W' = W ∧ d = .int (es.length : Nat)
def rKeys : Ws → List PyData → Ws → PyData → Prop := fun W ds W' d => ∃ x es, ds = [.str x] ∧ look W.cs x = some (TbD es) ∧ TabOk es ∧ W' = W ∧ d = .tuple (es.map fun e => .str e.1)
def rLoad : Ws → List PyData → Ws → PyData → Prop := fun W ds W' d => ∃ (x : Str) (ks : List Str) (kind : Str) (parts : List Str), ds = [.str x, .tuple (ks.map .str)] ∧ look W.th x = some (kind, parts) ∧ parts.length ≤ 50 ∧ W' = { W with cs := put W.cs x (TbD (loadE W.sr (parts.filter fun k => decide (k ∈ ks)))), sr := W.sr + (parts.filter fun k => decide (k ∈ ks)).length } ∧ d = .none
def rWipe : Ws → List PyData → Ws → PyData → Prop := fun W ds W' d => ∃ x, ds = [.str x] ∧ W' = { W with cs := put W.cs x (TbD []) } ∧ d = .none
def rSpy : Ws → List PyData → Ws → PyData → Prop := fun W ds W' d => ∃ x, ds = [.str x] ∧ W' = W ∧ d = .none
theorem entV_len (es : List (Str × Int)) : (kvs (entV es)).length = es.length := by rw [kvs_len]; exact List.length_map ..
section
variable {P : Program} {w : World} {K : PySem.W.Frag} {mg : Str → Option Value} {base : Heap}
theorem scWi : FnScope ["state", "table"] ["state", "table"] (defScope sWipe) := ⟨rfl, rfl, rfl, by decide +kernel, rfl, by decide +kernel, by decide +kernel⟩
theorem ok_wipe {f C CS : Addr} {fd : FuncData} (F : Fun K "_wipe" "_wipe" sWipe f fd) (S : StIn K mg CS) : FnOk P w K mg base CX0 1 f fd ["state", "table"] (spAct K C CS rWipe) := by
  refine F.ok scWi (fun vs H Q E h => ?_) (fun cdv A outer s0 H vs Q E hr h => ?_)
  · obtain ⟨L, s, ct, W, W', args, ds, d, rfl, _, _, _, ha, ⟨x, rfl, _⟩, _⟩ := h
    rw [args1 ha]; rfl
  · obtain ⟨L, s, ct, W, W', args, ds, d, rfl, hS, hl, al, ha, ⟨x, rfl, rfl, rfl⟩, kk⟩ := h
    obtain rfl := args1 ha
    have hu := hu_of hr
    refine ⟨_, pss_one (ps_dput hu (pe_fld (pv 0) rfl) (pv 1) pe_tup0Q rfl), ?_⟩
    refine fun t nt => ?_
    have s1 := same_new (o := .frz (tupO []) (.tup [])) nt
    have hS1 := hS.same s1
    have et : (upd H t (.frz (tupO []) (.tup []))) t = some (.frz (tupO []) (.tup [])) := upd_same
    have hd : Dq K (mask L (upd H t (.frz (tupO []) (.tup [])))) (.ref t) (TbD []) := tab_dq (al.not nt) (fun _ h => (by cases h)) et .nil
    obtain ⟨ds0, bn, es⟩ := hS1.self
    obtain ⟨H2, hp, ⟨o2, rfl⟩, hS2⟩ := hS1.putQ (x := x) hl hd
    exact ⟨_, rfl, s, CS, ds0, _, _, rfl, es, S.cls, S.nc, stF_ct .., _, rfl, ct, _, rfl, hp, kk .non _ ((Chg.of_same s1).trans chg_ct) hS2 .non⟩
theorem scSp : FnScope ["state", "name"] ["state", "name"] (defScope sSpy) := ⟨rfl, rfl, rfl, by decide +kernel, rfl, by decide +kernel, by decide +kernel⟩
theorem ok_spy {f C CS : Addr} {fd : FuncData} (F : Fun K "_spy" "_spy" sSpy f fd) : FnOk P w K mg base CX0 1 f fd ["state", "name"] (spAct K C CS rSpy) := by
  refine F.ok scSp (fun vs H Q E h => ?_) (fun cdv A outer s0 H vs Q E hr h => ?_)
  · obtain ⟨L, s, ct, W, W', args, ds, d, rfl, _, _, _, ha, ⟨x, rfl, _⟩, _⟩ := h
    rw [args1 ha]; rfl
  · obtain ⟨L, s, ct, W, W', args, ds, d, rfl, hS, hl, al, ha, ⟨x, rfl, rfl, rfl⟩, kk⟩ := h
    obtain rfl := args1 ha
    refine ⟨_, pss_one ps_pass, ?_⟩
    exact kk .non H (Chg.refl _ _) hS .non
theorem scSi : FnScope ["state", "table"] ["state", "table"] (defScope sSize) := ⟨rfl, rfl, rfl, by decide +kernel, rfl, by decide +kernel, by decide +kernel⟩
theorem ok_size {f C CS : Addr} {fd : FuncData} (F : Fun K "_size" "_size" sSize f fd) (B : Bts mg) (S : StIn K mg CS) : FnOk P w K mg base CX0 1 f fd ["state", "table"] (spAct K C CS rSize) := by
  refine F.ok scSi (fun vs H Q E h => ?_) (fun cdv A outer s0 H vs Q E hr h => ?_)
  · obtain ⟨L, s, ct, W, W', args, ds, d, rfl, _, _, _, ha, ⟨x, es, rfl, _⟩, _⟩ := h
    rw [args1 ha]; rfl
  · obtain ⟨L, s, ct, W, W', args, ds, d, rfl, hS, hl, al, ha, ⟨x, es, rfl, e, ho, rfl, rfl⟩, kk⟩ := h
    obtain rfl := args1 ha
    have hu := hu_of hr
    refine ⟨_, pss_one (ps_ret (pe_callB call_len_seq (by rfl) B.len PySem.boot_len (pa_cons (pe_dget hu (pe_fld (pv 0) rfl) (pv 1) (fun _ _ => rfl)) pa_nil))), ?_⟩
    obtain ⟨ds0, bn, es0⟩ := hS.self
    obtain ⟨v, g, hd⟩ := hS.get e
    obtain ⟨t, xs, rfl, ht, hx⟩ := dp_tup hd
    have lx := dpAll_len hx
    rw [List.length_map] at lx
    refine ⟨_, rfl, s, CS, ds0, _, _, rfl, es0, S.cls, S.nc, stF_ct .., _, rfl, ct, _, rfl, g, t, _, rfl, .inr (Same.seqT (mask_sub _ _) ht), ?_⟩
    rw [lx]
    exact kk _ H (Chg.refl _ _) hS (.int _)
theorem scKy : FnScope ["state", "table", "key", "_"] ["state", "table"] (defScope sKeys) := ⟨rfl, rfl, rfl, by decide +kernel, rfl, by decide +kernel, by decide +kernel⟩
theorem ok_keys {f C CS : Addr} {fd : FuncData} (F : Fun K "_keys" "_keys" sKeys f fd) (B : Bts mg) (S : StIn K mg CS) : FnOk P w K mg base CX0 1 f fd ["state", "table"] (spAct K C CS rKeys) := by
  refine F.ok scKy (fun vs H Q E h => ?_) (fun cdv A outer s0 H vs Q E hr h => ?_)
  · obtain ⟨L, s, ct, W, W', args, ds, d, rfl, _, _, _, ha, ⟨x, es, rfl, _⟩, _⟩ := h
    rw [args1 ha]; rfl
  · obtain ⟨L, s, ct, W, W', args, ds, d, rfl, hS, hl, al, ha, ⟨x, es, rfl, e, ho, rfl, rfl⟩, kk⟩ := h
    obtain rfl := args1 ha
    have hu := hu_of hr
    refine ⟨_, pss_one (ps_ret (pe_callTy call_tupS (by rfl) B.tuple (by decide +kernel) (pa_cons (pe_lc (own := [("key", 2), ("_", 3)]) (g := gTup K 2 (gCons (gName 2) (gCons (gName 3) gNil))) (tt := tYes) rfl scKy.nd (pi_tup (pe_dget hu (pe_fld (pv 0) rfl) (pv 1) (fun _ _ => rfl))) (blkOk_by (N := ["state", "table", "key", "_"]) (sc := defScope sKeys) (by decide +kernel)) (fun _ _ _ _ _ => (pg_tup rfl (pgs_cons (pg_name (i := 2) scKy.nd rfl (.inl rfl)) (pgs_cons (pg_name (i := 3) scKy.nd rfl (.inl rfl)) pgs_nil)))) (fun _ _ _ _ _ => pts_nil) (fun _ _ _ _ _ => (pv 2))) pa_nil))), ?_⟩
    obtain ⟨ds0, bn, es0⟩ := hS.self
    obtain ⟨v, g, hd⟩ := hS.get e
    obtain ⟨t, xs, rfl, ht, hx⟩ := dp_tup hd
    have ht0 := Same.seqT (mask_sub _ _) ht
    refine ⟨_, rfl, s, CS, ds0, _, _, rfl, es0, S.cls, S.nc, stF_ct .., _, rfl, ct, _, rfl, g, t, rfl, ⟨_, ht0⟩, fun D nD => ?_⟩
    have lx := dpAll_len hx
    rw [List.length_map] at lx
    refine lc_tup (K := K) (a := t) (xs := xs) (fun i H2 => H2 D = some (.lst ((es.take i).map fun e => V.str e.1)) ∧ Same H H2) ⟨upd_same, same_new nD⟩ (fun i H2 _ hI => Same.seqT hI.2 ht0) (fun i y H2 hy hI => ?_) (fun H2 hI => ?_)
    · obtain ⟨eD, s2⟩ := hI
      obtain ⟨dd, ed, hdd⟩ := dpAll_at hx hy
      rw [List.getElem?_map] at ed
      obtain ⟨en, een, rfl⟩ := Option.map_eq_some_iff.mp ed
      obtain ⟨t1, ys, rfl, ht1, hy1⟩ := dp_tup hdd
      obtain ⟨y1, ys, rfl, g1, hy1⟩ := dpAll_cons hy1
      obtain ⟨y2, ys, rfl, g2, hy1⟩ := dpAll_cons hy1
      obtain rfl := dpAll_nil hy1
      cases g1
      cases g2
      refine ⟨t1, _, rfl, Same.seqT s2 (Same.seqT (mask_sub _ _) ht1), rfl, _, _, rfl, _, _, rfl, rfl, rfl, _, rfl, _, eD, small1000 (n := ((es.take i).map fun e => V.str e.1).length) (by have := ho.2; rw [List.length_map, List.length_take]; omega), ?_, fun b o eb => ?_⟩
      · rw [upd_same, List.take_add_one, een, List.map_append]; rfl
      · rw [upd_ne (ne_of_none eb nD)]; exact s2 b o eb
    · obtain ⟨eD, s2⟩ := hI
      rw [lx, List.take_length] at eD
      refine ⟨⟨D, _, rfl, .inl ⟨SqL.of eD, fun l nl => ?_⟩⟩⟩
      have s3 := s2.trans (same_new (o := .tup (es.map fun e => V.str e.1)) nl)
      have all : ∀ M : Hp, DpAll K M (es.map fun e => V.str e.1) (es.map fun e => PyData.str e.1) := fun M => by
        induction es with
        | nil => exact .nil
        | cons e r ih => exact .cons (.str _) (by
            have go : ∀ r : List (Str × Int), DpAll K M (r.map fun e => V.str e.1) (r.map fun e => PyData.str e.1) := fun r => by
              induction r with
              | nil => exact .nil
              | cons e r ih => exact .cons (.str _) ih
            exact go r)
      exact kk _ _ (Chg.of_same s3) (hS.same s3) (.tup (SqT.of (mask_upd ((al.same s2).not nl))) (all _))
end
/-! ### tables: entries -/
theorem paired_up {α β : Type} {R S : α → β → Prop} (h : ∀ x y, R x y → S x y) : ∀ {xs : List α} {ys : List β}, Paired R xs ys → Paired S xs ys
  | _, _, .nil => .nil
  | _, _, .cons r t => .cons (h _ _ r) (paired_up h t)
theorem merge_es {es : List (Str × Int)} (ho : TabOk es) : mergeK [] (kvs (entV es)) = kvs (entV es) := mergeK_kvs (a := []) (b := entV es) (by
  show (names (entV es)).Nodup
  rw [names_entV]; exact ho.1)
/-- what dict(state.contents[table]) reads -/
theorem rd_dict {K : PySem.W.Frag} {L : List Addr} {H : Hp} {v : V} {es : List (Str × Int)} {Q : VK} (hd : Dq K (mask L H) v (TbD es)) (ho : TabOk es) (q : ∀ D, H D = none → Q (.ref D) (upd H D (.dK (kvs (entV es))))) : rDictT K [v] H Q := by
  obtain ⟨a, ps, rfl, ht, hpl, hps⟩ := tab_open hd
  refine ⟨⟨a, ps, kvs (entV es), rfl, Same.seqT (mask_sub _ _) ht, hpl.same (mask_sub _ _), paired_up (fun p kv h => Same.seqT (mask_sub _ _) h) hps, fun D nD => ?_⟩⟩
  rw [merge_es ho]
  exact q D nD
theorem dget_es {H : Hp} {D : Addr} {es : List (Str × Int)} (e : H D = some (.dK (kvs (entV es)))) (k : Str) : DGet H D (.str k) ((look es k).map V.int) := by
  have := DGet.k (k := Sum.inr k) e
  rw [valV_kvs, look_entV] at this
  exact this
theorem put_es (es : List (Str × Int)) (k : Str) (v : Int) : putK (kvs (entV es)) (Sum.inr k) (.int v) = kvs (entV (put es k v)) := by rw [putK_kvs, put_entV]
theorem isD_of {H : Hp} {D : Addr} {es : List (Str × Int)} (e : H D = some (.dK (kvs (entV es)))) : IsD H D := .inl ⟨_, .inl e⟩
/-- what setdefault does -/
theorem setd_es {H : Hp} {D : Addr} {es : List (Str × Int)} {k : Str} {v : Int} (e : H D = some (.dK (kvs (entV es)))) : (∀ u, valV (kvs (entV es)) (Sum.inr k) = some u → u = .int ((look es k).getD v) ∧ H D = some (.dK (kvs (entV (setD es k v))))) ∧ (valV (kvs (entV es)) (Sum.inr k) = none → (look es k).getD v = v ∧ (upd H D (.dK (putK (kvs (entV es)) (Sum.inr k) (.int v)))) D = some (.dK (kvs (entV (setD es k v))))) := by
  rw [valV_kvs, look_entV]
  cases h : look es k with
  | some w =>
    refine ⟨fun u hu => ?_, fun hn => (by cases hn)⟩
    have hu : some (V.int w) = some u := hu
    injection hu with hu
    rw [setD_some h]
    exact ⟨hu.symm, e⟩
  | none =>
    refine ⟨fun u hu => (by cases hu), fun _ => ⟨rfl, ?_⟩⟩
    rw [upd_same, put_es, (setD_none h).1, (setD_none h).2]
theorem StAt.keepL {K : PySem.W.Frag} {L L' : List Addr} {H H' : Hp} {C CS s ct : Addr} {W : Ws} (h : StAt K L H C CS s ct W) (m1 : s ∈ L') (m2 : ct ∈ L') (c : Same (mask L H) (mask L' H')) (es : ∀ o, H s = some o → H' s = some o) (ec : ∀ o, H ct = some o → H' ct = some o) : StAt K L' H' C CS s ct W := by
  obtain ⟨sL, cL, ds, bn, tl, l, h1, h2, h3, h4, h5⟩ := h
  exact ⟨m1, m2, ds, bn, tl, l, es _ h1, c _ _ h2, h3.same c, ec _ h4, h5.same c⟩
theorem Alive.of_cons {D : Addr} {L : List Addr} {H : Hp} (h : Alive (D :: L) H) : Alive L H := fun a m => h a (List.mem_cons_of_mem _ m)
section
variable {P : Program} {w : World} {K : PySem.W.Frag} {mg : Str → Option Value} {base : Heap}
/-- what tuple(entries.items()) reads, stored as the content -/
theorem rd_items {C CS s ct D x : Addr} {L : List Addr} {H : Hp} {W : Ws} {es : List (Str × Int)} {Q : VK} (al : Alive L H) (eD : H D = some (.dK (kvs (entV es)))) (q : ∀ p H', Same H H' → Dq K (mask L H') (.ref p) (TbD es) → Q (.ref p) H') : rItemsT K (.ref D) H Q :=
  ⟨⟨D, _, rfl, eD, fun H' p ts k1 np nts _ ep hp => q p H' (fun b o e => k1 b o e) (tab_dq (al.not np) (fun t ht => al.not (nts t ht)) ep hp)⟩⟩
theorem scPe : FnScope ["state", "table", "key"] ["state", "table", "key"] (defScope sPeek) := ⟨rfl, rfl, rfl, by decide +kernel, rfl, by decide +kernel, by decide +kernel⟩
theorem ok_peek {f C CS : Addr} {fd : FuncData} (F : Fun K "_peek" "_peek" sPeek f fd) (mDi : mg "dict" = none) (S : StIn K mg CS) : FnOk P w K mg base CX0 1 f fd ["state", "table", "key"] (spAct K C CS rPeek) := by
  refine F.ok scPe (fun vs H Q E h => ?_) (fun cdv A outer s0 H vs Q E hr h => ?_)
  · obtain ⟨L, s, ct, W, W', args, ds, d, rfl, _, _, _, ha, ⟨x, k, es, rfl, _⟩, _⟩ := h
    rw [args2 ha]; rfl
  · obtain ⟨L, s, ct, W, W', args, ds, d, rfl, hS, hl, al, ha, ⟨x, k, es, rfl, e, ho, rfl, rfl⟩, kk⟩ := h
    obtain rfl := args2 ha
    have hu := hu_of hr
    refine ⟨_, pss_one (ps_ret (pe_dget1 hu (pe_callTy (call_dictT rfl) (by rfl) mDi (by decide +kernel) (pa_cons (pe_dget hu (pe_fld (pv 0) rfl) (pv 1) (fun _ _ => rfl)) pa_nil)) (pv 2) ⟨rfl, rfl, rfl, rfl⟩)), ?_⟩
    obtain ⟨ds0, bn, es0⟩ := hS.self
    obtain ⟨v, g, hd⟩ := hS.getQ e
    refine ⟨_, rfl, s, CS, ds0, _, _, rfl, es0, S.cls, S.nc, stF_ct .., _, rfl, ct, v, rfl, g, rd_dict hd ho fun D nD => ?_⟩
    have s1 := same_new (o := .dK (kvs (entV es))) nD
    have eD : (upd H D (.dK (kvs (entV es)))) D = some (.dK (kvs (entV es))) := upd_same
    refine ⟨D, rfl, isD_of eD, _, rfl, _, dget_es eD k, ?_⟩
    cases h : look es k with
    | none =>
      rw [h] at kk
      exact kk .non _ (Chg.of_same s1) (hS.same s1) .non
    | some w =>
      rw [h] at kk
      exact kk (.int w) _ (Chg.of_same s1) (hS.same s1) (.int w)
theorem scHa : FnScope ["state", "table", "key"] ["state", "table", "key"] (defScope sHas) := ⟨rfl, rfl, rfl, by decide +kernel, rfl, by decide +kernel, by decide +kernel⟩
theorem ok_has {f C CS : Addr} {fd : FuncData} (F : Fun K "_has" "_has" sHas f fd) (mDi : mg "dict" = none) (S : StIn K mg CS) : FnOk P w K mg base CX0 1 f fd ["state", "table", "key"] (spAct K C CS rHas) := by
  refine F.ok scHa (fun vs H Q E h => ?_) (fun cdv A outer s0 H vs Q E hr h => ?_)
  · obtain ⟨L, s, ct, W, W', args, ds, d, rfl, _, _, _, ha, ⟨x, k, es, rfl, _⟩, _⟩ := h
    rw [args2 ha]; rfl
  · obtain ⟨L, s, ct, W, W', args, ds, d, rfl, hS, hl, al, ha, ⟨x, k, es, rfl, e, ho, rfl, rfl⟩, kk⟩ := h
    obtain rfl := args2 ha
    have hu := hu_of hr
    refine ⟨_, pss_one (ps_ret (pe_cmp (pc_din hu (pv 2) (pe_callTy (call_dictT rfl) (by rfl) mDi (by decide +kernel) (pa_cons (pe_dget hu (pe_fld (pv 0) rfl) (pv 1) (fun _ _ => rfl)) pa_nil))))), ?_⟩
    obtain ⟨ds0, bn, es0⟩ := hS.self
    obtain ⟨v, g, hd⟩ := hS.getQ e
    refine ⟨_, rfl, _, rfl, s, CS, ds0, _, _, rfl, es0, S.cls, S.nc, stF_ct .., _, rfl, ct, v, rfl, g, rd_dict hd ho fun D nD => ?_⟩
    have s1 := same_new (o := .dK (kvs (entV es))) nD
    have eD : (upd H D (.dK (kvs (entV es)))) D = some (.dK (kvs (entV es))) := upd_same
    refine ⟨D, _, rfl, dget_es eD k, ?_⟩
    have eb : ((look es k).map V.int).isSome = (look es k).isSome := by cases look es k <;> rfl
    rw [eb]
    exact kk _ _ (Chg.of_same s1) (hS.same s1) (.bl _)
theorem scGe : FnScope ["state", "table", "key", "entries", "value"] ["state", "table", "key"] (defScope sGet) := ⟨rfl, rfl, rfl, by decide +kernel, rfl, by decide +kernel, by decide +kernel⟩
theorem ok_get {f C CS : Addr} {fd : FuncData} (F : Fun K "_get" "_get" sGet f fd) (B : Bts mg) (mDi : mg "dict" = none) (S : StIn K mg CS) : FnOk P w K mg base CX0 1 f fd ["state", "table", "key"] (spAct K C CS rGet) := by
  refine F.ok scGe (fun vs H Q E h => ?_) (fun cdv A outer s0 H vs Q E hr h => ?_)
  · obtain ⟨L, s, ct, W, W', args, ds, d, rfl, _, _, _, ha, ⟨x, k, es, rfl, _⟩, _⟩ := h
    rw [args2 ha]; rfl
  · obtain ⟨L, s, ct, W, W', args, ds, d, rfl, hS, hl, al, ha, ⟨x, k, es, rfl, e, ho, rfl, rfl⟩, kk⟩ := h
    obtain rfl := args2 ha
    have hu := hu_of hr
    refine ⟨_, pss_cons (ps_set (i := 3) scGe.nd rfl (.inl rfl) (pe_callTy (call_dictT rfl) (by rfl) mDi (by decide +kernel) (pa_cons (pe_dget hu (pe_fld (pv 0) rfl) (pv 1) (fun _ _ => rfl)) pa_nil)))
      (C8.pss_cut (ps_set (i := 4) scGe.nd rfl (.inl rfl) (pe_dsetd (pv 3) (pv 2) pe_int ⟨rfl, rfl, rfl, rfl⟩))
      (pss_cons (ps_dput hu (pe_fld (pv 0) rfl) (pv 1) (pe_tupItems rfl (pv 3) (by rfl) B.tuple (by decide +kernel)) rfl)
      (pss_one (ps_ret (pv 4))))), ?_⟩
    obtain ⟨ds0, bn, es0⟩ := hS.self
    obtain ⟨v, g, hd⟩ := hS.getQ e
    refine ⟨_, rfl, s, CS, ds0, _, _, rfl, es0, S.cls, S.nc, stF_ct .., _, rfl, ct, v, rfl, g, rd_dict hd ho fun D nD => ?_⟩
    have s1 := same_new (o := .dK (kvs (entV es))) nD
    have eD : (upd H D (.dK (kvs (entV es)))) D = some (.dK (kvs (entV es))) := upd_same
    generalize upd H D (.dK (kvs (entV es))) = H1 at *
    refine ⟨fun σ H2 => σ = [some (.ref s), some (.str x), some (.str k), some (.ref D), some (.int ((look es k).getD 0))] ∧ Same H H2 ∧ H2 D = some (.dK (kvs (entV (setD es k 0)))), ?_, ?_⟩
    · have hse := setd_es (k := k) (v := 0) eD
      refine ⟨_, rfl, D, rfl, isD_of eD, _, rfl, kvs (entV es), Sum.inr k, eD, rfl, small1000 (by rw [entV_len]; have := ho.2; omega), fun u hu => ?_, fun hn => ?_⟩
      · obtain ⟨rfl, h2⟩ := hse.1 u hu
        exact ⟨rfl, s1, h2⟩
      · obtain ⟨h1, h2⟩ := hse.2 hn
        refine ⟨by rw [h1]; rfl, fun b o eb => ?_, h2⟩
        rw [upd_ne (ne_of_none eb nD)]; exact s1 b o eb
    rintro σ H2 ⟨rfl, s2, eD2⟩
    refine ⟨_, rfl, rd_items (C := C) (CS := CS) (s := s) (ct := ct) (x := x.length) (W := W) (al.same s2) eD2 fun p H3 s3 hq => ?_⟩
    have s03 := s2.trans s3
    have hS3 := hS.same s03
    obtain ⟨ds3, bn3, es3⟩ := hS3.self
    obtain ⟨H4, hp, ⟨o4, rfl⟩, hS4⟩ := hS3.putQ (x := x) hl hq
    exact ⟨_, rfl, s, CS, ds3, _, _, rfl, es3, S.cls, S.nc, stF_ct .., _, rfl, ct, _, rfl, hp, _, rfl, kk _ _ ((Chg.of_same s03).trans chg_ct) hS4 (.int _)⟩
theorem scDr : FnScope ["state", "table", "key", "entries"] ["state", "table", "key"] (defScope sDrop) := ⟨rfl, rfl, rfl, by decide +kernel, rfl, by decide +kernel, by decide +kernel⟩
theorem ok_drop {f C CS : Addr} {fd : FuncData} (F : Fun K "_drop" "_drop" sDrop f fd) (B : Bts mg) (mDi : mg "dict" = none) (S : StIn K mg CS) : FnOk P w K mg base CX0 1 f fd ["state", "table", "key"] (spAct K C CS rDrop) := by
  refine F.ok scDr (fun vs H Q E h => ?_) (fun cdv A outer s0 H vs Q E hr h => ?_)
  · obtain ⟨L, s, ct, W, W', args, ds, d, rfl, _, _, _, ha, ⟨x, k, es, rfl, _⟩, _⟩ := h
    rw [args2 ha]; rfl
  · obtain ⟨L, s, ct, W, W', args, ds, d, rfl, hS, hl, al, ha, ⟨x, k, es, rfl, e, ho, rfl, rfl⟩, kk⟩ := h
    obtain rfl := args2 ha
    have hu := hu_of hr
    refine ⟨_, pss_cons (ps_set (i := 3) scDr.nd rfl (.inl rfl) (pe_callTy (call_dictT rfl) (by rfl) mDi (by decide +kernel) (pa_cons (pe_dget hu (pe_fld (pv 0) rfl) (pv 1) (fun _ _ => rfl)) pa_nil)))
      (C8.pss_cut (ps_expr (pe_dpop2 (pv 3) (pv 2) pe_non ⟨rfl, rfl, rfl, rfl⟩))
      (pss_one (ps_dput hu (pe_fld (pv 0) rfl) (pv 1) (pe_tupItems rfl (pv 3) (by rfl) B.tuple (by decide +kernel)) rfl))), ?_⟩
    obtain ⟨ds0, bn, es0⟩ := hS.self
    obtain ⟨v, g, hd⟩ := hS.getQ e
    refine ⟨_, rfl, s, CS, ds0, _, _, rfl, es0, S.cls, S.nc, stF_ct .., _, rfl, ct, v, rfl, g, rd_dict hd ho fun D nD => ?_⟩
    have s1 := same_new (o := .dK (kvs (entV es))) nD
    have eD : (upd H D (.dK (kvs (entV es)))) D = some (.dK (kvs (entV es))) := upd_same
    generalize upd H D (.dK (kvs (entV es))) = H1 at *
    refine ⟨fun σ H2 => σ = [some (.ref s), some (.str x), some (.str k), some (.ref D)] ∧ Same H H2 ∧ H2 D = some (.dK (kvs (entV (dropE es k)))), ?_, ?_⟩
    · refine ⟨_, rfl, D, rfl, isD_of eD, _, rfl, kvs (entV es), Sum.inr k, eD, rfl, fun u hu => ?_, fun hn => ?_⟩
      · refine ⟨rfl, fun b o eb => ?_, by rw [upd_same, dropK_kvs]⟩
        rw [upd_ne (ne_of_none eb nD)]; exact s1 b o eb
      · rw [valV_kvs, look_entV] at hn
        have hn' : look es k = none := by cases h : look es k with
          | none => rfl
          | some w => rw [h] at hn; cases hn
        rw [dropE_none hn']
        exact ⟨rfl, s1, eD⟩
    rintro σ H2 ⟨rfl, s2, eD2⟩
    refine ⟨_, rfl, rd_items (C := C) (CS := CS) (s := s) (ct := ct) (x := x.length) (W := W) (al.same s2) eD2 fun p H3 s3 hq => ?_⟩
    have s03 := s2.trans s3
    have hS3 := hS.same s03
    obtain ⟨ds3, bn3, es3⟩ := hS3.self
    obtain ⟨H4, hp, ⟨o4, rfl⟩, hS4⟩ := hS3.putQ (x := x) hl hq
    exact ⟨_, rfl, s, CS, ds3, _, _, rfl, es3, S.cls, S.nc, stF_ct .., _, rfl, ct, _, rfl, hp, kk .non _ ((Chg.of_same s03).trans chg_ct) hS4 .non⟩
theorem scPu : FnScope ["state", "table", "key", "entries"] ["state", "table", "key"] (defScope sPut) := ⟨rfl, rfl, rfl, by decide +kernel, rfl, by decide +kernel, by decide +kernel⟩
theorem ok_put {f fN C CS : Addr} {fd fdN : FuncData} (F : Fun K "_put" "_put" sPut f fd) (B : Bts mg) (mDi : mg "dict" = none) (S : StIn K mg CS) (MN : Meth K CS "new_serial" fN) (GN : FnOk P w K mg base CX0 1 fN fdN ["self"] (spSerial K C CS)) (bN : Binds K fdN ["self"] []) : FnOk P w K mg base CX0 2 f fd ["state", "table", "key"] (spAct K C CS rPut) := by
  refine F.ok scPu (fun vs H Q E h => ?_) (fun cdv A outer s0 H vs Q E hr h => ?_)
  · obtain ⟨L, s, ct, W, W', args, ds, d, rfl, _, _, _, ha, ⟨x, k, es, rfl, _⟩, _⟩ := h
    rw [args2 ha]; rfl
  · obtain ⟨L, s, ct, W, W', args, ds, d, rfl, hS, hl, al, ha, ⟨x, k, es, rfl, e, ho, rfl, rfl⟩, kk⟩ := h
    obtain rfl := args2 ha
    have hu := hu_of hr
    have hrN : Room 1 _ := hr
    refine ⟨_, pss_cons (ps_set (i := 3) scPu.nd rfl (.inl rfl) (pe_callTy (call_dictT rfl) (by rfl) mDi (by decide +kernel) (pa_cons (pe_dget hu (pe_fld (pv 0) rfl) (pv 1) (fun _ _ => rfl)) pa_nil)))
      (pss_cons (ps_dput hu (pv 3) (pv 2) (pe_meth0 (pv 0) S.cls MN GN hrN bN .nil pass0) rfl)
      (pss_one (ps_dput hu (pe_fld (pv 0) rfl) (pv 1) (pe_tupItems rfl (pv 3) (by rfl) B.tuple (by decide +kernel)) rfl))), ?_⟩
    obtain ⟨ds0, bn, es0⟩ := hS.self
    obtain ⟨v, g, hd⟩ := hS.getQ e
    refine ⟨_, rfl, s, CS, ds0, _, _, rfl, es0, S.cls, S.nc, stF_ct .., _, rfl, ct, v, rfl, g, rd_dict hd ho fun D nD => ?_⟩
    have nDL : D ∉ L := al.not nD
    have s1 := same_new (o := .dK (kvs (entV es))) nD
    have eD : (upd H D (.dK (kvs (entV es)))) D = some (.dK (kvs (entV es))) := upd_same
    have hS1 : StAt K (D :: L) (upd H D (.dK (kvs (entV es)))) C CS s ct W := hS.keepL (List.mem_cons_of_mem _ hS.sL) (List.mem_cons_of_mem _ hS.cL) ((mask_new nD).trans (mask_at List.mem_cons_self)) (fun o e => s1 _ _ e) (fun o e => s1 _ _ e)
    have al1 : Alive (D :: L) (upd H D (.dK (kvs (entV es)))) := fun z hz => by
      rcases List.mem_cons.mp hz with rfl | hz
      · exact ⟨_, upd_same⟩
      · exact al.same s1 z hz
    generalize upd H D (.dK (kvs (entV es))) = H1 at *
    obtain ⟨ds1, bn1, es1⟩ := hS1.self
    refine ⟨_, rfl, s, ds1, _, rfl, es1, rfl, D :: L, s, ct, W, rfl, hS1, al1, fun H2 c2 hS2 al2 => ?_⟩
    have nsD : s ≠ D := fun q => nDL (by rw [← q]; exact hS.sL)
    have ncD : ct ≠ D := fun q => nDL (by rw [← q]; exact hS.cL)
    have nDs : D ∉ [s, ct] := fun m => by
      rcases List.mem_cons.mp m with q | q
      · exact nsD q.symm
      · exact ncD (List.mem_singleton.mp q).symm
    have eD2 := c2 _ _ nDs eD
    refine ⟨_, rfl, _, rfl, D, _, rfl, DPut.k (k := Sum.inr k) eD2 (small1000 (by rw [entV_len]; have := ho.2; omega)), ?_⟩
    rw [put_es]
    have eD3 : (upd H2 D (.dK (kvs (entV (put es k ((W.sr + 1 : Nat) : Int)))))) D = some (.dK (kvs (entV (put es k ((W.sr + 1 : Nat) : Int))))) := upd_same
    have c3 : Chg [s, ct] H (upd H2 D (.dK (kvs (entV (put es k ((W.sr + 1 : Nat) : Int)))))) := fun b o hb eb => by
      rw [upd_ne (ne_of_none eb nD)]; exact c2 b o hb (s1 b o eb)
    have hS3 : StAt K L (upd H2 D (.dK (kvs (entV (put es k ((W.sr + 1 : Nat) : Int)))))) C CS s ct { W with sr := W.sr + 1 } := hS2.keepL hS.sL hS.cL ((mask_at List.mem_cons_self).trans mask_less) (fun o e => by rw [upd_ne nsD]; exact e) (fun o e => by rw [upd_ne ncD]; exact e)
    have al3 : Alive L (upd H2 D (.dK (kvs (entV (put es k ((W.sr + 1 : Nat) : Int)))))) := al2.upd.of_cons
    generalize upd H2 D (.dK (kvs (entV (put es k ((W.sr + 1 : Nat) : Int))))) = H3 at *
    refine ⟨_, rfl, rd_items (C := C) (CS := CS) (s := s) (ct := ct) (x := x.length) (W := W) al3 eD3 fun p H4 s4 hq => ?_⟩
    have hS4 := hS3.same s4
    obtain ⟨ds4, bn4, es4⟩ := hS4.self
    obtain ⟨H5, hp, ⟨o5, rfl⟩, hS5⟩ := hS4.putQ (x := x) hl hq
    exact ⟨_, rfl, s, CS, ds4, _, _, rfl, es4, S.cls, S.nc, stF_ct .., _, rfl, ct, _, rfl, hp, kk .non _ ((c3.trans (Chg.of_same s4)).trans chg_ct) hS5 .non⟩
theorem scFi : FnScope ["state", "table", "key", "serial", "entries"] ["state", "table", "key"] (defScope sFill) := ⟨rfl, rfl, rfl, by decide +kernel, rfl, by decide +kernel, by decide +kernel⟩
theorem ok_fill {f fN C CS : Addr} {fd fdN : FuncData} (F : Fun K "_fill" "_fill" sFill f fd) (B : Bts mg) (mDi : mg "dict" = none) (S : StIn K mg CS) (MN : Meth K CS "new_serial" fN) (GN : FnOk P w K mg base CX0 1 fN fdN ["self"] (spSerial K C CS)) (bN : Binds K fdN ["self"] []) : FnOk P w K mg base CX0 2 f fd ["state", "table", "key"] (spAct K C CS rFill) := by
  refine F.ok scFi (fun vs H Q E h => ?_) (fun cdv A outer s0 H vs Q E hr h => ?_)
  · obtain ⟨L, s, ct, W, W', args, ds, d, rfl, _, _, _, ha, ⟨x, k, es, rfl, _⟩, _⟩ := h
    rw [args2 ha]; rfl
  · obtain ⟨L, s, ct, W, W', args, ds, d, rfl, hS, hl, al, ha, ⟨x, k, es, rfl, e, ho, rfl, rfl⟩, kk⟩ := h
    obtain rfl := args2 ha
    have hu := hu_of hr
    have hrN : Room 1 _ := hr
    refine ⟨_, pss_cons (ps_set (i := 3) scFi.nd rfl (.inl rfl) (pe_meth0 (pv 0) S.cls MN GN hrN bN .nil pass0))
      (pss_cons (ps_set (i := 4) scFi.nd rfl (.inl rfl) (pe_callTy (call_dictT rfl) (by rfl) mDi (by decide +kernel) (pa_cons (pe_dget hu (pe_fld (pv 0) rfl) (pv 1) (fun _ _ => rfl)) pa_nil)))
      (C8.pss_cut (ps_expr (pe_dsetd (pv 4) (pv 2) (pv 3) ⟨rfl, rfl, rfl, rfl⟩))
      (pss_one (ps_dput hu (pe_fld (pv 0) rfl) (pv 1) (pe_tupItems rfl (pv 4) (by rfl) B.tuple (by decide +kernel)) rfl)))), ?_⟩
    obtain ⟨ds0, bn, es0⟩ := hS.self
    refine ⟨_, rfl, s, ds0, _, rfl, es0, rfl, L, s, ct, W, rfl, hS, al, fun H0 c0 hS0 al0 => ?_⟩
    obtain ⟨ds1, bn1, es1⟩ := hS0.self
    obtain ⟨v, g, hd⟩ := hS0.getQ (x := x) e
    refine ⟨_, rfl, s, CS, ds1, _, _, rfl, es1, S.cls, S.nc, stF_ct .., _, rfl, ct, v, rfl, g, rd_dict hd ho fun D nD => ?_⟩
    have s1 := same_new (o := .dK (kvs (entV es))) nD
    have eD : (upd H0 D (.dK (kvs (entV es)))) D = some (.dK (kvs (entV es))) := upd_same
    generalize upd H0 D (.dK (kvs (entV es))) = H1 at *
    refine ⟨fun σ H2 => σ = [some (.ref s), some (.str x), some (.str k), some (.int ((W.sr + 1 : Nat) : Int)), some (.ref D)] ∧ Same H0 H2 ∧ H2 D = some (.dK (kvs (entV (setD es k ((W.sr + 1 : Nat) : Int))))), ?_, ?_⟩
    · have hse := setd_es (k := k) (v := ((W.sr + 1 : Nat) : Int)) eD
      refine ⟨_, rfl, D, rfl, isD_of eD, _, rfl, _, rfl, kvs (entV es), Sum.inr k, eD, rfl, small1000 (by rw [entV_len]; have := ho.2; omega), fun u hu => ?_, fun hn => ?_⟩
      · exact ⟨rfl, s1, (hse.1 u hu).2⟩
      · obtain ⟨h1, h2⟩ := hse.2 hn
        refine ⟨rfl, fun b o eb => ?_, h2⟩
        rw [upd_ne (ne_of_none eb nD)]; exact s1 b o eb
    rintro σ H2 ⟨rfl, s2, eD2⟩
    refine ⟨_, rfl, rd_items (C := C) (CS := CS) (s := s) (ct := ct) (x := x.length) (W := W) (al0.same s2) eD2 fun p H3 s3 hq => ?_⟩
    have s03 := s2.trans s3
    have hS3 := hS0.same s03
    obtain ⟨ds3, bn3, es3⟩ := hS3.self
    obtain ⟨H4, hp, ⟨o4, rfl⟩, hS4⟩ := hS3.putQ (x := x) hl hq
    exact ⟨_, rfl, s, CS, ds3, _, _, rfl, es3, S.cls, S.nc, stF_ct .., _, rfl, ct, _, rfl, hp, kk .non _ ((c0.trans (Chg.of_same s03)).trans chg_ct) hS4 .non⟩
end
theorem inV_strT {x : Str} {xs : List Str} : inV (.str x) (xs.map V.str) = decide (x ∈ xs) := by
  unfold inV
  by_cases h : x ∈ xs
  · rw [decide_eq_true h, List.any_eq_true]
    exact ⟨.str x, List.mem_map.mpr ⟨x, h, rfl⟩, by show (x == x) = true; simp⟩
  · rw [decide_eq_false h, List.any_eq_false]
    intro v hv
    obtain ⟨y, hy, rfl⟩ := List.mem_map.mp hv
    intro q
    have q' : y = x := beq_iff_eq.mp q
    exact h (q' ▸ hy)
theorem flat_strsT (xs : List Str) : (xs.map V.str).all flatV = true := by
  rw [List.all_eq_true]
  intro v hv
  obtain ⟨y, _, rfl⟩ := List.mem_map.mp hv
  rfl
theorem StAt.thing {K : PySem.W.Frag} {L : List Addr} {H : Hp} {C CS s ct : Addr} {W : Ws} {x k : Str} {parts : List Str} (h : StAt K L H C CS s ct W) (e : look W.th x = some (k, parts)) : ∃ ds bn a, H s = some (.ins CS ds (stF bn ct W.ft W.sd W.sr)) ∧ DGet H bn (.str x) (some (.ref a)) ∧ ThingAt K (mask L H) C a k x parts := by
  obtain ⟨sL, cL, ds, bn, tl, l, h1, h2, h3, h4, h5⟩ := h
  obtain ⟨a, e1, e2⟩ := h3.at e
  refine ⟨ds, bn, a, h1, ?_, e2⟩
  have := DGet.k (k := Sum.inr x) (mask_sub _ _ _ _ h2)
  rw [valV_kvs, e1] at this
  exact this
theorem filter_snoc {ks : List Str} {parts : List Str} {i : Nat} {k : Str} (h : parts[i]? = some k) : (parts.take (i + 1)).filter (fun k => decide (k ∈ ks)) = (parts.take i).filter (fun k => decide (k ∈ ks)) ++ (if decide (k ∈ ks) = true then [k] else []) := by
  rw [List.take_succ, h, List.filter_append]
  congr 1
  show List.filter _ [k] = _
  rw [List.filter_cons, List.filter_nil]
/-- entries that load makes, at their addresses -/
theorem tab_dq2 {K : PySem.W.Frag} {L : List Addr} {H' : Hp} {p : Addr} {ts : List Addr} {es : List (Str × Int)} (np : p ∉ L) (nts : ∀ t ∈ ts, t ∉ L) (ep : H' p = some (.frz (tupO ts) (.tup (ts.map V.ref)))) (hp : Paired (fun (t : Addr) (q : Str × Int) => H' t = some (.tup [.str q.1, .int q.2])) ts es) : Dq K (mask L H') (.ref p) (TbD es) := by
  refine tab_dq np nts ep ?_
  have go : ∀ {ts : List Addr} {es : List (Str × Int)}, Paired (fun (t : Addr) (q : Str × Int) => H' t = some (.tup [.str q.1, .int q.2])) ts es → Paired (fun (t : Addr) (q : Key × V) => H' t = some (.tup [kV q.1, q.2])) ts (kvs (entV es)) := by
    intro ts es h
    induction h with
    | nil => exact .nil
    | cons h _ ih => exact .cons h ih
  exact go hp
section
variable {P : Program} {w : World} {K : PySem.W.Frag} {mg : Str → Option Value} {base : Heap}
theorem scLo : FnScope ["state", "table", "keys", "entries", "key"] ["state", "table", "keys"] (defScope sLoad) := ⟨rfl, rfl, rfl, by decide +kernel, rfl, by decide +kernel, by decide +kernel⟩
theorem ok_load {f fN C CS : Addr} {fd fdN : FuncData} (F : Fun K "_load" "_load" sLoad f fd) (B : Bts mg) (T : ThIn K mg C) (S : StIn K mg CS) (MN : Meth K CS "new_serial" fN) (GN : FnOk P w K mg base CX0 1 fN fdN ["self"] (spSerial K C CS)) (bN : Binds K fdN ["self"] []) : FnOk P w K mg base CX0 2 f fd ["state", "table", "keys"] (spAct K C CS rLoad) := by
  refine F.ok scLo (fun vs H Q E h => ?_) (fun cdv A outer s0 H vs Q E hr h => ?_)
  · obtain ⟨L, s, ct, W, W', args, ds, d, rfl, _, _, _, ha, ⟨x, ks, kind, parts, rfl, _⟩, _⟩ := h
    obtain ⟨v1, r, rfl, _, ha⟩ := dpAll_cons ha
    obtain ⟨v2, r, rfl, _, ha⟩ := dpAll_cons ha
    obtain rfl := dpAll_nil ha
    rfl
  · obtain ⟨L, s, ct, W, W', args, ds, d, rfl, hS, hl, al, ha, ⟨x, ks, kind, parts, rfl, e, hp50, rfl, rfl⟩, kk⟩ := h
    obtain ⟨v1, r, rfl, g1, ha⟩ := dpAll_cons ha
    obtain ⟨v2, r, rfl, g2, ha⟩ := dpAll_cons ha
    obtain rfl := dpAll_nil ha
    cases g1
    obtain ⟨tk, xs, rfl, htk, hxs⟩ := dp_tup g2
    have hu := hu_of hr
    have hrN : Room 1 _ := hr
    refine ⟨_, pss_cons (ps_set (i := 3) scLo.nd rfl (.inl rfl) (pe_lst pa_nil))
      (pss_cons (ps_for PassesOwn.never rfl (pi_tup (pe_fld (pe_dget hu (pe_fld (pv 0) rfl) (pv 1) (fun _ _ => rfl)) rfl)) (pg_name (i := 4) scLo.nd rfl (.inl rfl))
        (pss_one (ps_if (pt_cmpR op_in_seq (pv 4) (pv 2) (by rfl))
            (pss_one (ps_expr (pe_bm PySem.F.plainAttrs_list PySem.F.slot_list_append PySem.F.type_list_append mt_append (pv 3) (pa_cons (pe_tup (pa_cons (pv 4) (pa_cons (pe_meth0 (pv 0) S.cls MN GN hrN bN .nil pass0) pa_nil))) pa_nil))))
            pss_nil)))
      (pss_one (ps_dput hu (pe_fld (pv 0) rfl) (pv 1) (pe_callTy call_tupQ (by rfl) B.tuple (by decide +kernel) (pa_cons (pv 3) pa_nil)) rfl))), ?_⟩
    have hxs : xs = ks.map V.str := by
      have go : ∀ {xs : List V} {ks : List Str}, DpAll K (mask L H) xs (ks.map .str) → xs = ks.map V.str := by
        intro xs ks h
        induction ks generalizing xs with
        | nil => exact dpAll_nil h
        | cons k r ih =>
          obtain ⟨v, xs, rfl, h1, h2⟩ := dpAll_cons h
          cases h1
          rw [ih h2]; rfl
      exact go hxs
    subst hxs
    refine ⟨by show 0 ≤ sizeLine; decide, fun D nD => ?_⟩
    have nDL : D ∉ L := al.not nD
    have s1 := same_new (o := .lst []) nD
    have hS1 : StAt K (D :: L) (upd H D (.lst [])) C CS s ct W := hS.keepL (List.mem_cons_of_mem _ hS.sL) (List.mem_cons_of_mem _ hS.cL) ((mask_new nD).trans (mask_at List.mem_cons_self)) (fun o e => s1 _ _ e) (fun o e => s1 _ _ e)
    have al1 : Alive (D :: L) (upd H D (.lst [])) := fun z hz => by
      rcases List.mem_cons.mp hz with rfl | hz
      · exact ⟨_, upd_same⟩
      · exact al.same s1 z hz
    have eD : (upd H D (.lst [])) D = some (.lst []) := upd_same
    have sm : Same (mask L H) (mask (D :: L) (upd H D (.lst []))) := (mask_new nD).trans (mask_at List.mem_cons_self)
    have c1 : Chg [s, ct] H (upd H D (.lst [])) := Chg.of_same s1
    generalize upd H D (.lst []) = H1 at *
    have nsD : s ≠ D := fun q => nDL (by rw [← q]; exact hS.sL)
    have ncD : ct ≠ D := fun q => nDL (by rw [← q]; exact hS.cL)
    have lks : ∀ {H' : Hp}, Same (mask L H) (mask (D :: L) H') → SqT K H' tk (ks.map V.str) := fun q => Same.seqT (mask_sub _ _) (Same.seqT q htk)
    obtain ⟨ds1, bn1, a1, es1, g1, th1⟩ := hS1.thing e
    obtain ⟨dx1, fs1, tp, b1, b2, b3, b4, b5⟩ := th1
    obtain ⟨_, _, a0, _, _, th0⟩ := hS.thing e
    refine ⟨_, rfl, s, CS, ds1, _, _, rfl, es1, S.cls, S.nb, stF_bn .., _, rfl, bn1, .ref a1, rfl, g1, a1, C, dx1, fs1, _, rfl, mask_sub _ _ _ _ b1, T.cls, T.np, b4, tp, rfl, ⟨_, Same.seqT (mask_sub _ _) b5⟩, ?_⟩
    refine for_tup (K := K) (a := tp) (xs := parts.map V.str) (fun i σ H' => ∃ (ps : List Addr) (y : Option V), σ = [some (.ref s), some (.str x), some (.ref tk), some (.ref D), y] ∧ H' D = some (.lst (ps.map V.ref)) ∧ StAt K (D :: L) H' C CS s ct { W with sr := W.sr + ((parts.take i).filter fun k => decide (k ∈ ks)).length } ∧ Alive (D :: L) H' ∧
        Paired (fun (p : Addr) (e : Str × Int) => H' p = some (.tup [.str e.1, .int e.2])) ps (loadE W.sr ((parts.take i).filter fun k => decide (k ∈ ks))) ∧ (∀ p ∈ ps, p ∉ D :: L) ∧ Same (mask (D :: L) H1) (mask (D :: L) H') ∧ Chg [s, ct] H H')
      ⟨[], none, rfl, eD, hS1, al1, .nil, fun _ h => (by cases h), .refl _, c1⟩ (fun i σ H' _ ⟨_, _, _, _, _, _, _, _, h, _⟩ => Same.seqT (mask_sub _ _) (Same.seqT h b5)) (fun i y σ H' hy hI => ?_) (fun σ H' hI => ?_)
    · obtain ⟨ps, y4, rfl, eD', hS', al', hps, hpn, sM, cH⟩ := hI
      rw [List.getElem?_map] at hy
      obtain ⟨k, ek, rfl⟩ := Option.map_eq_some_iff.mp hy
      have hsn := filter_snoc (ks := ks) ek
      have hlen : ps.length ≤ 50 := by
        have h1 : ps.length = (loadE W.sr ((parts.take i).filter fun k => decide (k ∈ ks))).length := Paired.length hps
        rw [loadE_len] at h1
        have h2 := List.length_filter_le (fun k => decide (k ∈ ks)) (parts.take i)
        rw [List.length_take] at h2
        omega
      refine ⟨_, rfl, _, rfl, tk, _, rfl, .inr (lks (sm.trans sM)), rfl, flat_strsT _, _, rfl, ?_⟩
      rw [inV_strT]
      by_cases hk : k ∈ ks
      case neg =>
        rw [decide_eq_false hk]
        rw [decide_eq_false hk, if_neg (by decide), List.append_nil] at hsn
        refine iteF ⟨ps, _, rfl, eD', ?_, al', ?_, hpn, sM, cH⟩
        · rw [hsn]; exact hS'
        · rw [hsn]; exact hps
      rw [decide_eq_true hk]
      rw [decide_eq_true hk, if_pos rfl] at hsn
      obtain ⟨ds2, bn2, es2⟩ := hS'.self
      refine iteT ⟨_, rfl, .inl ⟨rfl, _, SqL.of eD'⟩, _, rfl, _, rfl, s, ds2, _, rfl, es2, rfl, D :: L, s, ct, _, rfl, hS', al', fun H2 c2 hS2 al2 => ⟨by show 2 ≤ sizeLine; decide, fun t nt => ?_⟩⟩
      have nDs : D ∉ [s, ct] := fun m => by
        rcases List.mem_cons.mp m with q | q
        · exact nsD q.symm
        · exact ncD (List.mem_singleton.mp q).symm
      have eD2 := c2 _ _ nDs eD'
      have st := same_new (o := .tup [.str k, .int ((W.sr + ((parts.take i).filter fun k => decide (k ∈ ks)).length + 1 : Nat) : Int)]) nt
      have eD3 := st _ _ eD2
      have tD : t ≠ D := (ne_of_none eD2 nt).symm
      refine ⟨D, _, .ref t, rfl, rfl, eD3, small1000 (by rw [List.length_map]; omega), ?_⟩
      have hS3 : StAt K (D :: L) (upd H2 t (.tup [.str k, .int ((W.sr + ((parts.take i).filter fun k => decide (k ∈ ks)).length + 1 : Nat) : Int)])) C CS s ct { W with sr := W.sr + ((parts.take i).filter fun k => decide (k ∈ ks)).length + 1 } := hS2.same st
      have al3 := al2.same st
      have et : (upd H2 t (.tup [.str k, .int ((W.sr + ((parts.take i).filter fun k => decide (k ∈ ks)).length + 1 : Nat) : Int)])) t = some (.tup [.str k, .int ((W.sr + ((parts.take i).filter fun k => decide (k ∈ ks)).length + 1 : Nat) : Int)]) := upd_same
      have ntL : t ∉ D :: L := al2.not nt
      have c3 : Chg [s, ct] H' (upd H2 t (.tup [.str k, .int ((W.sr + ((parts.take i).filter fun k => decide (k ∈ ks)).length + 1 : Nat) : Int)])) := c2.trans (Chg.of_same st)
      have sM3 : Same (mask (D :: L) H') (mask (D :: L) (upd H2 t (.tup [.str k, .int ((W.sr + ((parts.take i).filter fun k => decide (k ∈ ks)).length + 1 : Nat) : Int)]))) := (c2.inL hS'.sL hS'.cL).mask.trans (mask_same st)
      have hp3 : ∀ p ∈ ps, p ∉ [s, ct] := fun p hp m => hpn p hp (by
        rcases List.mem_cons.mp m with q | q
        · rw [q]; exact hS'.sL
        · rw [List.mem_singleton.mp q]; exact hS'.cL)
      generalize upd H2 t (.tup [.str k, .int ((W.sr + ((parts.take i).filter fun k => decide (k ∈ ks)).length + 1 : Nat) : Int)]) = H3 at *
      have ne : ∀ p ∈ ps ++ [t], p ≠ D := fun p hp => by
        rcases List.mem_append.mp hp with hp | hp
        · exact fun q => hpn p hp (by rw [q]; exact List.mem_cons_self)
        · rw [List.mem_singleton.mp hp]; exact tD
      refine ⟨ps ++ [t], _, rfl, by rw [upd_same, List.map_append]; rfl, ?_, fun z hz => ?_, ?_, fun p hp => ?_, (sM.trans sM3).trans (mask_at List.mem_cons_self), ?_⟩
      · rw [hsn, List.length_append]
        exact hS3.keepL hS'.sL hS'.cL (mask_at List.mem_cons_self) (fun o e => by rw [upd_ne nsD]; exact e) (fun o e => by rw [upd_ne ncD]; exact e)
      · by_cases q : z = D
        · rw [q]; exact ⟨_, upd_same⟩
        · obtain ⟨o, eo⟩ := al3 z hz
          exact ⟨o, by rw [upd_ne q]; exact eo⟩
      · rw [hsn, loadE_snoc]
        have old : Paired (fun (p : Addr) (e : Str × Int) => (upd H3 D (.lst (ps.map V.ref ++ [.ref t]))) p = some (.tup [.str e.1, .int e.2])) ps (loadE W.sr ((parts.take i).filter fun k => decide (k ∈ ks))) := by
          have go : ∀ {ps : List Addr} {es : List (Str × Int)}, (∀ p ∈ ps, p ∉ [s, ct] ∧ p ≠ D) → Paired (fun (p : Addr) (e : Str × Int) => H' p = some (.tup [.str e.1, .int e.2])) ps es → Paired (fun (p : Addr) (e : Str × Int) => (upd H3 D (.lst (ps.map V.ref ++ [.ref t]))) p = some (.tup [.str e.1, .int e.2])) ps es → True := fun _ _ _ => trivial
          clear go
          have go : ∀ (o : HO) {qs : List Addr} {es : List (Str × Int)}, (∀ p ∈ qs, p ∉ [s, ct] ∧ p ≠ D) → Paired (fun (p : Addr) (e : Str × Int) => H' p = some (.tup [.str e.1, .int e.2])) qs es → Paired (fun (p : Addr) (e : Str × Int) => (upd H3 D o) p = some (.tup [.str e.1, .int e.2])) qs es := by
            intro o qs es h0 h
            induction h with
            | nil => exact .nil
            | cons h _ ih =>
              obtain ⟨h1, h2⟩ := h0 _ List.mem_cons_self
              exact .cons (by rw [upd_ne h2]; exact c3 _ _ h1 h) (ih fun p hp => h0 p (List.mem_cons_of_mem _ hp))
          exact go _ (fun p hp => ⟨hp3 p hp, ne p (List.mem_append.mpr (.inl hp))⟩) hps
        have app : ∀ {R : Addr → Str × Int → Prop} {qs : List Addr} {es : List (Str × Int)} {q : Addr} {e : Str × Int}, Paired R qs es → R q e → Paired R (qs ++ [q]) (es ++ [e]) := by
          intro R qs es q e h r
          induction h with
          | nil => exact .cons r .nil
          | cons h _ ih => exact .cons h ih
        refine app old ?_
        rw [upd_ne tD]; exact et
      · rcases List.mem_append.mp hp with hp | hp
        · exact hpn p hp
        · rw [List.mem_singleton.mp hp]; exact ntL
      · intro b o hb eb
        rw [upd_ne (ne_of_none eb nD)]
        exact c3 b o hb (cH b o hb eb)
    · obtain ⟨ps, y4, rfl, eD', hS', al', hps, hpn, sM, cH⟩ := hI
      rw [show (parts.map V.str).length = parts.length from List.length_map .., List.take_length] at hS' hps
      refine ⟨_, rfl, D, ps, rfl, SqL.of eD', fun p np => ?_⟩
      have sp := same_new (o := .frz (tupO ps) (.tup (ps.map V.ref))) np
      have ep : (upd H' p (.frz (tupO ps) (.tup (ps.map V.ref)))) p = some (.frz (tupO ps) (.tup (ps.map V.ref))) := upd_same
      have hps5 : Paired (fun (t : Addr) (e : Str × Int) => (upd H' p (.frz (tupO ps) (.tup (ps.map V.ref)))) t = some (.tup [.str e.1, .int e.2])) ps (loadE W.sr (parts.filter fun k => decide (k ∈ ks))) := paired_up (fun t e h => sp _ _ h) hps
      have hS5 : StAt K L (upd H' p (.frz (tupO ps) (.tup (ps.map V.ref)))) C CS s ct { W with sr := W.sr + (parts.filter fun k => decide (k ∈ ks)).length } := hS'.keepL hS.sL hS.cL ((mask_same sp).trans mask_less) (fun o e => sp _ _ e) (fun o e => sp _ _ e)
      have cH5 := cH.trans (Chg.of_same sp)
      have hq : Dq K (mask L (upd H' p (.frz (tupO ps) (.tup (ps.map V.ref))))) (.ref p) (TbD (loadE W.sr (parts.filter fun k => decide (k ∈ ks)))) := tab_dq2 (al'.of_cons.not np) (fun t ht m => hpn t ht (List.mem_cons_of_mem _ m)) ep hps5
      obtain ⟨ds5, bn5, es5⟩ := hS5.self
      obtain ⟨H6, hp6, ⟨o6, rfl⟩, hS6⟩ := hS5.putQ (x := x) hl hq
      exact ⟨_, rfl, s, CS, ds5, _, _, rfl, es5, S.cls, S.nc, stF_ct .., _, rfl, ct, _, rfl, hp6, kk .non _ (cH5.trans chg_ct) hS6 .non⟩
end
section
variable {P : Program} {w : World} {K : PySem.W.Frag} {mg : Str → Option Value} {base : Heap}
theorem scNs : FnScope ["self"] ["self"] (defScope (st 3)) := ⟨rfl, rfl, rfl, by decide +kernel, rfl, by decide +kernel, by decide +kernel⟩
theorem ok_serial {f C CS : Addr} {fd : FuncData} (F : Fun K "new_serial" "State.new_serial" (st 3) f fd) (S : StIn K mg CS) : FnOk P w K mg base CX0 1 f fd ["self"] (spSerial K C CS) := by
  refine F.ok scNs (fun vs H Q E h => ?_) (fun cdv A outer s0 H vs Q E hr h => ?_)
  · obtain ⟨L, s, ct, W, rfl, _⟩ := h
    rfl
  · obtain ⟨L, s, ct, W, rfl, hS, al, kk⟩ := h
    refine ⟨_, pss_cons (ps_fldaug (pv 0) pe_int in_add) (pss_one (ps_ret (pe_fld (pv 0) rfl))), ?_⟩
    obtain ⟨ds0, bn, es⟩ := hS.self
    refine ⟨_, rfl, s, CS, ds0, _, _, rfl, es, S.cls, S.nr, stF_sr .., _, _, rfl, rfl, ds0, _, es, stF_len .., ?_⟩
    have ez : ((W.sr : Int) + 1) = ((W.sr + 1 : Nat) : Int) := by omega
    have eF : putF "serials" (.int ((W.sr : Int) + 1)) (stF bn ct W.ft W.sd W.sr) = stF bn ct W.ft W.sd (W.sr + 1) := by rw [ez]; exact stF_ser ..
    rw [eF]
    have hS1 := hS.count (f := W.ft) (sd := W.sd) (sr := W.sr + 1) es
    exact ⟨_, rfl, s, CS, ds0, _, _, rfl, upd_same, S.cls, S.nr, stF_sr .., kk _ chg_s hS1 al.upd⟩
end
section
variable {P : Program} {w : World} {K : PySem.W.Frag} {mg : Str → Option Value} {base : Heap}
theorem scCh : FnScope ["state", "source"] ["state", "source"] (defScope sChange) := ⟨rfl, rfl, rfl, by decide +kernel, rfl, by decide +kernel, by decide +kernel⟩
theorem ok_change {f fN C CS : Addr} {fd fdN : FuncData} (F : Fun K "_change" "_change" sChange f fd) (S : StIn K mg CS) (MN : Meth K CS "new_serial" fN) (GN : FnOk P w K mg base CX0 1 fN fdN ["self"] (spSerial K C CS)) (bN : Binds K fdN ["self"] []) : FnOk P w K mg base CX0 2 f fd ["state", "source"] (spAct K C CS rKeep) := by
  refine F.ok scCh (fun vs H Q E h => ?_) (fun cdv A outer s0 H vs Q E hr h => ?_)
  · obtain ⟨L, s, ct, W, W', args, ds, d, rfl, _, _, _, ha, ⟨x, rfl, _⟩, _⟩ := h
    rw [args1 ha]; rfl
  · obtain ⟨L, s, ct, W, W', args, ds, d, rfl, hS, hl, al, ha, ⟨x, rfl, rfl, rfl⟩, kk⟩ := h
    obtain rfl := args1 ha
    have hu := hu_of hr
    refine ⟨_, pss_one (ps_dput hu (pe_fld (pv 0) rfl) (pv 1) (pe_meth0 (pv 0) S.cls MN GN hr bN .nil pass0) rfl), ?_⟩
    obtain ⟨ds0, bn, es⟩ := hS.self
    refine ⟨_, rfl, s, ds0, _, rfl, es, rfl, L, s, ct, W, rfl, hS, al, fun H1 c1 hS1 al1 => ?_⟩
    obtain ⟨ds1, bn1, es1⟩ := hS1.self
    obtain ⟨H2, hp, ⟨o2, rfl⟩, hS2⟩ := hS1.put (x := x) (v := .int ((W.sr + 1 : Nat) : Int)) (d := .int ((W.sr + 1 : Nat) : Int)) hl (.int _)
    exact ⟨_, rfl, s, CS, ds1, _, _, rfl, es1, S.cls, S.nc, stF_ct .., _, rfl, ct, _, rfl, hp, kk .non _ (c1.trans chg_ct) hS2 .non⟩
end
/-! ### done, World.do, world[name] -/
/-- what the written part says of a deed's word -/
structure ActK (P : Program) (w : World) (K : PySem.W.Frag) (mg : Str → Option Value) (base : Heap) (C CS dP dA : Addr) (word : Str) (kinds : List Str) (R : Ws → List PyData → Ws → PyData → Prop) : Prop where
  parts : PartsK K w dP word kinds
  ex : ∃ f, KDct K w dA word (.ref f) ∧ FnR P w K mg base CX0 3 f (spAct K C CS R) ∧ PySem.W.keepIn K (.ref f) = true
def spDone (P : Program) (w : World) (K : PySem.W.Frag) (mg : Str → Option Value) (base : Heap) (dA : Addr) : Sp := fun vs H Q E => ∃ (s a : Addr) (word : Str) (args : List V) (f : Addr) (sp : Sp), vs = [.ref s, .ref a] ∧ SqT K H a (.str word :: args) ∧ KDct K w dA word (.ref f) ∧ FnR P w K mg base CX0 3 f sp ∧ PySem.W.keepIn K (.ref f) = true ∧ ∀ H1, Same H H1 → sp (.ref s :: args) H1 Q E0
/-- world.do(deed), the world unwatched -/
def spDo (P : Program) (w : World) (K : PySem.W.Frag) (mg : Str → Option Value) (base : Heap) (C CS CW dP dA : Addr) : Sp := fun vs H Q _ => ∃ (wo s ct a : Addr) (L : List Addr) (tvs : List V) (W W' : Ws) (word : Str) (args : List V) (ds : List PyData) (kinds : List Str) (R : Ws → List PyData → Ws → PyData → Prop) (d : PyData), vs = [.ref wo, .ref a] ∧
  WoAt K L H CW wo s tvs ∧ StAt K L H C CS s ct W ∧ SqT K (mask L H) a (.str word :: args) ∧ DpAll K (mask L H) args ds ∧ args.length ≤ 100 ∧ ActK P w K mg base C CS dP dA word kinds R ∧ Paired GoodArg kinds ds ∧ Paired (CheckArg W.th (ds.headD .none)) kinds ds ∧
  W.cs.length ≤ 100 ∧ Alive L H ∧ R W ds W' d ∧ ∀ v H', Chg [s, ct] H H' → StAt K L H' C CS s ct W' → Dp K (mask L H') v d → Q v H'
def spCont (K : PySem.W.Frag) (C CS CW : Addr) : Sp := fun vs H Q _ => ∃ (wo s ct : Addr) (L : List Addr) (tvs : List V) (W : Ws) (x : Str), vs = [.ref wo, .str x] ∧ WoAt K L H CW wo s tvs ∧ StAt K L H C CS s ct W ∧ Q (.bl (look W.cs x).isSome) H
def spItem (K : PySem.W.Frag) (C CS CW : Addr) : Sp := fun vs H Q _ => ∃ (wo s ct : Addr) (L : List Addr) (tvs : List V) (W : Ws) (x : Str) (d : PyData), vs = [.ref wo, .str x] ∧ WoAt K L H CW wo s tvs ∧ StAt K L H C CS s ct W ∧ look W.cs x = some d ∧ ∀ v, Dp K (mask L H) v d → Q v H
theorem WoAt.of {K : PySem.W.Frag} {L : List Addr} {H : Hp} {CW wo s : Addr} {tvs : List V} (h : WoAt K L H CW wo s tvs) : ∃ dw t, H wo = some (.ins CW dw (woF t s .non)) := by
  obtain ⟨dw, t, h1, _⟩ := h
  exact ⟨dw, t, mask_sub _ _ _ _ h1⟩
theorem WoAt.keep {K : PySem.W.Frag} {L : List Addr} {H H' : Hp} {CW wo s : Addr} {tvs : List V} (h : WoAt K L H CW wo s tvs) (c : Same (mask L H) (mask L H')) : WoAt K L H' CW wo s tvs := by
  obtain ⟨dw, t, h1, h2⟩ := h
  exact ⟨dw, t, c _ _ h1, Same.seqT c h2⟩
theorem StAt.dict {K : PySem.W.Frag} {L : List Addr} {H : Hp} {C CS s ct : Addr} {W : Ws} (h : StAt K L H C CS s ct W) : ∃ (ds bn : Addr) (tl : List (Str × V)), H s = some (.ins CS ds (stF bn ct W.ft W.sd W.sr)) ∧ H bn = some (.dK (kvs tl)) ∧ ThL K H C tl W.th := by
  obtain ⟨sL, cL, ds, bn, tl, l, h1, h2, h3, h4, h5⟩ := h
  exact ⟨ds, bn, tl, h1, mask_sub _ _ _ _ h2, h3.same (mask_sub _ _)⟩
theorem StAt.noneAt {K : PySem.W.Frag} {L : List Addr} {H : Hp} {C CS s ct : Addr} {W : Ws} (h : StAt K L H C CS s ct W) (x : Str) : ∃ o : Option V, DGet H ct (.str x) o ∧ o.isSome = (look W.cs x).isSome := by
  obtain ⟨sL, cL, ds, bn, tl, l, h1, h2, h3, h4, h5⟩ := h
  refine ⟨look l x, ?_, ?_⟩
  · have := DGet.k (k := Sum.inr x) h4
    rw [valV_kvs] at this
    exact this
  · cases e : look W.cs x with
    | none => rw [h5.none e]; rfl
    | some d =>
      obtain ⟨v, e1, _⟩ := h5.at e
      rw [e1]
      rfl
section
variable {P : Program} {w : World} {K : PySem.W.Frag} {mg : Str → Option Value} {base : Heap}
theorem scDn : FnScope ["state", "deed", "action", "rest"] ["state", "deed"] (defScope sDone) := ⟨rfl, rfl, rfl, by decide +kernel, rfl, by decide +kernel, by decide +kernel⟩
theorem ok_done {f dA : Addr} {fd : FuncData} (F : Fun K "done" "done" sDone f fd) (mA : mg "ACTIONS" = some (.ref dA)) : FnOk P w K mg base CX0 4 f fd ["state", "deed"] (spDone P w K mg base dA) := by
  refine F.ok scDn (fun vs H Q E h => ?_) (fun cdv A outer s0 H vs Q E hr h => ?_)
  · obtain ⟨s, a, word, args, f, sp, rfl, _⟩ := h
    rfl
  · obtain ⟨s, a, word, args, fa, sp, rfl, ht, hk, hF, hkp, kk⟩ := h
    refine ⟨_, pss_cons (ps_set (i := 2) scDn.nd rfl (.inl rfl) (pe_ix ix_kdict (pe_glob (v := .ref dA) rfl mA rfl) (pe_ix ix_tup (pv 1) pe_int (fun _ _ => rfl)) (fun _ _ => rfl)))
      (pss_cons (ps_set (i := 3) scDn.nd rfl (.inl rfl) (pe_slice sl_tup (pv 1) (po_some pe_int) po_none))
      (pss_one (ps_ret (pe_callLS (i := 2) (E := E0) hr rfl (.inl rfl) pass0 (pa_cons (pv 0) (StX.pa_star (pv 3) pa_nil)))))), ?_⟩
    refine ⟨_, rfl, a, _, 0, _, rfl, rfl, ht, atI_nat (j := 0) rfl, dA, word, .ref fa, rfl, rfl, hk, ?_⟩
    refine ⟨_, rfl, 1, rfl, a, _, rfl, ht, ?_, fun c nc => ?_⟩
    · rintro ⟨h2, _⟩
      rw [show HT.sIx (V.str word :: args).length 0 (some 1) = min 1 (V.str word :: args).length from HT.sIx_nat _ 0 1, List.length_cons] at h2
      omega
    rw [cut_tail]
    refine ⟨fa, sp, rfl, hF, hkp, _, rfl, _, rfl, c, args, rfl, .inl (SqT.of upd_same), ?_⟩
    show sp (V.ref s :: (args ++ [])) _ Q E0
    rw [List.append_nil]
    exact kk _ (same_new nc)
theorem scDo : FnScope ["self", "deed", "answer"] ["self", "deed"] (defScope (wo 1)) := ⟨rfl, rfl, rfl, by decide +kernel, rfl, by decide +kernel, by decide +kernel⟩
theorem ok_do {f fD fC fN C CS CW dP dA : Addr} {fd fdD fdC fdN : FuncData} (F : Fun K "do" "World.do" (wo 1) f fd) (S : StIn K mg CS) (W : WoIn K mg CW) (GD : FnOk P w K mg base CX0 4 fD fdD ["deed"] (spIsDeed K w dP)) (mD : mg "is_deed" = some (.ref fD)) (kD : PySem.W.keepIn K (.ref fD) = true) (bD : Binds K fdD ["deed"] [])
    (GC : FnOk P w K mg base CX0 4 fC fdC ["by_name", "deed"] (spCheck K w C dP)) (mC : mg "check_deed" = some (.ref fC)) (kC : PySem.W.keepIn K (.ref fC) = true) (bC : Binds K fdC ["by_name", "deed"] [])
    (GN : FnOk P w K mg base CX0 4 fN fdN ["state", "deed"] (spDone P w K mg base dA)) (mN : mg "done" = some (.ref fN)) (kN : PySem.W.keepIn K (.ref fN) = true) (bN : Binds K fdN ["state", "deed"] []) : FnOk P w K mg base CX0 5 f fd ["self", "deed"] (spDo P w K mg base C CS CW dP dA) := by
  refine F.ok scDo (fun vs H Q E h => ?_) (fun cdv A outer s0 H vs Q E hr h => ?_)
  · obtain ⟨wo', s, ct, a, L, tvs, W, W', word, args, ds, kinds, R, d, rfl, _⟩ := h
    rfl
  · obtain ⟨wo', s, ct, a, L, tvs, W1, W', word, args, ds, kinds, R, d, rfl, hW, hS, ht, hargs, hal, hA, hg, hc, hl, al, hR, kk⟩ := h
    refine ⟨_, pss_cons (ps_if (pt_not (pt_val (pe_call GD hr (by rfl) mD kD bD .nil pass0 (pa_cons (pv 1) pa_nil)))) (pss_one ps_never) pss_nil)
      (pss_cons (ps_expr (pe_call GC hr (by rfl) mC kC bC .nil pass0 (pa_cons (pe_fld (pe_fld (pv 0) rfl) rfl) (pa_cons (pv 1) pa_nil))))
      (pss_cons (ps_set (i := 2) scDo.nd rfl (.inl rfl) (pe_call GN hr (by rfl) mN kN bN .nil pass0 (pa_cons (pe_fld (pv 0) rfl) (pa_cons (pv 1) pa_nil))))
      (pss_cons (ps_if (pt_cmpR op_notN (pe_fld (pv 0) rfl) pe_non (nomark _)) (pss_one ps_never) pss_nil)
      (pss_one (ps_ret (pv 2)))))), ?_⟩
    obtain ⟨fa, hk, hF, hkp⟩ := hA.ex
    refine ⟨_, rfl, a, word, args, ds, kinds, rfl, Same.seqT (mask_sub _ _) ht, dpAll_same (mask_sub _ _) _ _ hargs, hA.parts, hal, hg, fun H1 s1 => ?_⟩
    refine ⟨_, rfl, iteF ?_⟩
    have hW1 := hW.keep (mask_same s1)
    have hS1 := hS.same s1
    have ht1 := Same.seqT (mask_same s1) ht
    have ha1 := dpAll_same (mask_same s1) _ _ hargs
    obtain ⟨dw, t, ew⟩ := hW1.of
    obtain ⟨ds0, bn, tl, es, ebn, hth⟩ := hS1.dict
    refine ⟨_, rfl, wo', CW, dw, _, _, rfl, ew, W.cls, W.ns, woF_s .., s, CS, ds0, _, _, rfl, es, S.cls, S.nb, stF_bn .., _, rfl, ?_⟩
    refine ⟨bn, a, tl, W1.th, word, args, ds, kinds, rfl, ebn, hth, Same.seqT (mask_sub _ _) ht1, dpAll_same (mask_sub _ _) _ _ ha1, hA.parts, hc, fun H2 s2 => ?_⟩
    have hW2 := hW1.keep (mask_same s2)
    have hS2 := hS1.same s2
    have ht2 := Same.seqT (mask_same s2) ht1
    have ha2 := dpAll_same (mask_same s2) _ _ ha1
    refine ⟨_, rfl, wo', CW, dw, _, _, rfl, s2 _ _ ew, W.cls, W.ns, woF_s .., _, rfl, ?_⟩
    refine ⟨s, a, word, args, fa, _, rfl, Same.seqT (mask_sub _ _) ht2, hk, hF, hkp, fun H3 s3 => ?_⟩
    refine ⟨L, s, ct, W1, W', args, ds, d, rfl, hS2.same s3, hl, al.same ((s1.trans s2).trans s3), dpAll_same (mask_same s3) _ _ ha2, hR, fun v H4 c4 hS4 hd4 => ?_⟩
    have hW4 := (hW2.keep (mask_same s3)).keep (c4.inL hS.sL hS.cL).mask
    obtain ⟨dw4, t4, ew4⟩ := hW4.of
    refine ⟨_, rfl, wo', CW, dw4, _, _, rfl, ew4, W.cls, W.nl, woF_l .., rfl, _, rfl, iteF ?_⟩
    exact ⟨_, rfl, kk v H4 ((Chg.of_same ((s1.trans s2).trans s3)).trans c4) hS4 hd4⟩
theorem scCo : FnScope ["self", "name"] ["self", "name"] (defScope (wo 6)) := ⟨rfl, rfl, rfl, by decide +kernel, rfl, by decide +kernel, by decide +kernel⟩
theorem ok_cont {f C CS CW : Addr} {fd : FuncData} {k : Nat} (F : Fun K "__contains__" "World.__contains__" (wo 6) f fd) (S : StIn K mg CS) (W : WoIn K mg CW) (B : Bts mg) : FnOk P w K mg base CX0 (k + 1) f fd ["self", "name"] (spCont K C CS CW) := by
  refine F.ok scCo (fun vs H Q E h => ?_) (fun cdv A outer s0 H vs Q E hr h => ?_)
  · obtain ⟨wo', s, ct, L, tvs, W, x, rfl, _⟩ := h
    rfl
  · obtain ⟨wo', s, ct, L, tvs, W1, x, rfl, hW, hS, kk⟩ := h
    have hu := hu_of hr
    refine ⟨_, pss_one (ps_ret (pe_and (pe_callB call_isi (by rfl) B.isinstance (by decide +kernel) (pa_cons (pv 1) (pa_cons (pe_bltn (v := .ty "str") (by rfl) B.str (by decide +kernel) rfl) pa_nil))) (pe_one (pe_cmp (pc_din hu (pv 1) (pe_fld (pe_fld (pv 0) rfl) rfl)) rfl)))), ?_⟩
    obtain ⟨dw, t, ew⟩ := hW.of
    obtain ⟨ds0, bn, es⟩ := hS.self
    obtain ⟨o, g, eo⟩ := hS.noneAt x
    refine ⟨_, rfl, _, _, _, _, true, rfl, .ty _, TyX.base (TyOf.str x), kit_ty (by decide +kernel), _, rfl, iteT ?_⟩
    refine ⟨_, rfl, _, rfl, wo', CW, dw, _, _, rfl, ew, W.cls, W.ns, woF_s .., s, CS, ds0, _, _, rfl, es, S.cls, S.nc, stF_ct .., ct, o, rfl, g, ?_⟩
    rw [eo]
    exact kk
theorem scIt : FnScope ["self", "name"] ["self", "name"] (defScope (wo 4)) := ⟨rfl, rfl, rfl, by decide +kernel, rfl, by decide +kernel, by decide +kernel⟩
theorem ok_item {f fC C CS CW : Addr} {fd : FuncData} {k : Nat} (F : Fun K "__getitem__" "World.__getitem__" (wo 4) f fd) (S : StIn K mg CS) (W : WoIn K mg CW) (hs : PySem.W.findIn K (.ref CW) "__contains__" = some (some (.ref fC))) (hf : PySem.W.isFn K (.ref fC) = true) (GC : FnR P w K mg base CX0 k fC (spCont K C CS CW)) :
    FnOk P w K mg base CX0 (k + 1) f fd ["self", "name"] (spItem K C CS CW) := by
  refine F.ok scIt (fun vs H Q E h => ?_) (fun cdv A outer s0 H vs Q E hr h => ?_)
  · obtain ⟨wo', s, ct, L, tvs, W, x, d, rfl, _⟩ := h
    rfl
  · obtain ⟨wo', s, ct, L, tvs, W1, x, d, rfl, hW, hS, e, kk⟩ := h
    have hu := hu_of hr
    refine ⟨_, pss_cons (ps_if (pt_cmpR (op_notInOwn hs hf GC hr pass0) (pv 1) (pv 0) (by rfl)) (pss_one ps_never) pss_nil)
      (pss_one (ps_ret (pe_dget hu (pe_fld (pe_fld (pv 0) rfl) rfl) (pv 1) (fun _ _ => rfl)))), ?_⟩
    obtain ⟨dw, t, ew⟩ := hW.of
    obtain ⟨ds0, bn, es⟩ := hS.self
    obtain ⟨v, g, hd⟩ := hS.get e
    refine ⟨_, rfl, _, rfl, wo', dw, _, rfl, ew, wo', s, ct, L, tvs, W1, x, rfl, hW, hS, _, rfl, _, rfl, ?_⟩
    rw [e]
    refine iteF ⟨_, rfl, wo', CW, dw, _, _, rfl, ew, W.cls, W.ns, woF_s .., s, CS, ds0, _, _, rfl, es, S.cls, S.nc, stF_ct .., _, rfl, ct, v, rfl, g, kk v hd⟩
end
/-! ### _law_names -/
theorem abc_is (k : Nat) (h : k < 26) : abc.cps.toList[k]? = some (97 + k) := by
  have all : ∀ k : Fin 26, abc.cps.toList[k.val]? = some (97 + k.val) := by decide +kernel
  exact all ⟨k, h⟩
theorem cps_app (a b : Str) : (a ++ b).cps.toList = a.cps.toList ++ b.cps.toList := by
  show (a.cps ++ b.cps).toList = _
  rw [Array.toList_append]
/-- the sign that tells a name from the others -/
def signOf (fr : Bool) (z : Str) : Option Nat := if fr = true then z.cps.toList.head? else z.cps.toList.getLast?
theorem sign_front (c : Nat) (w : Str) : signOf true ((⟨#[c]⟩ : Str) ++ w) = some c := by
  unfold signOf
  rw [if_pos rfl, cps_app]
  rfl
theorem sign_back (c : Nat) (w : Str) : signOf false (w ++ (⟨#[c]⟩ : Str)) = some c := by
  unfold signOf
  rw [if_neg (by decide), cps_app]
  show (w.cps.toList ++ [c]).getLast? = some c
  rw [List.getLast?_append]
  rfl
theorem signs_nodup {fr : Bool} {ns : List Str} (h : ∀ (j : Nat) (z : Str), ns[j]? = some z → signOf fr z = some (97 + j)) : ns.Nodup := by
  refine List.pairwise_iff_getElem.mpr fun i j hi hj hij e => ?_
  have h1 := h i _ (List.getElem?_eq_getElem hi)
  have h2 := h j _ (List.getElem?_eq_getElem hj)
  rw [e, h2] at h1
  have := Option.some.inj h1
  omega
theorem strLen_one (c : Nat) : (⟨#[c]⟩ : Str).length = 1 := rfl
def spLNames : Sp := fun vs H Q _ => ∃ (p q : Addr) (n many : Nat), vs = [.ref p, .int (many : Int)] ∧ PoolAt H p q n ∧ n < 900000 ∧ many ≤ 26 ∧
  ∀ (r : Addr) (ns : List Str) (n' : Nat) (H' : Hp), H r = none → ns.length = many → (∀ x ∈ ns, IsWord x) → ns.Nodup → n ≤ n' → n' ≤ n + 2 + 8 * many → PoolAt H' p q n' → Keeps p q H H' → H' r = some (.lst (ns.map V.str)) → Q (.ref r) H'
section
variable {P : Program} {w : World} {K : PySem.W.Frag} {mg : Str → Option Value} {base : Heap}
theorem scLN : FnScope ["pool", "many", "letters", "size", "front", "names", "k", "word", "j"] ["pool", "many"] (defScope sLNames) := ⟨rfl, rfl, rfl, by decide +kernel, rfl, by decide +kernel, by decide +kernel⟩
theorem ok_lnames {f fD : Addr} {fd fdD : FuncData} (F : Fun K "_law_names" "_law_names" sLNames f fd) (GD : FnOk P w K mg base CX0 1 fD fdD ["pool", "many"] spDraw) (mD : mg "_law_draw" = some (.ref fD)) (kD : PySem.W.keepIn K (.ref fD) = true)
    (bD : Binds K fdD ["pool", "many"] []) (mr : mg "range" = none) : FnOk P w K mg base CX0 2 f fd ["pool", "many"] spLNames := by
  refine F.ok scLN (fun vs H Q E h => ?_) (fun cdv A outer s H vs Q E hr h => ?_)
  · obtain ⟨p, q, n, many, rfl, _⟩ := h
    rfl
  · obtain ⟨p, q, n, many, rfl, hP, hn, hm, kk⟩ := h
    refine ⟨_, pss_cons (ps_set (i := 2) scLN.nd rfl (.inr rfl) pe_str)
      (pss_cons (ps_set (i := 3) scLN.nd rfl (.inl rfl) (pe_call GD hr (by rfl) mD kD bD .nil pass0 (pa_cons (pv 0) (pa_cons pe_int pa_nil))))
      (pss_cons (ps_set (i := 4) scLN.nd rfl (.inl rfl) (pe_call GD hr (by rfl) mD kD bD .nil pass0 (pa_cons (pv 0) (pa_cons pe_int pa_nil))))
      (pss_cons (ps_set (i := 5) scLN.nd rfl (.inl rfl) (pe_lst pa_nil))
      (pss_cons (ps_for PassesOwn.never rfl (pi_range1 (by rfl) mr (pa_cons (pv 1) pa_nil)) (pg_name (i := 6) scLN.nd rfl (.inl rfl))
        (pss_cons (ps_set (i := 7) scLN.nd rfl (.inl rfl) (pe_join pe_str (pe_lc (own := [("j", 8)]) (g := gName 8) (tt := tYes) rfl scLN.nd
            (pi_range1 (by rfl) mr (pa_cons (pv 3) pa_nil)) (blkOk_by (N := ["pool", "many", "letters", "size", "front", "names", "k", "word", "j"]) (sc := defScope sLNames) (by decide +kernel))
            (fun _ _ _ _ _ => pg_name (i := 8) scLN.nd rfl (.inl rfl)) (fun _ _ _ _ _ => pts_nil)
            (fun _ _ _ _ _ => pe_ix ix_str (pv 2) (pe_call GD hr (by rfl) mD kD bD .nil pass0 (pa_cons (pv 0) (pa_cons pe_int pa_nil))) (fun _ _ => rfl)))))
        (pss_one (ps_expr (pe_bm PySem.F.plainAttrs_list PySem.F.slot_list_append PySem.F.type_list_append mt_append (pv 5)
          (pa_cons (pe_ifExp (pt_truth (pv 4) (by intro _; rfl)) (pe_op op_add_str (pe_ix ix_str (pv 2) (pv 6) (fun _ _ => rfl)) (pv 7)) (pe_op op_add_str (pv 7) (pe_ix ix_str (pv 2) (pv 6) (fun _ _ => rfl)))) pa_nil))))))
      (pss_one (ps_ret (pv 5))))))), ?_⟩
    refine ⟨.ref p, rfl, p, q, n, 8, rfl, hP, by omega, by decide, by decide, fun d H1 h0 h1 P1 K1 => ?_⟩
    refine ⟨.ref p, rfl, p, q, n + 1, 2, rfl, P1, by omega, by decide, by decide, fun fr H2 f0 f1 P2 K2 => ?_⟩
    refine ⟨by show 0 ≤ sizeLine; decide, fun r nr => ?_⟩
    have K12 : Keeps p q H H2 := K1.trans K2
    have alv : Alive [p, q] H2 := P2.alive
    have nrp : r ≠ p := fun z => alv.not nr (by rw [z]; exact List.mem_cons_self)
    have nrq : r ≠ q := fun z => alv.not nr (by rw [z]; exact List.mem_cons_of_mem _ List.mem_cons_self)
    have nrH : H r = none := K12.free nr nrp nrq
    have er : (upd H2 r (.lst [])) r = some (.lst (([] : List Str).map V.str)) := upd_same
    have P3 : PoolAt (upd H2 r (.lst [])) p q (n + 2) := P2.new nr
    have K3 : Keeps p q H (upd H2 r (.lst [])) := K12.trans (.upd_new nr)
    generalize upd H2 r (.lst []) = H3 at *
    have fb : ∃ fb : Bool, fb = (fr != 0) := ⟨_, rfl⟩
    obtain ⟨fb, efb⟩ := fb
    refine ⟨_, rfl, many, rfl, by omega, by omega, for_range (lo := 0) (n := many) (fun i σ H4 => ∃ (y6 y7 : Option V) (ns : List Str) (m : Nat), σ = [some (.ref p), some (.int (many : Int)), some (.str abc), some (.int d), some (.int fr), some (.ref r), y6, y7, none] ∧
        H4 r = some (.lst (ns.map V.str)) ∧ ns.length = i ∧ (∀ x ∈ ns, IsWord x) ∧ (∀ (j : Nat) (z : Str), ns[j]? = some z → signOf fb z = some (97 + j)) ∧ n ≤ m ∧ m ≤ n + 2 + 8 * i ∧ PoolAt H4 p q m ∧ (∀ x o, x ≠ p → x ≠ q → x ≠ r → H3 x = some o → H4 x = some o))
      ⟨none, none, [], n + 2, rfl, er, rfl, fun x h => (by cases h), fun j z h => (by simp at h), by omega, by omega, P3, fun x o _ _ _ e => e⟩ ?_ ?_⟩
    · rintro i σ H4 hi ⟨y6, y7, ns, m, rfl, eN, el, hw, hsg, hm1, hm2, P4, K4⟩
      refine ⟨⟨_, rfl⟩, .int d, rfl, d, rfl, by omega, by omega, fun D nD => ?_⟩
      obtain ⟨op, ep⟩ := P4.p_some
      obtain ⟨oq, eq⟩ := P4.q_some
      have nDp : D ≠ p := (ne_of_none ep nD).symm
      have nDq : D ≠ q := (ne_of_none eq nD).symm
      have nDr : D ≠ r := (ne_of_none eN nD).symm
      refine lc_range (lo := 0) (n := d.toNat) (fun j H5 => ∃ ys : List Str, H5 D = some (.lst (ys.map V.str)) ∧ ys.length = j ∧ (∀ y ∈ ys, ∃ c, y = ⟨#[c]⟩ ∧ 97 ≤ c ∧ c ≤ 122) ∧ PoolAt H5 p q (m + j) ∧ Keeps p q H4 H5)
        ⟨[], upd_same, rfl, fun y hy => (by cases hy), P4.new nD, .upd_new nD⟩ (fun j H5 hj hI => ?_) (fun H5 hI => ?_)
      · obtain ⟨ys, eD, el2, hy, P5, K5⟩ := hI
        refine ⟨rfl, ?_⟩
        refine ⟨_, rfl, _, rfl, p, q, m + j, 26, rfl, P5, by omega, by decide, by decide, fun d2 H6 h02 h12 P6 K6 => ?_⟩
        obtain ⟨c, ec, hc1, hc2⟩ := abc_at d2 h02 h12
        have eD6 : H6 D = some (.lst (ys.map V.str)) := K6 D _ nDp nDq eD
        refine ⟨abc, d2, c, rfl, rfl, by rw [abc_len]; decide, ec, _, eD6, small1000 (by rw [List.length_map]; omega), ys ++ [⟨#[c]⟩], ?_, by simp [el2], fun y hm => ?_, ?_, ?_⟩
        · rw [upd_same, List.map_append]; rfl
        · rcases List.mem_append.mp hm with hm | hm
          · exact hy y hm
          · exact ⟨c, List.mem_singleton.mp hm, hc1, hc2⟩
        · have e : m + (j + 1) = m + j + 1 := by omega
          rw [e]
          obtain ⟨npq, cs, b, c0, e1, e2, r⟩ := P6
          exact ⟨npq, cs, b, c0, by rw [upd_ne nDp.symm]; exact e1, by rw [upd_ne nDq.symm]; exact e2, r⟩
        · intro x o hx1 hx2 nH
          have ex := K6 x o hx1 hx2 (K5 x o hx1 hx2 nH)
          by_cases hxD : x = D
          · subst hxD
            rw [nH] at nD
            cases nD
          · rw [upd_ne hxD]; exact ex
      · obtain ⟨ys, eD, el2, hy, P5, K5⟩ := hI
        obtain ⟨j1, j2⟩ := join_letters (sep := "") (by decide +kernel) ys hy
        have e1 : ∀ y ∈ ys, y.length = 1 := fun y hm => by
          obtain ⟨c, rfl, _⟩ := hy y hm
          rfl
        have e2 : (ys.map (·.length)).sum = ys.length := sum_ones _ e1
        refine ⟨_, D, ys, rfl, rfl, .inl (SqL.of eD), ?_, ?_⟩
        · rw [e2, show (Str.ofString "").length = 0 by decide +kernel]; omega
        rw [show Txt.join _ ys = Str.join _ ys from StrLaws.glued_eq_join _ _]
        generalize hwd : Str.join _ ys = wd at j1 j2 ⊢
        have eN5 : H5 r = some (.lst (ns.map V.str)) := K5 r _ nrp nrq eN
        have hk : abc.cps.toList[i]? = some (97 + i) := abc_is i (by omega)
        have hat : atI abc.cps.toList (0 + (i : Int)) = some (97 + i) := by rw [Int.zero_add]; exact atI_nat hk
        have fin : ∀ z : Str, IsWord z → signOf fb z = some (97 + i) → ∃ (y6 y7 : Option V) (ns' : List Str) (m' : Nat), [some (V.ref p), some (.int (many : Int)), some (.str abc), some (.int d), some (.int fr), some (.ref r), some (.int (0 + (i : Int))), some (.str wd), none] = [some (V.ref p), some (.int (many : Int)), some (.str abc), some (.int d), some (.int fr), some (.ref r), y6, y7, none] ∧
            (upd H5 r (.lst (ns.map V.str ++ [.str z]))) r = some (.lst (ns'.map V.str)) ∧ ns'.length = i + 1 ∧ (∀ x ∈ ns', IsWord x) ∧ (∀ (j : Nat) (z : Str), ns'[j]? = some z → signOf fb z = some (97 + j)) ∧ n ≤ m' ∧ m' ≤ n + 2 + 8 * (i + 1) ∧ PoolAt (upd H5 r (.lst (ns.map V.str ++ [.str z]))) p q m' ∧ (∀ x o, x ≠ p → x ≠ q → x ≠ r → H3 x = some o → (upd H5 r (.lst (ns.map V.str ++ [.str z]))) x = some o) := fun z hz hs => by
          refine ⟨_, _, ns ++ [z], m + d.toNat, rfl, by rw [upd_same, List.map_append]; rfl, by rw [List.length_append, el]; rfl, fun x hx => ?_, fun j z' ej => ?_, by omega, by omega, ?_, fun x o h1 h2 h3 e => ?_⟩
          · rcases List.mem_append.mp hx with hx | hx
            · exact hw x hx
            · rw [List.mem_singleton.mp hx]; exact hz
          · by_cases q1 : j < ns.length
            · rw [List.getElem?_append_left q1] at ej
              exact hsg j z' ej
            · rw [List.getElem?_append_right (by omega)] at ej
              have ej0 : j = i := by
                have := (List.getElem?_eq_some_iff.mp ej).1
                simp only [List.length_cons, List.length_nil] at this
                omega
              subst ej0
              rw [el, Nat.sub_self] at ej
              cases Option.some.inj ej
              exact hs
          · obtain ⟨npq, cs, b, c0, e1, e2, r'⟩ := P5
            exact ⟨npq, cs, b, c0, by rw [upd_ne nrp.symm]; exact e1, by rw [upd_ne nrq.symm]; exact e2, r'⟩
          · rw [upd_ne h3]
            exact K5 x o h1 h2 (K4 x o h1 h2 h3 e)
        have len1 : ∀ c : Nat, (⟨#[c]⟩ : Str).length = 1 := fun _ => rfl
        have l8 : ys.length = d.toNat := el2
        refine ⟨_, rfl, .inl ⟨rfl, _, SqL.of eN5⟩, _, rfl, fb, ?_, ?_⟩
        · rw [efb]; rfl
        · cases efb2 : fb with
          | true =>
            rw [efb2] at fin
            refine iteT ⟨_, rfl, _, rfl, abc, _, _, rfl, rfl, by rw [abc_len]; decide, hat, _, rfl, _, _, rfl, rfl, ?_, ?_⟩
            · rw [len1]; exact len1000 (by omega)
            · refine ⟨r, _, _, rfl, rfl, eN5, small1000 (by rw [List.length_map]; omega), ?_⟩
              refine fin _ ⟨?_, ?_, fun c hc => ?_⟩ (sign_front _ _)
              · rw [strLen_append, len1]; omega
              · rw [strLen_append, len1]; omega
              · rw [cps_app] at hc
                rcases List.mem_append.mp hc with hc | hc
                · rw [List.mem_singleton.mp hc]; omega
                · exact j2 c hc
          | false =>
            rw [efb2] at fin
            refine iteF ⟨_, rfl, _, rfl, _, rfl, abc, _, _, rfl, rfl, by rw [abc_len]; decide, hat, _, _, rfl, rfl, ?_, ?_⟩
            · rw [len1]; exact len1000 (by omega)
            · refine ⟨r, _, _, rfl, rfl, eN5, small1000 (by rw [List.length_map]; omega), ?_⟩
              refine fin _ ⟨?_, ?_, fun c hc => ?_⟩ (sign_back _ _)
              · rw [strLen_append, len1]; omega
              · rw [strLen_append, len1]; omega
              · rw [cps_app] at hc
                rcases List.mem_append.mp hc with hc | hc
                · exact j2 c hc
                · rw [List.mem_singleton.mp hc]; omega
    · rintro σ H4 ⟨y6, y7, ns, m, rfl, eN, el, hw, hsg, hm1, hm2, P4, K4⟩
      refine ⟨_, rfl, ?_⟩
      exact kk r ns m H4 nrH el hw (signs_nodup hsg) hm1 hm2 P4 (fun x o h1 h2 e => K4 x o h1 h2 (ne_of_none e nrH) (K3 x o h1 h2 e)) eN
end
/-! ### what the laws of worlds call -/
structure WDefs (P : Program) (w : World) (K : PySem.W.Frag) (mg : Str → Option Value) (base : Heap) where
  (C CS CW dP dA : Addr)
  T : ThIn K mg C
  S : StIn K mg CS
  W : WoIn K mg CW
  B : Bts mg
  (fP fD fL fS : Addr)
  (xP xD xL xS : FuncData)
  gP : FnOk P w K mg base CX0 1 fP xP ["script"] (spPool K)
  gD : FnOk P w K mg base CX0 1 fD xD ["pool", "many"] spDraw
  gL : FnOk P w K mg base CX0 2 fL xL ["pool", "many"] spLNames
  gS : FnOk P w K mg base CX0 3 fS xS ["actual", "due"] (spSame K 3)
  bP : Binds K xP ["script"] []
  bD : Binds K xD ["pool", "many"] []
  bL : Binds K xL ["pool", "many"] []
  bS : Binds K xS ["actual", "due"] []
  mP : mg "_law_pool" = some (.ref fP)
  mD : mg "_law_draw" = some (.ref fD)
  mL : mg "_law_names" = some (.ref fL)
  mS : mg "_law_same" = some (.ref fS)
  kP : PySem.W.keepIn K (.ref fP) = true
  kD : PySem.W.keepIn K (.ref fD) = true
  kL : PySem.W.keepIn K (.ref fL) = true
  kS : PySem.W.keepIn K (.ref fS) = true
  td : Tdefs P w K mg base C
  fW : Addr
  MW : Mk K CW fW
  gW : FnR P w K mg base CX0 4 fW (spWInit K C CS CW)
  fDo : Addr
  xDo : FuncData
  mDo : Meth K CW "do" fDo
  gDo : FnOk P w K mg base CX0 5 fDo xDo ["self", "deed"] (spDo P w K mg base C CS CW dP dA)
  bDo : Binds K xDo ["self", "deed"] []
  fIt : Addr
  aIt : PySem.W.findIn K (.ref CW) "__getitem__" = some (some (.ref fIt))
  nIt : PySem.W.fnIn K fIt = true
  hIt : PySem.W.isFn K (.ref fIt) = true
  gIt : FnR P w K mg base CX0 5 fIt (spItem K C CS CW)
theorem smeth_of {P : Program} {w : World} {K : PySem.W.Frag} {mg : Str → Option Value} {base : Heap} (G : WDefs P w K mg base) {m : Str} (h : m ∈ [("feed" : Str), "dice", "source", "flag", "slot"]) : ∃ p g, SMet K G.C m p g ∧ FnR P w K mg base CX0 5 g (spMk K G.C m) := G.td.one m h
/-- a list or tuple of two numbers, and the like -/
theorem look2a {α : Type} {n0 n1 : Str} {a b : α} : look [(n0, a), (n1, b)] n0 = some a := look_pos (p := (n0, a)) rfl
theorem look2b {α : Type} {n0 n1 : Str} {a b : α} (h : n0 ≠ n1) : look [(n0, a), (n1, b)] n1 = some b := by
  rw [look_neg (p := (n0, a)) h]
  exact look_pos (p := (n1, b)) rfl
theorem put2a {α : Type} {n0 n1 : Str} {a b c : α} (h : n0 ≠ n1) : put [(n0, a), (n1, b)] n0 c = [(n0, c), (n1, b)] := by
  simp [put, h.symm]
theorem put2b {α : Type} {n0 n1 : Str} {a b c : α} (h : n0 ≠ n1) : put [(n0, a), (n1, b)] n1 c = [(n0, a), (n1, c)] := by
  simp [put, h]
/-- one more that may change: a new object -/
theorem mask_more {L : List Addr} {H : Hp} {b : Addr} {o : HO} (n : H b = none) : Same (mask L H) (mask (b :: L) (upd H b o)) := (mask_new n).trans (mask_at List.mem_cons_self)
theorem StAt.more {K : PySem.W.Frag} {L : List Addr} {H : Hp} {C CS s ct b : Addr} {o : HO} {W : Ws} (h : StAt K L H C CS s ct W) (n : H b = none) : StAt K (b :: L) (upd H b o) C CS s ct W := by
  obtain ⟨sL, cL, ds, bn, tl, l, h1, h2, h3, h4, h5⟩ := h
  have s2 := mask_more (L := L) (o := o) n
  exact ⟨List.mem_cons_of_mem _ sL, List.mem_cons_of_mem _ cL, ds, bn, tl, l, by rw [upd_ne (ne_of_none h1 n)]; exact h1, s2 _ _ h2, h3.same s2, by rw [upd_ne (ne_of_none h4 n)]; exact h4, h5.same s2⟩
theorem WoAt.more {K : PySem.W.Frag} {L : List Addr} {H : Hp} {CW wo s b : Addr} {o : HO} {tvs : List V} (h : WoAt K L H CW wo s tvs) (n : H b = none) : WoAt K (b :: L) (upd H b o) CW wo s tvs := by
  obtain ⟨dw, t, h1, h2⟩ := h
  have s2 := mask_more (L := L) (o := o) n
  exact ⟨dw, t, s2 _ _ h1, Same.seqT s2 h2⟩
/-- a change of what is neither the state nor its dict -/
theorem StAt.upd {K : PySem.W.Frag} {L : List Addr} {H : Hp} {C CS s ct b : Addr} {o : HO} {W : Ws} (h : StAt K L H C CS s ct W) (m : b ∈ L) (n1 : b ≠ s) (n2 : b ≠ ct) : StAt K L (L2.upd H b o) C CS s ct W :=
  h.keep (mask_at m) (fun u e => by rw [upd_ne n1.symm]; exact e) fun u e => by rw [upd_ne n2.symm]; exact e
theorem PoolAt.upd {H : Hp} {p q b : Addr} {n : Nat} {o : HO} (h : PoolAt H p q n) (n1 : b ≠ p) (n2 : b ≠ q) : PoolAt (L2.upd H b o) p q n := by
  obtain ⟨npq, cs, x, c0, e1, e2, r⟩ := h
  exact ⟨npq, cs, x, c0, by rw [upd_ne n1.symm]; exact e1, by rw [upd_ne n2.symm]; exact e2, r⟩
theorem PoolAt.chg {l : List Addr} {H H' : Hp} {p q : Addr} {n : Nat} (h : PoolAt H p q n) (c : Chg l H H') (n1 : p ∉ l) (n2 : q ∉ l) : PoolAt H' p q n := by
  obtain ⟨npq, cs, x, c0, e1, e2, r⟩ := h
  exact ⟨npq, cs, x, c0, c _ _ n1 e1, c _ _ n2 e2, r⟩
/-- objects of unlike kinds -/
theorem StAt.not_lst {K : PySem.W.Frag} {L : List Addr} {H : Hp} {C CS s ct b : Addr} {W : Ws} {xs : List V} (h : StAt K L H C CS s ct W) (e : H b = some (.lst xs)) : b ∉ [s, ct] := by
  obtain ⟨sL, cL, ds, bn, tl, l, h1, h2, h3, h4, h5⟩ := h
  intro m
  rcases List.mem_cons.mp m with z | m
  · rw [z, h1] at e; cases e
  · rw [List.mem_singleton.mp m, h4] at e; cases e
/-! ### laws over the things of a row -/
inductive Flat : V → PyData → Prop where
  | non : Flat .non .none
  | bl (b : Bool) : Flat (.bl b) (.bool b)
  | int (i : Int) : Flat (.int i) (.int i)
  | str (x : Str) : Flat (.str x) (.str x)
theorem Flat.toDp {K : PySem.W.Frag} {H : Hp} {v : V} {d : PyData} (h : Flat v d) : Dp K H v d := by
  cases h
  · exact .non
  · exact .bl _
  · exact .int _
  · exact .str _
theorem Flat.dp3 {v : V} {d : PyData} (h : Flat v d) (m : Nat) : Qp.dp (m + 1) d := by cases h <;> simp [Qp.dp]
theorem flat_all {K : PySem.W.Frag} {H : Hp} : ∀ {vs : List V} {ds : List PyData}, Paired Flat vs ds → DpAll K H vs ds
  | _, _, .nil => .nil
  | _, _, .cons h t => .cons h.toDp (flat_all t)
theorem paired_get {α β : Type} {R : α → β → Prop} : ∀ {xs : List α} {ys : List β} {i : Nat} {x : α}, Paired R xs ys → xs[i]? = some x → ∃ y, ys[i]? = some y ∧ R x y
  | _, _, _, _, .nil, e => by simp at e
  | _, _, 0, _, .cons h _, e => by
    obtain rfl := Option.some.inj e
    exact ⟨_, rfl, h⟩
  | _, _, i + 1, _, .cons _ t, e => paired_get (i := i) t e
theorem paired_get2 {α β : Type} {R : α → β → Prop} : ∀ {xs : List α} {ys : List β} {i : Nat} {y : β}, Paired R xs ys → ys[i]? = some y → ∃ x, xs[i]? = some x ∧ R x y
  | _, _, _, _, .nil, e => by simp at e
  | _, _, 0, _, .cons h _, e => by
    obtain rfl := Option.some.inj e
    exact ⟨_, rfl, h⟩
  | _, _, i + 1, _, .cons _ t, e => paired_get2 (i := i) t e
theorem paired_set {α β : Type} {R : α → β → Prop} {x : α} {y : β} (h : R x y) : ∀ {xs : List α} {ys : List β} (i : Nat), Paired R xs ys → Paired R (xs.set i x) (ys.set i y)
  | _, _, _, .nil => .nil
  | _, _, 0, .cons _ t => .cons h t
  | _, _, i + 1, .cons a t => .cons a (paired_set h i t)
theorem paired_tail {α β : Type} {R : α → β → Prop} {x : α} {xs : List α} {ys : List β} (h : Paired R (x :: xs) ys) : ∃ y r, ys = y :: r ∧ R x y ∧ Paired R xs r := by
  cases h with
  | cons a t => exact ⟨_, _, rfl, a, t⟩
theorem look_zip {α : Type} {n : Str} : ∀ {ns : List Str} {ds : List α} {i : Nat} {d : α}, ns.Nodup → ns[i]? = some n → ds[i]? = some d → look (ns.zip ds) n = some d
  | [], _, _, _, _, e, _ => by simp at e
  | _ :: _, [], _, _, _, _, e => by simp at e
  | m :: ns, d' :: ds, 0, d, _, e1, e2 => by
    obtain rfl := Option.some.inj e1
    obtain rfl := Option.some.inj e2
    exact look_pos (p := (m, d')) rfl
  | m :: ns, d' :: ds, i + 1, d, hn, e1, e2 => by
    have hm : m ≠ n := fun e => (List.nodup_cons.mp hn).1 (by rw [e]; exact List.mem_of_getElem? (show ns[i]? = some n from e1))
    show look ((m, d') :: ns.zip ds) n = some d
    rw [look_neg (p := (m, d')) hm]
    exact look_zip (i := i) (List.nodup_cons.mp hn).2 e1 e2
theorem map_other {α : Type} {n : Str} {c : α} : ∀ {ns : List Str} {ds : List α}, n ∉ ns → (ns.zip ds).map (fun p => if p.1 = n then (p.1, c) else p) = ns.zip ds
  | [], _, _ => rfl
  | _ :: _, [], _ => rfl
  | m :: ns, d :: ds, h => by
    show (if m = n then (m, c) else (m, d)) :: _ = (m, d) :: ns.zip ds
    rw [if_neg fun e => h (by rw [e]; exact List.mem_cons_self)]
    congr 1
    exact map_other fun q => h (List.mem_cons_of_mem _ q)
theorem map_zip {α : Type} {n : Str} {c : α} : ∀ {ns : List Str} {ds : List α} {i : Nat}, ns.Nodup → ns[i]? = some n → i < ds.length → (ns.zip ds).map (fun p => if p.1 = n then (p.1, c) else p) = ns.zip (ds.set i c)
  | [], _, _, _, e, _ => by simp at e
  | _ :: _, [], _, _, _, e => by simp at e
  | m :: ns, d :: ds, 0, hn, e1, _ => by
    obtain rfl := Option.some.inj e1
    show (if m = m then (m, c) else (m, d)) :: _ = (m, c) :: ns.zip ds
    rw [if_pos rfl]
    congr 1
    exact map_other (List.nodup_cons.mp hn).1
  | m :: ns, d :: ds, i + 1, hn, e1, e2 => by
    have hm : m ≠ n := fun e => (List.nodup_cons.mp hn).1 (by rw [e]; exact List.mem_of_getElem? (show ns[i]? = some n from e1))
    show (if m = n then (m, c) else (m, d)) :: _ = (m, d) :: ns.zip (ds.set i c)
    rw [if_neg hm]
    congr 1
    exact map_zip (i := i) (List.nodup_cons.mp hn).2 e1 (Nat.lt_of_succ_lt_succ e2)
theorem put_zip {α : Type} {n : Str} {c : α} {ns : List Str} {ds : List α} {i : Nat} (hn : ns.Nodup) (e : ns[i]? = some n) (hi : i < ds.length) : put (ns.zip ds) n c = ns.zip (ds.set i c) := by
  unfold put
  rw [if_pos, map_zip hn e hi]
  obtain ⟨d, ed⟩ : ∃ d, ds[i]? = some d := ⟨ds[i], List.getElem?_eq_getElem hi⟩
  have := look_mem (look_zip hn e ed)
  rw [List.any_eq_true]
  exact ⟨_, this, decide_eq_true rfl⟩
/-- the things of a row: their kinds -/
def rowTh (ns : List Str) (ks : List (Str × List Str)) : Ths := ns.zip ks
/-- world.do over any deed that stands -/
theorem do_gen {P : Program} {w : World} {K : PySem.W.Frag} {mg : Str → Option Value} {base : Heap} {C CS CW dP dA x s ct t : Addr} {L : List Addr} {tvs args : List V} {W W' : Ws} {word : Str} {ds : List PyData} {kinds : List Str} {R : Ws → List PyData → Ws → PyData → Prop} {d : PyData} {H : Hp} {Q : VK} {E' : XK}
    (hA : ActK P w K mg base C CS dP dA word kinds R) (hW : WoAt K L H CW x s tvs) (hS : StAt K L H C CS s ct W) (hl : W.cs.length ≤ 100) (al : Alive L H) (ht : SqT K (mask L H) t (.str word :: args)) (hd : DpAll K (mask L H) args ds) (hal : args.length ≤ 100) (hg : Paired GoodArg kinds ds) (hc : Paired (CheckArg W.th (ds.headD .none)) kinds ds) (hR : R W ds W' d)
    (k : ∀ v H', Chg [s, ct] H H' → WoAt K L H' CW x s tvs → StAt K L H' C CS s ct W' → Dp K (mask L H') v d → Q v H') : spDo P w K mg base C CS CW dP dA [.ref x, .ref t] H Q E' :=
  ⟨x, s, ct, t, L, tvs, W, W', word, args, ds, kinds, R, d, rfl, hW, hS, ht, hd, hal, hA, hg, hc, hl, al, hR, fun v H' c hS' hdv => k v H' c (hW.keep (c.inL hS.sL hS.cL).mask) hS' hdv⟩
theorem ThingAt.pool {K : PySem.W.Frag} {H : Hp} {C p q a : Addr} {n : Nat} {kind nm : Str} {parts : List Str} (P : PoolAt H p q n) (h : ThingAt K H C a kind nm parts) : ThingAt K (mask [p, q] H) C a kind nm parts := by
  obtain ⟨_, cs, b, c, e1, e2, _⟩ := P
  obtain ⟨dx, fs, t, h1, h2, h3, h4, h5⟩ := h
  have na : a ∉ [p, q] := fun m => by
    rcases List.mem_cons.mp m with z | m
    · rw [z, e1] at h1; cases h1
    · rw [List.mem_singleton.mp m, e2] at h1; cases h1
  refine ⟨dx, fs, t, by rw [mask_out na]; exact h1, h2, h3, h4, seqT_mask h5 fun b hb => ?_⟩
  rcases List.mem_cons.mp hb with z | m
  · rw [z]; rintro (h | ⟨o, h⟩) <;> rw [e1] at h <;> cases h
  · rw [List.mem_singleton.mp m]; rintro (h | ⟨o, h⟩) <;> rw [e2] at h <;> cases h
theorem ixN_nat {n j : Nat} (hj : j < n) : ixN n (j : Int) = some j := by
  unfold ixN
  rw [if_pos (by omega), if_pos (by omega)]
  simp
theorem flat_dp3 {vs : List V} {ds : List PyData} (h : Paired Flat vs ds) (hl : ds.length ≤ 1000000) : dp 3 (.list ds) := by
  have : ∀ {vs : List V} {ds : List PyData}, Paired Flat vs ds → ∀ d ∈ ds, dp 2 d := fun {vs ds} h => by
    induction h with
    | nil => intro d hd; cases hd
    | cons a t ih =>
      intro d hd
      rcases List.mem_cons.mp hd with rfl | hd
      · exact a.dp3 1
      · exact ih d hd
  have h2 := this h
  simp only [dp]
  exact ⟨hl, h2⟩
/-! ### the law's own: entries of a table -/
theorem look_at {k : Str} {v : Int} : ∀ {es : List (Str × Int)} {i : Nat}, (names es).Nodup → es[i]? = some (k, v) → look es k = some v
  | [], _, _, e => by simp at e
  | p :: r, 0, _, e => by
    obtain rfl := Option.some.inj e
    exact look_pos (p := (k, v)) rfl
  | p :: r, i + 1, hn, e => by
    have e' : r[i]? = some (k, v) := e
    have hm : p.1 ≠ k := fun q => (List.nodup_cons.mp (show (p.1 :: names r).Nodup from hn)).1 (by rw [q]; exact List.mem_map.mpr ⟨_, List.mem_of_getElem? e', rfl⟩)
    rw [look_neg (p := p) hm]
    exact look_at (List.nodup_cons.mp (show (p.1 :: names r).Nodup from hn)).2 e'
theorem look_no {k : Str} : ∀ {es : List (Str × Int)}, (∀ e ∈ es, e.1 ≠ k) → look es k = none
  | [], _ => rfl
  | p :: r, h => by
    rw [look_neg (p := p) (h _ List.mem_cons_self)]
    exact look_no fun e m => h e (List.mem_cons_of_mem _ m)
theorem map_no {k : Str} {v : Int} {es : List (Str × Int)} (h : k ∉ names es) : es.map (fun p => if p.1 = k then (p.1, v) else p) = es := by
  have : es.map (fun p => if p.1 = k then (p.1, v) else p) = es.map id := List.map_congr_left fun p m => if_neg fun q => h (by rw [← q]; exact List.mem_map.mpr ⟨_, m, rfl⟩)
  rw [this, List.map_id]
theorem put_at {k : Str} {v w : Int} : ∀ {es : List (Str × Int)} {i : Nat}, (names es).Nodup → es[i]? = some (k, w) → put es k v = es.take i ++ [(k, v)] ++ es.drop (i + 1) := by
  intro es i hn e
  have ha : (es.any fun p => decide (p.1 = k)) = true := List.any_eq_true.mpr ⟨_, List.mem_of_getElem? e, decide_eq_true rfl⟩
  unfold put
  rw [if_pos ha]
  clear ha
  induction es generalizing i with
  | nil => simp at e
  | cons p r ih =>
    have hn' : (p.1 :: names r).Nodup := hn
    match i, e with
    | 0, e =>
      obtain rfl := Option.some.inj e
      rw [List.map_cons, map_no (List.nodup_cons.mp hn').1]
      simp
    | i + 1, e =>
      have e' : r[i]? = some (k, w) := e
      have hm : p.1 ≠ k := fun q => (List.nodup_cons.mp hn').1 (by rw [q]; exact List.mem_map.mpr ⟨_, List.mem_of_getElem? e', rfl⟩)
      rw [List.map_cons, if_neg hm, ih (List.nodup_cons.mp hn').2 e']
      rfl
/-- a table's entries: unlike keys of the table -/
structure EsOk (ks : List Str) (es : List (Str × Int)) : Prop where
  nd : (names es).Nodup
  sub : ∀ x ∈ names es, x ∈ ks
theorem nd_len {α : Type} [DecidableEq α] : ∀ {a b : List α}, a.Nodup → (∀ x ∈ a, x ∈ b) → a.length ≤ b.length
  | [], _, _, _ => Nat.zero_le _
  | x :: r, b, hn, h => by
    have hx := h x List.mem_cons_self
    have hr := nd_len (a := r) (b := b.erase x) (List.nodup_cons.mp hn).2 fun y hy => (List.mem_erase_of_ne (fun q => (List.nodup_cons.mp hn).1 (by rw [← q]; exact hy))).mpr (h y (List.mem_cons_of_mem _ hy))
    rw [List.length_erase_of_mem hx] at hr
    have := List.length_pos_of_mem hx
    rw [List.length_cons]
    omega
theorem EsOk.len {ks : List Str} {es : List (Str × Int)} (h : EsOk ks es) (hk : ks.length ≤ 4) : es.length ≤ 4 := by
  have := nd_len h.nd h.sub
  unfold names at this
  rw [List.length_map] at this
  omega
theorem EsOk.tab {ks : List Str} {es : List (Str × Int)} (h : EsOk ks es) (hk : ks.length ≤ 4) : TabOk es := ⟨h.nd, by have := h.len hk; omega⟩
theorem EsOk.snoc {ks : List Str} {es : List (Str × Int)} {k : Str} {v : Int} (h : EsOk ks es) (m : k ∈ ks) (hn : look es k = none) : EsOk ks (es ++ [(k, v)]) := by
  have nm : k ∉ names es := fun q => by
    obtain ⟨w, e⟩ := look_some q
    rw [hn] at e; cases e
  have en : names (es ++ [(k, v)]) = names es ++ [k] := by unfold names; rw [List.map_append]; rfl
  refine ⟨?_, fun x hx => ?_⟩
  · rw [en]
    refine List.nodup_append.mpr ⟨h.nd, by simp, fun a ha b hb q => nm ?_⟩
    rw [List.mem_singleton.mp hb] at q
    rw [← q]; exact ha
  · rw [en] at hx
    rcases List.mem_append.mp hx with hx | hx
    · exact h.sub x hx
    · rw [List.mem_singleton.mp hx]; exact m
theorem EsOk.setD {ks : List Str} {es : List (Str × Int)} {k : Str} {v : Int} (h : EsOk ks es) (m : k ∈ ks) : EsOk ks (setD es k v) := by
  cases e : look es k with
  | some w => rw [setD_some e]; exact h
  | none => rw [(setD_none e).1]; exact h.snoc m e
theorem EsOk.put {ks : List Str} {es : List (Str × Int)} {k : Str} {v : Int} (h : EsOk ks es) (m : k ∈ ks) : EsOk ks (put es k v) := by
  cases e : look es k with
  | some w =>
    have en : names (Qp.put es k v) = names es := put_names e
    exact ⟨by rw [en]; exact h.nd, by rw [en]; exact h.sub⟩
  | none => rw [(setD_none (v := v) e).2]; exact h.snoc m e
theorem EsOk.drop {ks : List Str} {es : List (Str × Int)} {k : Str} (h : EsOk ks es) : EsOk ks (dropE es k) := by
  have s : (names (dropE es k)).Sublist (names es) := List.Sublist.map _ List.filter_sublist
  exact ⟨h.nd.sublist s, fun x hx => h.sub x (s.subset hx)⟩
theorem names_loadE : ∀ (n : Nat) (l : List Str), names (loadE n l) = l
  | _, [] => rfl
  | n, x :: r => by
    show x :: names (loadE (n + 1) r) = _
    rw [names_loadE]
theorem EsOk.load {ks ls : List Str} (n : Nat) (hk : ks.Nodup) : EsOk ks (loadE n (ks.filter fun k => decide (k ∈ ls))) := by
  refine ⟨?_, fun x hx => ?_⟩
  · rw [names_loadE]; exact hk.sublist List.filter_sublist
  · rw [names_loadE] at hx; exact (List.mem_filter.mp hx).1
theorem EsOk.nil {ks : List Str} : EsOk ks [] := ⟨.nil, fun _ h => (by cases h)⟩
/-- what the held dict says -/
def heldK (el : Addr) (sr : Nat) : List (Str × V) := [("entries", .ref el), ("serial", .int (sr : Int))]
theorem ne_es : ("entries" : Str) ≠ "serial" := by decide +kernel
theorem held_e {H : Hp} {D el : Addr} {sr : Nat} (e : H D = some (.dK (kvs (heldK el sr)))) : DGet H D (.str "entries") (some (.ref el)) := by
  have := DGet.k (k := Sum.inr ("entries" : Str)) e
  rw [valV_kvs] at this
  exact (show look (heldK el sr) "entries" = some (V.ref el) from look2a) ▸ this
theorem held_s {H : Hp} {D el : Addr} {sr : Nat} (e : H D = some (.dK (kvs (heldK el sr)))) : DGet H D (.str "serial") (some (.int (sr : Int))) := by
  have := DGet.k (k := Sum.inr ("serial" : Str)) e
  rw [valV_kvs] at this
  exact (show look (heldK el sr) "serial" = some (V.int (sr : Int)) from look2b ne_es) ▸ this
theorem held_pe {H : Hp} {D el : Addr} {sr : Nat} (e : H D = some (.dK (kvs (heldK el sr)))) (el' : Addr) : DPut H D (.str "entries") (.ref el') (upd H D (.dK (kvs (heldK el' sr)))) := by
  have := DPut.k (k := Sum.inr ("entries" : Str)) (v := .ref el') e (by show 2 < sizeLine; decide)
  rw [putK_kvs] at this
  exact (show put (heldK el sr) "entries" (.ref el') = heldK el' sr from put2a ne_es) ▸ this
theorem held_ps {H : Hp} {D el : Addr} {sr : Nat} (e : H D = some (.dK (kvs (heldK el sr)))) : DPut H D (.str "serial") (.int ((sr : Int) + 1)) (upd H D (.dK (kvs (heldK el (sr + 1))))) := by
  have := DPut.k (k := Sum.inr ("serial" : Str)) (v := .int ((sr : Int) + 1)) e (by show 2 < sizeLine; decide)
  rw [putK_kvs] at this
  exact (show put (heldK el sr) "serial" (.int ((sr : Int) + 1)) = heldK el (sr + 1) from put2b ne_es) ▸ this
/-- a list of entries that stays -/
def EntL (K : PySem.W.Frag) (L : List Addr) (H : Hp) (el : Addr) (es : List (Str × Int)) : Prop := el ∉ L ∧ ∃ xs, H el = some (.lst xs) ∧ DpAll K (mask L H) xs (es.map entD)
theorem EntL.chg {K : PySem.W.Frag} {L l : List Addr} {H H' : Hp} {el : Addr} {es : List (Str × Int)} (h : EntL K L H el es) (c : Chg l H H') (hl : ∀ x ∈ l, x ∈ L) : EntL K L H' el es := by
  obtain ⟨h1, xs, h2, h3⟩ := h
  exact ⟨h1, xs, c _ _ (fun m => h1 (hl _ m)) h2, dpAll_same (c.more hl).mask _ _ h3⟩
theorem EntL.same {K : PySem.W.Frag} {L : List Addr} {H H' : Hp} {el : Addr} {es : List (Str × Int)} (h : EntL K L H el es) (c : Same H H') : EntL K L H' el es := h.chg (Chg.of_same (l := []) c) fun _ m => (by cases m)
def AtR (es : List (Str × Int)) (k : Str) (j : Int) : Prop := (j = -1 ∧ look es k = none) ∨ ∃ (i : Nat) (v : Int), j = (i : Int) ∧ es[i]? = some (k, v) ∧ look es k = some v
def spEntry (K : PySem.W.Frag) : Sp := fun vs H Q _ => ∃ (L : List Addr) (el : Addr) (es : List (Str × Int)) (k : Str), vs = [.ref el, .str k] ∧ EntL K L H el es ∧ (names es).Nodup ∧ es.length ≤ 50 ∧
  ∀ j, AtR es k j → Q (.int j) H
section
variable {P : Program} {w : World} {K : PySem.W.Frag} {mg : Str → Option Value} {base : Heap}
theorem scEn : FnScope ["entries", "key", "k"] ["entries", "key"] (defScope sEntry) := ⟨rfl, rfl, rfl, by decide +kernel, rfl, by decide +kernel, by decide +kernel⟩
theorem ok_entry {f : Addr} {fd : FuncData} (F : Fun K "_law_entry" "_law_entry" sEntry f fd) (B : Bts mg) : FnOk P w K mg base CX0 1 f fd ["entries", "key"] (spEntry K) := by
  refine F.ok scEn (fun vs H Q E h => ?_) (fun cdv A outer s0 H vs Q E hr h => ?_)
  · obtain ⟨L, el, es, k, rfl, _⟩ := h
    rfl
  · obtain ⟨L, el, es, k, rfl, ⟨_, xs, eL, hx⟩, hn, hl, kk⟩ := h
    refine ⟨_, pss_cons (ps_for PassesOwn.never rfl (pi_range1 (by rfl) B.range (pa_cons (pe_callB call_len_seq (by rfl) B.len PySem.boot_len (pa_cons (pv 0) pa_nil)) pa_nil)) (pg_name (i := 2) scEn.nd rfl (.inl rfl))
        (pss_one (ps_if (pt_cmpR op_eq (pe_ix (ixK (K := K) (r := rIxT) ix_tup) (pe_ix ix_list (pv 0) (pv 2) (fun _ _ => rfl)) pe_int (fun _ _ => rfl)) (pv 1) (nomark _))
            (pss_one (ps_ret (pv 2)))
            pss_nil)))
      (pss_one (ps_ret (pe_un un_neg pe_int))), ?_⟩
    have lx := dpAll_len hx
    rw [List.length_map] at lx
    refine ⟨_, rfl, el, _, rfl, .inl (SqL.of eL), xs.length, rfl, by rw [lx]; omega, by rw [lx]; omega, for_range (lo := 0) (n := xs.length) (fun i σ H' => ∃ y, σ = [some (.ref el), some (.str k), y] ∧ H' = H ∧ ∀ e ∈ es.take i, e.1 ≠ k) ⟨none, rfl, rfl, fun _ h => (by cases h)⟩ ?_ ?_⟩
    · rintro i σ H' hi ⟨y, rfl, rfl, hno⟩
      obtain ⟨v, ev⟩ : ∃ v, xs[i]? = some v := ⟨xs[i], List.getElem?_eq_getElem hi⟩
      obtain ⟨dd, ed, hd⟩ := dpAll_at hx ev
      rw [List.getElem?_map] at ed
      obtain ⟨e, ee, rfl⟩ := Option.map_eq_some_iff.mp ed
      obtain ⟨t, ys, rfl, ht, hy⟩ := dp_tup hd
      obtain ⟨y1, ys, rfl, g1, hy⟩ := dpAll_cons hy
      obtain ⟨y2, ys, rfl, g2, hy⟩ := dpAll_cons hy
      cases g1
      refine ⟨_, rfl, _, rfl, el, _, _, _, rfl, rfl, SqL.of eL, (by rw [Int.zero_add]; exact atI_nat ev), t, _, 0, _, rfl, rfl, Same.seqT (mask_sub _ _) ht, atI_nat (j := 0) rfl, ?_⟩
      refine ⟨_, rfl, rfl, _, rfl, ?_⟩
      by_cases q : e.1 = k
      · rw [show decide (V.str e.1 = V.str k) = true from decide_eq_true (by rw [q])]
        refine iteT ⟨_, rfl, ?_⟩
        rw [Int.zero_add]
        have ee' : es[i]? = some (k, e.2) := by rw [ee, ← q]
        exact kk _ (.inr ⟨i, e.2, rfl, ee', look_at hn ee'⟩)
      · rw [show decide (V.str e.1 = V.str k) = false from decide_eq_false fun z => q (by injection z)]
        refine iteF ⟨_, rfl, rfl, fun e' he' => ?_⟩
        rw [List.take_add_one, ee] at he'
        rcases List.mem_append.mp he' with he' | he'
        · exact hno e' he'
        · rw [List.mem_singleton.mp he']; exact q
    · rintro σ H' ⟨y, rfl, rfl, hno⟩
      rw [lx, List.take_length] at hno
      exact ⟨1, rfl, kk _ (.inl ⟨rfl, look_no hno⟩)⟩
end
/-! ### the law's own: a step -/
inductive StepR (ks : List Str) (es : List (Str × Int)) (sr : Nat) : Str → List PyData → List (Str × Int) → Nat → PyData → Prop where
  | size : StepR ks es sr "size" [] es sr (.int (es.length : Nat))
  | keys : StepR ks es sr "keys" [] es sr (.tuple (es.map fun e => .str e.1))
  | wipe : StepR ks es sr "wipe" [] [] sr .none
  | load (ls : List Str) : StepR ks es sr "load" [.tuple (ls.map .str)] (loadE sr (ks.filter fun k => decide (k ∈ ls))) (sr + (ks.filter fun k => decide (k ∈ ls)).length) .none
  | has (k : Str) : StepR ks es sr "has" [.str k] es sr (.bool (look es k).isSome)
  | peek (k : Str) : StepR ks es sr "peek" [.str k] es sr (match look es k with | some v => .int v | none => .none)
  | drop (k : Str) : StepR ks es sr "drop" [.str k] (dropE es k) sr .none
  | get (k : Str) : StepR ks es sr "get" [.str k] (setD es k 0) sr (.int ((look es k).getD 0))
  | put (k : Str) : StepR ks es sr "put" [.str k] (put es k ((sr + 1 : Nat) : Int)) (sr + 1) .none
  | fill (k : Str) : StepR ks es sr "fill" [.str k] (setD es k ((sr + 1 : Nat) : Int)) (sr + 1) .none
/-- what a step is given -/
structure SPre (K : PySem.W.Frag) (L : List Addr) (H : Hp) (D el a kl : Addr) (es : List (Str × Int)) (sr : Nat) (word x : Str) (args : List V) (rest : List PyData) (ks : List Str) : Prop where
  eD : H D = some (.dK (kvs (heldK el sr)))
  eL : EntL K L H el es
  dd : SqT K (mask L H) a (.str word :: .str x :: args)
  ar : DpAll K (mask L H) args rest
  kk : SqL K (mask L H) kl (ks.map .str)
  al : Alive L H
theorem SPre.same {K : PySem.W.Frag} {L : List Addr} {H H' : Hp} {D el a kl : Addr} {es : List (Str × Int)} {sr : Nat} {word x : Str} {args : List V} {rest : List PyData} {ks : List Str} (h : SPre K L H D el a kl es sr word x args rest ks) (c : Same H H') : SPre K L H' D el a kl es sr word x args rest ks :=
  ⟨c _ _ h.eD, h.eL.same c, Same.seqT (mask_same c) h.dd, dpAll_same (mask_same c) _ _ h.ar, (mask_same c).seq h.kk, h.al.same c⟩
def spStep (K : PySem.W.Frag) : Sp := fun vs H Q _ => ∃ (L : List Addr) (D el a kl : Addr) (es es' : List (Str × Int)) (sr sr' : Nat) (word x : Str) (args : List V) (rest : List PyData) (ks : List Str) (d : PyData), vs = [.ref D, .ref a, .ref kl] ∧ D ∈ L ∧ SPre K L H D el a kl es sr word x args rest ks ∧
  ks.length ≤ 4 ∧ EsOk ks es ∧ StepR ks es sr word rest es' sr' d ∧ ∀ v H' el', Chg [D] H H' → H' D = some (.dK (kvs (heldK el' sr'))) → EntL K L H' el' es' → Dp K (mask L H') v d → Q v H'
theorem args0 {K : PySem.W.Frag} {M : Hp} {args : List V} {k : Str} (h : DpAll K M args [.str k]) : args = [.str k] := args1 h
theorem inW {x : Str} {xs : List Str} {vs : List V} (h : vs = xs.map V.str) : inV (.str x) vs = decide (x ∈ xs) := by rw [h]; exact inV_strT
section
variable {P : Program} {w : World} {K : PySem.W.Frag} {mg : Str → Option Value} {base : Heap}
theorem scSt : FnScope ["held", "deed", "keys", "entries", "word", "entry", "key", "at"] ["held", "deed", "keys"] (defScope sStep) := ⟨rfl, rfl, rfl, by decide +kernel, rfl, by decide +kernel, by decide +kernel⟩
theorem ok_step {f fE : Addr} {fd fdE : FuncData} (F : Fun K "_law_step" "_law_step" sStep f fd) (B : Bts mg) (GE : FnOk P w K mg base CX0 1 fE fdE ["entries", "key"] (spEntry K)) (mE : mg "_law_entry" = some (.ref fE)) (kE : PySem.W.keepIn K (.ref fE) = true) (bE : Binds K fdE ["entries", "key"] []) : FnOk P w K mg base CX0 2 f fd ["held", "deed", "keys"] (spStep K) := by
  refine F.ok scSt (fun vs H Q E h => ?_) (fun cdv A outer s0 H vs Q E hr h => ?_)
  · obtain ⟨L, D, el, a, kl, es, es', sr, sr', word, x, args, rest, ks, d, rfl, _⟩ := h
    rfl
  · obtain ⟨L, D, el, a, kl, es, es', sr, sr', word, x, args, rest, ks, d, rfl, mD, hp, hks, ho, hR, kk⟩ := h
    have hu := hu_of hr
    refine ⟨_, pss_cons (ps_set (i := 3) scSt.nd rfl (.inl rfl) (pe_dget hu (pv 0) pe_str (fun _ _ => rfl)))
      (pss_cons (ps_set (i := 4) scSt.nd rfl (.inl rfl) (pe_ix ix_tup (pv 1) pe_int (fun _ _ => rfl)))
      (pss_cons (ps_if (pt_cmpR op_in_seq (pv 4) (pe_tup (pa_cons pe_str (pa_cons pe_str pa_nil))) (by rfl))
        (pss_one (ps_ret (pe_ifExp (pt_cmpR op_eq (pv 4) pe_str (nomark _)) (pe_callB call_len_seq (by rfl) B.len PySem.boot_len (pa_cons (pv 3) pa_nil)) (pe_callTy call_tupS (by rfl) B.tuple (by decide +kernel) (pa_cons (pe_lc (own := [("entry", 5)]) (g := gName 5) (tt := tYes) rfl scSt.nd (pi_list (pv 3)) (blkOk_by (N := ["held", "deed", "keys", "entries", "word", "entry", "key", "at"]) (sc := defScope sStep) (by decide +kernel)) (fun _ _ _ _ _ => (pg_name (i := 5) scSt.nd rfl (.inl rfl))) (fun _ _ _ _ _ => pts_nil) (fun _ _ _ _ _ => (pe_ix (ixK (K := K) (r := rIxT) ix_tup) (pv 5) pe_int (fun _ _ => rfl)))) pa_nil)))))
        pss_nil)
      (pss_cons (ps_if (pt_cmpR op_in_seq (pv 4) (pe_tup (pa_cons pe_str (pa_cons pe_str pa_nil))) (by rfl))
        (pss_cons (ps_set (i := 3) scSt.nd rfl (.inl rfl) (pe_lst pa_nil))
          (C8.pss_cut (ps_if (pt_cmpR op_eq (pv 4) pe_str (nomark _))
            (pss_one (ps_for PassesOwn.never rfl (pi_list (pv 2)) (pg_name (i := 6) scSt.nd rfl (.inl rfl))
                (pss_one (ps_if (pt_cmpR op_in_seq (pv 6) (pe_ix ix_tup (pv 1) pe_int (fun _ _ => rfl)) (by rfl))
                    (pss_cons (ps_daug hu (pv 0) pe_str pe_int in_add (by intros; rfl))
                      (pss_one (ps_expr (pe_bm PySem.F.plainAttrs_list PySem.F.slot_list_append PySem.F.type_list_append mt_append (pv 3) (pa_cons (pe_tup (pa_cons (pv 6) (pa_cons (pe_dget hu (pv 0) pe_str (fun _ _ => rfl)) pa_nil))) pa_nil)))))
                    pss_nil))))
            pss_nil)
          (pss_cons (ps_dput hu (pv 0) pe_str (pv 3) rfl)
          (pss_one (ps_ret pe_non)))))
        pss_nil)
      (pss_cons (ps_set (i := 7) scSt.nd rfl (.inl rfl) (pe_call GE hr (by rfl) mE kE bE .nil pass0 (pa_cons (pv 3) (pa_cons (pe_ix ix_tup (pv 1) pe_int (fun _ _ => rfl)) pa_nil))))
      (pss_cons (ps_if (pt_cmpR op_in_seq (pv 4) (pe_tup (pa_cons pe_str (pa_cons pe_str pa_nil))) (by rfl))
        (pss_one (ps_ret (pe_ifExp (pt_cmpR op_eq (pv 4) pe_str (nomark _)) (pe_cmpR op_ge (pv 7) pe_int (nomark _)) (pe_ifExp (pt_cmpR op_ge (pv 7) pe_int (nomark _)) (pe_ix (ixK (K := K) (r := rIxT) ix_tup) (pe_ix ix_list (pv 3) (pv 7) (fun _ _ => rfl)) pe_int (fun _ _ => rfl)) pe_non))))
        pss_nil)
      (pss_cons (ps_if (pt_cmpR op_eq (pv 4) pe_str (nomark _))
        (pss_cons (ps_dput hu (pv 0) pe_str (pe_lc (own := [("entry", 5)]) (g := gName 5) rfl scSt.nd (pi_list (pv 3)) (blkOk_by (N := ["held", "deed", "keys", "entries", "word", "entry", "key", "at"]) (sc := defScope sStep) (by decide +kernel)) (fun _ _ _ _ _ => (pg_name (i := 5) scSt.nd rfl (.inl rfl))) (fun _ _ _ _ _ => pts_one (pt_cmpR op_ne (pe_ix (ixK (K := K) (r := rIxT) ix_tup) (pv 5) pe_int (fun _ _ => rfl)) (pe_ix (ixK (K := K) (r := rIxT) ix_tup) (pv 1) pe_int (fun _ _ => rfl)) (nomark _))) (fun _ _ _ _ _ => (pv 5))) rfl)
          (pss_one (ps_ret pe_non)))
        pss_nil)
      (pss_cons (ps_if (pt_cmpR op_eq (pv 4) pe_str (nomark _))
        (pss_cons (ps_if (pt_cmpR op_ge (pv 7) pe_int (nomark _))
            (pss_one (ps_ret (pe_ix (ixK (K := K) (r := rIxT) ix_tup) (pe_ix ix_list (pv 3) (pv 7) (fun _ _ => rfl)) pe_int (fun _ _ => rfl))))
            pss_nil)
          (pss_cons (ps_dput hu (pv 0) pe_str (pe_op op_cat (pv 3) (pe_lst (pa_cons (pe_tup (pa_cons (pe_ix ix_tup (pv 1) pe_int (fun _ _ => rfl)) (pa_cons pe_int pa_nil))) pa_nil))) rfl)
          (pss_one (ps_ret pe_int))))
        pss_nil)
      (pss_cons (ps_daug hu (pv 0) pe_str pe_int in_add (by intros; rfl))
      (C8.pss_cut (ps_if (pt_cmpR op_lt (pv 7) pe_int (nomark _))
        (pss_one (ps_dput hu (pv 0) pe_str (pe_op op_cat (pv 3) (pe_lst (pa_cons (pe_tup (pa_cons (pe_ix ix_tup (pv 1) pe_int (fun _ _ => rfl)) (pa_cons (pe_dget hu (pv 0) pe_str (fun _ _ => rfl)) pa_nil))) pa_nil))) rfl))
        (pss_one (ps_if (pt_cmpR op_eq (pv 4) pe_str (nomark _))
            (pss_one (ps_dput hu (pv 0) pe_str (pe_op op_cat (pe_op op_cat (pe_slice sl_list (pv 3) po_none (po_some (pv 7))) (pe_lst (pa_cons (pe_tup (pa_cons (pe_ix ix_tup (pv 1) pe_int (fun _ _ => rfl)) (pa_cons (pe_dget hu (pv 0) pe_str (fun _ _ => rfl)) pa_nil))) pa_nil))) (pe_slice sl_list (pv 3) (po_some (pe_op op_add (pv 7) pe_int)) po_none)) rfl))
            pss_nil)))
      (pss_one (ps_ret pe_non))))))))))), ?_⟩
    refine ⟨_, rfl, D, _, rfl, held_e hp.eD, ?_⟩
    refine ⟨_, rfl, a, _, 0, _, rfl, rfl, Same.seqT (mask_sub _ _) hp.dd, atI_nat (j := 0) rfl, ?_⟩
    refine ⟨_, rfl, by show 2 ≤ sizeLine; decide, fun t1 nt1 => ?_⟩
    have hp1 := hp.same (same_new (o := .tup [.str "size", .str "keys"]) nt1)
    have c1 : Chg [D] H (upd H t1 (.tup [.str "size", .str "keys"])) := Chg.new nt1
    have et1 : SqT K (upd H t1 (.tup [.str "size", .str "keys"])) t1 [.str "size", .str "keys"] := SqT.of upd_same
    generalize upd H t1 (.tup [.str "size", .str "keys"]) = H1 at *
    refine ⟨t1, _, rfl, .inr et1, rfl, rfl, _, rfl, ?_⟩
    show (if inV (V.str word) [.str "size", .str "keys"] = true then _ else _)
    rw [inW (xs := ["size", "keys"]) (vs := [V.str "size", V.str "keys"]) rfl]
    obtain ⟨nL, xs, eL, hx⟩ := hp1.eL
    have lx := dpAll_len hx
    rw [List.length_map] at lx
    have les := ho.len hks
    by_cases w1 : word ∈ (["size", "keys"] : List Str)
    · rw [decide_eq_true w1]
      refine iteT ?_
      cases hR with
      | size =>
        refine ⟨_, rfl, rfl, _, rfl, iteT ⟨_, rfl, el, _, rfl, .inl (SqL.of eL), ?_⟩⟩
        rw [lx]
        exact kk _ _ el c1 hp1.eD hp1.eL (.int _)
      | keys =>
        refine ⟨_, rfl, rfl, _, rfl, iteF ⟨_, rfl, el, rfl, ⟨_, SqL.of eL⟩, fun E0 nE => ?_⟩⟩
        refine lc_list (K := K) (a := el) (xs := xs) (fun i H2 => H2 E0 = some (.lst ((es.take i).map fun e => V.str e.1)) ∧ Same H1 H2) ⟨upd_same, same_new nE⟩ (fun i H2 _ hI => SqL.of (hI.2 _ _ eL)) (fun i y H2 hy hI => ?_) (fun H2 hI => ?_)
        · obtain ⟨eD, s2⟩ := hI
          obtain ⟨dd, ed, hdd⟩ := dpAll_at hx hy
          rw [List.getElem?_map] at ed
          obtain ⟨en, een, rfl⟩ := Option.map_eq_some_iff.mp ed
          obtain ⟨t, ys, rfl, ht1, hy1⟩ := dp_tup hdd
          obtain ⟨y1, ys, rfl, g1, hy1⟩ := dpAll_cons hy1
          cases g1
          refine ⟨rfl, ?_⟩
          refine ⟨_, rfl, t, _, 0, _, rfl, rfl, Same.seqT s2 (Same.seqT (mask_sub _ _) ht1), atI_nat (j := 0) rfl, ?_⟩
          refine ⟨_, eD, small1000 (n := ((es.take i).map fun e => V.str e.1).length) (by rw [List.length_map, List.length_take]; omega), ?_, fun b o eb => ?_⟩
          · rw [upd_same, List.take_add_one, een, List.map_append]; rfl
          · rw [upd_ne (ne_of_none eb nE)]; exact s2 b o eb
        · obtain ⟨eD, s2⟩ := hI
          rw [lx, List.take_length] at eD
          refine ⟨⟨E0, _, rfl, .inl ⟨SqL.of eD, fun l nl => ?_⟩⟩⟩
          have s3 := s2.trans (same_new (o := .tup (es.map fun e => V.str e.1)) nl)
          have hp3 := hp1.same s3
          have all : ∀ (M : Hp) (r : List (Str × Int)), DpAll K M (r.map fun e => V.str e.1) (r.map fun e => PyData.str e.1) := fun M r => by
            induction r with
            | nil => exact .nil
            | cons e r ih => exact .cons (.str _) ih
          exact kk _ _ el (c1.trans (Chg.of_same s3)) hp3.eD hp3.eL (.tup (SqT.of (mask_upd ((hp1.al.same s2).not nl))) (all _ _))
      | wipe => exact absurd w1 (by decide +kernel)
      | load ls => exact absurd w1 (by decide +kernel)
      | has k => exact absurd w1 (by decide +kernel)
      | peek k => exact absurd w1 (by decide +kernel)
      | drop k => exact absurd w1 (by decide +kernel)
      | get k => exact absurd w1 (by decide +kernel)
      | put k => exact absurd w1 (by decide +kernel)
      | fill k => exact absurd w1 (by decide +kernel)
    rw [decide_eq_false w1]
    refine iteF ?_
    refine ⟨_, rfl, by show 2 ≤ sizeLine; decide, fun t2 nt2 => ?_⟩
    have hp2 := hp1.same (same_new (o := .tup [.str "wipe", .str "load"]) nt2)
    have c2 : Chg [D] H (upd H1 t2 (.tup [.str "wipe", .str "load"])) := c1.trans (Chg.new nt2)
    have et2 : SqT K (upd H1 t2 (.tup [.str "wipe", .str "load"])) t2 [.str "wipe", .str "load"] := SqT.of upd_same
    clear c1 et1 hp1 eL hx
    generalize upd H1 t2 (.tup [.str "wipe", .str "load"]) = H2 at *
    refine ⟨t2, _, rfl, .inr et2, rfl, rfl, _, rfl, ?_⟩
    show (if inV (V.str word) [.str "wipe", .str "load"] = true then _ else _)
    rw [inW (xs := ["wipe", "load"]) (vs := [V.str "wipe", V.str "load"]) rfl]
    by_cases w2 : word ∈ (["wipe", "load"] : List Str)
    · rw [decide_eq_true w2]
      refine iteT ?_
      refine ⟨by show 0 ≤ sizeLine; decide, fun E0 nE => ?_⟩
      have nEL : E0 ∉ L := hp2.al.not nE
      have nED : E0 ≠ D := fun q => nEL (by rw [q]; exact mD)
      have nEH : H E0 = none := c2.free nE fun m => nED (List.mem_singleton.mp m)
      have s3 := same_new (o := .lst []) nE
      have hp3 := hp2.same s3
      have c3 : Chg [D] H (upd H2 E0 (.lst [])) := c2.trans (Chg.of_same s3)
      have eE3 : (upd H2 E0 (.lst [])) E0 = some (.lst []) := upd_same
      have sm : Same (mask L H2) (mask (E0 :: L) (upd H2 E0 (.lst []))) := mask_more nE
      have al3 : Alive (E0 :: L) (upd H2 E0 (.lst [])) := fun z hz => by
        rcases List.mem_cons.mp hz with rfl | hz
        · exact ⟨_, upd_same⟩
        · exact hp3.al z hz
      have hkk := sm.seq hp2.kk
      have hdd := Same.seqT sm hp2.dd
      have har := dpAll_same sm _ _ hp2.ar
      generalize upd H2 E0 (.lst []) = H3 at *
      refine ⟨fun σ H' => ∃ y6 el0, σ = [some (.ref D), some (.ref a), some (.ref kl), some (.ref E0), some (.str word), none, y6, none] ∧ H' D = some (.dK (kvs (heldK el0 sr'))) ∧ EntL K L H' E0 es' ∧ Chg [D] H H' ∧ d = .none, ?_, ?_⟩
      · cases hR with
        | wipe => exact ⟨_, rfl, rfl, _, rfl, iteF ⟨none, el, rfl, hp3.eD, ⟨nEL, [], eE3, .nil⟩, c3, rfl⟩⟩
        | load ls =>
          obtain ⟨v1, r, rfl, g1, ha⟩ := dpAll_cons har
          obtain rfl := dpAll_nil ha
          obtain ⟨tk, xk, rfl, htk, hxk⟩ := dp_tup g1
          have hxk : xk = ls.map V.str := by
            have go : ∀ {xs : List V} {ks : List Str}, DpAll K (mask (E0 :: L) H3) xs (ks.map .str) → xs = ks.map V.str := by
              intro xs ks h
              induction ks generalizing xs with
              | nil => exact dpAll_nil h
              | cons k r ih =>
                obtain ⟨v, xs, rfl, h1, h2⟩ := dpAll_cons h
                cases h1
                rw [ih h2]; rfl
            exact go hxk
          subst hxk
          refine ⟨_, rfl, rfl, _, rfl, iteT ⟨_, rfl, kl, rfl, ⟨_, (mask_sub _ _).seq hkk⟩, for_list (K := K) (a := kl) (xs := ks.map V.str) (fun j σ H' => ∃ y6 xs', σ = [some (.ref D), some (.ref a), some (.ref kl), some (.ref E0), some (.str "load"), none, y6, none] ∧ H' E0 = some (.lst xs') ∧ xs'.length ≤ j ∧
              DpAll K (mask (E0 :: L) H') xs' ((loadE sr ((ks.take j).filter fun k => decide (k ∈ ls))).map entD) ∧ H' D = some (.dK (kvs (heldK el (sr + ((ks.take j).filter fun k => decide (k ∈ ls)).length)))) ∧ Chg [D] H H' ∧ Same (mask (E0 :: L) H3) (mask (E0 :: L) H') ∧ Alive (E0 :: L) H')
            ⟨none, [], rfl, eE3, Nat.zero_le _, .nil, hp3.eD, c3, .refl _, al3⟩ (fun j σ H' _ ⟨_, _, _, _, _, _, _, _, h, _⟩ => (mask_sub _ _).seq (h.seq hkk)) (fun j y σ H' hy hI => ?_) (fun σ H' hI => ?_)⟩⟩
          · obtain ⟨y6, xs', rfl, eE, hl', hx', eD', cc, ss, aa⟩ := hI
            rw [List.getElem?_map] at hy
            obtain ⟨k, ek, rfl⟩ := Option.map_eq_some_iff.mp hy
            have hsn := filter_snoc (ks := ls) ek
            have hj : j < 4 := by have := (List.getElem?_eq_some_iff.mp ek).1; omega
            refine ⟨_, rfl, _, rfl, a, _, 2, _, rfl, rfl, Same.seqT (mask_sub _ _) (Same.seqT ss hdd), atI_nat (j := 2) rfl, tk, _, rfl, .inr (Same.seqT (mask_sub _ _) (Same.seqT ss htk)), rfl, flat_strsT _, _, rfl, ?_⟩
            rw [inV_strT]
            by_cases hk : k ∈ ls
            case neg =>
              rw [decide_eq_false hk]
              rw [decide_eq_false hk, if_neg (by decide), List.append_nil] at hsn
              refine iteF ⟨_, xs', rfl, eE, Nat.le_succ_of_le hl', ?_, ?_, cc, ss, aa⟩
              · rw [hsn]; exact hx'
              · rw [hsn]; exact eD'
            rw [decide_eq_true hk]
            rw [decide_eq_true hk, if_pos rfl] at hsn
            refine iteT ⟨_, rfl, D, _, rfl, held_s eD', _, _, rfl, rfl, _, held_ps eD', ?_⟩
            have eD2 : (upd H' D (.dK (kvs (heldK el (sr + ((ks.take j).filter fun k => decide (k ∈ ls)).length + 1))))) D = some (.dK (kvs (heldK el (sr + ((ks.take j).filter fun k => decide (k ∈ ls)).length + 1)))) := upd_same
            have eE2 : (upd H' D (.dK (kvs (heldK el (sr + ((ks.take j).filter fun k => decide (k ∈ ls)).length + 1))))) E0 = some (.lst xs') := by rw [upd_ne nED]; exact eE
            have m2 : Same (mask (E0 :: L) H') (mask (E0 :: L) (upd H' D (.dK (kvs (heldK el (sr + ((ks.take j).filter fun k => decide (k ∈ ls)).length + 1)))))) := mask_at (List.mem_cons_of_mem _ mD)
            have cc2 : Chg [D] H (upd H' D (.dK (kvs (heldK el (sr + ((ks.take j).filter fun k => decide (k ∈ ls)).length + 1))))) := cc.trans (Chg.upd List.mem_cons_self)
            have aa2 : Alive (E0 :: L) (upd H' D (.dK (kvs (heldK el (sr + ((ks.take j).filter fun k => decide (k ∈ ls)).length + 1))))) := aa.upd
            generalize upd H' D (.dK (kvs (heldK el (sr + ((ks.take j).filter fun k => decide (k ∈ ls)).length + 1)))) = H4 at *
            refine ⟨_, rfl, .inl ⟨rfl, _, SqL.of eE2⟩, _, rfl, _, rfl, D, _, rfl, held_s eD2, by show 2 ≤ sizeLine; decide, fun t nt => ?_⟩
            have ntL : t ∉ E0 :: L := aa2.not nt
            have st := same_new (o := .tup [.str k, .int ((sr + ((ks.take j).filter fun k => decide (k ∈ ls)).length + 1 : Nat) : Int)]) nt
            have et : (upd H4 t (.tup [.str k, .int ((sr + ((ks.take j).filter fun k => decide (k ∈ ls)).length + 1 : Nat) : Int)])) t = some (.tup [.str k, .int ((sr + ((ks.take j).filter fun k => decide (k ∈ ls)).length + 1 : Nat) : Int)]) := upd_same
            generalize upd H4 t (.tup [.str k, .int ((sr + ((ks.take j).filter fun k => decide (k ∈ ls)).length + 1 : Nat) : Int)]) = H5 at *
            refine ⟨E0, _, .ref t, rfl, rfl, st _ _ eE2, small1000 (by omega), ?_⟩
            have m5 : Same (mask (E0 :: L) H') (mask (E0 :: L) (upd H5 E0 (.lst (xs' ++ [.ref t])))) := (m2.trans (mask_same st)).trans (mask_at List.mem_cons_self)
            refine ⟨_, xs' ++ [.ref t], rfl, upd_same, by rw [List.length_append]; show xs'.length + 1 ≤ _; omega, ?_, ?_, fun b o hb eb => ?_, ss.trans m5, (aa2.same st).upd⟩
            · rw [hsn, loadE_snoc, List.map_append]
              refine dpAll_app (dpAll_same m5 _ _ hx') (.cons (.tup (SqT.of ?_) (.cons (.str _) (.cons (.int _) .nil))) .nil)
              rw [mask_out ntL, upd_ne fun q => ntL (by rw [q]; exact List.mem_cons_self)]
              exact et
            · rw [hsn, List.length_append, upd_ne nED.symm]
              exact st _ _ eD2
            · rw [upd_ne (fun q => by rw [q, nEH] at eb; cases eb)]
              exact st _ _ (cc2 _ _ hb eb)
          · obtain ⟨y6, xs', rfl, eE, hl', hx', eD', cc, ss, aa⟩ := hI
            rw [List.length_map, List.take_length] at hx' eD'
            exact ⟨y6, el, rfl, eD', ⟨nEL, xs', eE, dpAll_same mask_less _ _ hx'⟩, cc, rfl⟩
        | size => exact absurd w2 (by decide +kernel)
        | keys => exact absurd w2 (by decide +kernel)
        | has k => exact absurd w2 (by decide +kernel)
        | peek k => exact absurd w2 (by decide +kernel)
        | drop k => exact absurd w2 (by decide +kernel)
        | get k => exact absurd w2 (by decide +kernel)
        | put k => exact absurd w2 (by decide +kernel)
        | fill k => exact absurd w2 (by decide +kernel)
      · rintro σ H' ⟨y6, el0, rfl, eD', eL', cc, rfl⟩
        refine ⟨_, rfl, _, rfl, D, _, rfl, held_pe eD' E0, ?_⟩
        exact kk .non _ E0 (cc.trans (Chg.upd List.mem_cons_self)) upd_same (eL'.chg (Chg.upd (l := [D]) List.mem_cons_self) fun x hx => by rw [List.mem_singleton.mp hx]; exact mD) .non
    rw [decide_eq_false w2]
    refine iteF ?_
    obtain ⟨k, rfl⟩ : ∃ k, rest = [.str k] := by
      cases hR with
      | size => exact absurd (by decide +kernel) w1
      | keys => exact absurd (by decide +kernel) w1
      | wipe => exact absurd (by decide +kernel) w2
      | load ls => exact absurd (by decide +kernel) w2
      | has k => exact ⟨k, rfl⟩
      | peek k => exact ⟨k, rfl⟩
      | drop k => exact ⟨k, rfl⟩
      | get k => exact ⟨k, rfl⟩
      | put k => exact ⟨k, rfl⟩
      | fill k => exact ⟨k, rfl⟩
    obtain rfl := args0 hp2.ar
    refine ⟨_, rfl, _, rfl, a, _, 2, _, rfl, rfl, Same.seqT (mask_sub _ _) hp2.dd, atI_nat (j := 2) rfl, L, el, es, k, rfl, hp2.eL, ho.nd, by omega, fun j hj => ?_⟩
    refine ⟨_, rfl, by show 2 ≤ sizeLine; decide, fun t3 nt3 => ?_⟩
    have hp3 := hp2.same (same_new (o := .tup [.str "has", .str "peek"]) nt3)
    have c3 : Chg [D] H (upd H2 t3 (.tup [.str "has", .str "peek"])) := c2.trans (Chg.new nt3)
    have et3 : SqT K (upd H2 t3 (.tup [.str "has", .str "peek"])) t3 [.str "has", .str "peek"] := SqT.of upd_same
    clear c2 et2 hp2
    generalize upd H2 t3 (.tup [.str "has", .str "peek"]) = H3 at *
    refine ⟨t3, _, rfl, .inr et3, rfl, rfl, _, rfl, ?_⟩
    show (if inV (V.str word) [.str "has", .str "peek"] = true then _ else _)
    rw [inW (xs := ["has", "peek"]) (vs := [V.str "has", V.str "peek"]) rfl]
    obtain ⟨nL, xs, eL, hx⟩ := hp3.eL
    have lx3 := dpAll_len hx
    rw [List.length_map] at lx3
    have jneg : j = -1 → decide (j ≥ 0) = false := fun h => decide_eq_false (by omega)
    have ent : ∀ {i : Nat} {v : Int}, es[i]? = some (k, v) → ∃ t, xs[i]? = some (.ref t) ∧ SqT K H3 t [.str k, .int v] := by
      intro i v e
      have hi : i < xs.length := by rw [lx3]; exact (List.getElem?_eq_some_iff.mp e).1
      obtain ⟨u, eu⟩ : ∃ u, xs[i]? = some u := ⟨xs[i], List.getElem?_eq_getElem hi⟩
      obtain ⟨dd, ed, hd⟩ := dpAll_at hx eu
      rw [List.getElem?_map, e] at ed
      obtain rfl := Option.some.inj ed
      obtain ⟨t, ys, rfl, ht, hy⟩ := dp_tup hd
      obtain ⟨y1, ys, rfl, g1, hy⟩ := dpAll_cons hy
      obtain ⟨y2, ys, rfl, g2, hy⟩ := dpAll_cons hy
      obtain rfl := dpAll_nil hy
      cases g1
      cases g2
      exact ⟨t, eu, Same.seqT (mask_sub _ _) ht⟩
    by_cases w3 : word ∈ (["has", "peek"] : List Str)
    · rw [decide_eq_true w3]
      refine iteT ?_
      cases hR with
      | has =>
        refine ⟨_, rfl, rfl, _, rfl, iteT ⟨_, rfl, _, _, rfl, rfl, ?_⟩⟩
        rcases hj with ⟨rfl, hn⟩ | ⟨i, v, rfl, e, hl⟩
        · rw [hn] at kk
          exact kk _ _ el c3 hp3.eD hp3.eL (.bl _)
        · rw [hl] at kk
          have : decide ((i : Int) ≥ 0) = true := decide_eq_true (by omega)
          show Q (.bl (decide ((i : Int) ≥ 0))) H3
          rw [this]
          exact kk _ _ el c3 hp3.eD hp3.eL (.bl _)
      | peek =>
        refine ⟨_, rfl, rfl, _, rfl, iteF ⟨_, rfl, _, _, rfl, rfl, _, rfl, ?_⟩⟩
        rcases hj with ⟨rfl, hn⟩ | ⟨i, v, rfl, e, hl⟩
        · rw [hn] at kk
          refine iteF ?_
          exact kk _ _ el c3 hp3.eD hp3.eL .non
        · rw [hl] at kk
          obtain ⟨t, et, ht⟩ := ent e
          have : decide ((i : Int) ≥ 0) = true := decide_eq_true (by omega)
          show (if decide ((i : Int) ≥ 0) = true then _ else _)
          rw [this]
          refine iteT ⟨_, rfl, _, rfl, el, _, _, _, rfl, rfl, SqL.of eL, atI_nat et, t, _, 1, _, rfl, rfl, ht, atI_nat (j := 1) rfl, ?_⟩
          exact kk _ _ el c3 hp3.eD hp3.eL (.int _)
      | drop k => exact absurd w3 (by decide +kernel)
      | get k => exact absurd w3 (by decide +kernel)
      | put k => exact absurd w3 (by decide +kernel)
      | fill k => exact absurd w3 (by decide +kernel)
    rw [decide_eq_false w3]
    refine iteF ?_
    refine ⟨_, rfl, rfl, _, rfl, ?_⟩
    show (if decide (V.str word = V.str "drop") = true then _ else _)
    by_cases w4 : word = "drop"
    · rw [decide_eq_true (show V.str word = V.str "drop" by rw [w4])]
      refine iteT ?_
      subst w4
      cases hR
      refine ⟨_, rfl, el, rfl, ⟨_, SqL.of eL⟩, fun E0 nE => ?_⟩
      have nEL : E0 ∉ L := hp3.al.not nE
      refine lc_list (K := K) (a := el) (xs := xs) (fun i H2 => ∃ ys, H2 E0 = some (.lst ys) ∧ ys.length ≤ i ∧ DpAll K (mask L H3) ys ((dropE (es.take i) k).map entD) ∧ Same H3 H2) ⟨[], upd_same, Nat.zero_le _, .nil, same_new nE⟩ (fun i H2 _ ⟨_, _, _, _, h⟩ => SqL.of (h _ _ eL)) (fun i y H2 hy hI => ?_) (fun H2 hI => ?_)
      · obtain ⟨ys0, eE, hl0, hd0, s2⟩ := hI
        obtain ⟨dd, ed, hdd⟩ := dpAll_at hx hy
        rw [List.getElem?_map] at ed
        obtain ⟨en, een, rfl⟩ := Option.map_eq_some_iff.mp ed
        obtain ⟨t, ys, rfl, ht1, hy1⟩ := dp_tup hdd
        obtain ⟨y1, ys, rfl, g1, hy1⟩ := dpAll_cons hy1
        cases g1
        have hi4 : i < 4 := by have := (List.getElem?_eq_some_iff.mp een).1; omega
        have hsn : dropE (es.take (i + 1)) k = dropE (es.take i) k ++ (if decide (en.1 ≠ k) = true then [en] else []) := by
          unfold dropE
          rw [List.take_add_one, een, List.filter_append]
          congr 1
          show List.filter _ [en] = _
          rw [List.filter_cons, List.filter_nil]
        refine ⟨rfl, ?_⟩
        refine ⟨_, rfl, t, _, 0, _, rfl, rfl, Same.seqT s2 (Same.seqT (mask_sub _ _) ht1), atI_nat (j := 0) rfl, _, rfl, a, _, 2, _, rfl, rfl, Same.seqT s2 (Same.seqT (mask_sub _ _) hp3.dd), atI_nat (j := 2) rfl, rfl, _, rfl, ?_⟩
        show (if (!decide (V.str en.1 = V.str k)) = true then _ else _)
        by_cases q : en.1 = k
        · rw [show decide (V.str en.1 = V.str k) = true from decide_eq_true (by rw [q])]
          rw [if_neg (by rw [decide_eq_false (fun h => h q)]; decide), List.append_nil] at hsn
          refine iteF ⟨ys0, eE, by omega, ?_, s2⟩
          rw [hsn]; exact hd0
        · rw [show decide (V.str en.1 = V.str k) = false from decide_eq_false fun z => q (by injection z)]
          rw [if_pos (decide_eq_true q)] at hsn
          refine iteT ⟨_, rfl, _, eE, small1000 (by omega), ys0 ++ [.ref t], upd_same, by rw [List.length_append]; show ys0.length + 1 ≤ _; omega, ?_, fun b o eb => ?_⟩
          · rw [hsn, List.map_append]
            exact dpAll_app hd0 (.cons hdd .nil)
          · rw [upd_ne (ne_of_none eb nE)]; exact s2 b o eb
      · obtain ⟨ys0, eE, hl0, hd0, s2⟩ := hI
        rw [lx3, List.take_length] at hd0
        have hp4 := hp3.same s2
        refine ⟨_, rfl, D, _, rfl, held_pe hp4.eD E0, ?_⟩
        have eL4 : EntL K L H2 E0 (dropE es k) := ⟨nEL, ys0, eE, dpAll_same (mask_same s2) _ _ hd0⟩
        exact kk .non _ E0 ((c3.trans (Chg.of_same s2)).trans (Chg.upd List.mem_cons_self)) upd_same (eL4.chg (Chg.upd (l := [D]) List.mem_cons_self) fun x hx => by rw [List.mem_singleton.mp hx]; exact mD) .non
    rw [show decide (V.str word = V.str "drop") = false from decide_eq_false fun q => w4 (by injection q)]
    refine iteF ?_
    refine ⟨_, rfl, rfl, _, rfl, ?_⟩
    show (if decide (V.str word = V.str "get") = true then _ else _)
    by_cases w5 : word = "get"
    · rw [decide_eq_true (show V.str word = V.str "get" by rw [w5])]
      refine iteT ?_
      subst w5
      cases hR
      refine ⟨_, rfl, _, _, rfl, rfl, _, rfl, ?_⟩
      rcases hj with ⟨rfl, hn⟩ | ⟨i, v, rfl, e, hl⟩
      · refine iteF ?_
        refine ⟨_, rfl, _, rfl, a, _, 2, _, rfl, rfl, Same.seqT (mask_sub _ _) hp3.dd, atI_nat (j := 2) rfl, by show 2 ≤ sizeLine; decide, fun t nt => ?_⟩
        have s4 := same_new (o := .tup [.str k, .int 0]) nt
        have et : (upd H3 t (.tup [.str k, .int 0])) t = some (.tup [.str k, .int 0]) := upd_same
        have ntL := hp3.al.not nt
        generalize upd H3 t (.tup [.str k, .int 0]) = H4 at *
        refine ⟨by show 1 ≤ sizeLine; decide, fun b nb => ?_⟩
        have s5 := s4.trans (same_new (o := .lst [.ref t]) nb)
        have et5 := same_new (o := .lst [.ref t]) nb _ _ et
        have eb : (upd H4 b (.lst [.ref t])) b = some (.lst [.ref t]) := upd_same
        generalize upd H4 b (.lst [.ref t]) = H5 at *
        refine ⟨el, b, xs, [.ref t], rfl, rfl, s5 _ _ eL, eb, by
          have : xs.length + 1 ≤ 5 := by omega
          exact Nat.le_trans this (by decide), fun E0 nE => ?_⟩
        have s6 := s5.trans (same_new (o := .lst (xs ++ [.ref t])) nE)
        have et6 := same_new (o := .lst (xs ++ [.ref t])) nE _ _ et5
        have eE : (upd H5 E0 (.lst (xs ++ [.ref t]))) E0 = some (.lst (xs ++ [.ref t])) := upd_same
        have nEL : E0 ∉ L := (hp3.al.same s5).not nE
        generalize upd H5 E0 (.lst (xs ++ [.ref t])) = H6 at *
        have hp6 := hp3.same s6
        refine ⟨_, rfl, D, _, rfl, held_pe hp6.eD E0, ?_⟩
        rw [hn, (setD_none hn).1] at kk
        have eL6 : EntL K L H6 E0 (es ++ [(k, 0)]) := ⟨nEL, _, eE, by
          rw [List.map_append]
          exact dpAll_app (dpAll_same (mask_same s6) _ _ hx) (.cons (.tup (SqT.of (by rw [mask_out ntL]; exact et6)) (.cons (.str _) (.cons (.int _) .nil))) .nil)⟩
        exact kk (.int 0) _ E0 ((c3.trans (Chg.of_same s6)).trans (Chg.upd List.mem_cons_self)) upd_same (eL6.chg (Chg.upd (l := [D]) List.mem_cons_self) fun x hx => by rw [List.mem_singleton.mp hx]; exact mD) (.int _)
      · obtain ⟨t, et, ht⟩ := ent e
        have : decide ((i : Int) ≥ 0) = true := decide_eq_true (by omega)
        show (if decide ((i : Int) ≥ 0) = true then _ else _)
        rw [this]
        refine iteT ⟨_, rfl, _, rfl, el, _, _, _, rfl, rfl, SqL.of eL, atI_nat et, t, _, 1, _, rfl, rfl, ht, atI_nat (j := 1) rfl, ?_⟩
        rw [hl, setD_some hl] at kk
        exact kk _ _ el c3 hp3.eD hp3.eL (.int _)
    rw [show decide (V.str word = V.str "get") = false from decide_eq_false fun q => w5 (by injection q)]
    refine iteF ?_
    refine ⟨_, rfl, D, _, rfl, held_s hp3.eD, _, _, rfl, rfl, _, held_ps hp3.eD, ?_⟩
    obtain ⟨rfl, rfl, hnone, hput, hfill⟩ : sr' = sr + 1 ∧ d = .none ∧ (look es k = none → es' = es ++ [(k, ((sr + 1 : Nat) : Int))]) ∧ (word = "put" → es' = Qp.put es k ((sr + 1 : Nat) : Int)) ∧ (word ≠ "put" → es' = setD es k ((sr + 1 : Nat) : Int)) := by
      cases hR with
      | put => exact ⟨rfl, rfl, fun h => (setD_none h).2, fun _ => rfl, fun h => absurd rfl h⟩
      | fill => exact ⟨rfl, rfl, fun h => (setD_none h).1, fun h => absurd h (by decide +kernel), fun _ => rfl⟩
      | has => exact absurd (by decide +kernel) w3
      | peek => exact absurd (by decide +kernel) w3
      | drop => exact absurd rfl w4
      | get => exact absurd rfl w5
    clear hR
    have mDD : ∀ x ∈ [D], x ∈ L := fun x hx => by rw [List.mem_singleton.mp hx]; exact mD
    have ch : Chg [D] H3 (upd H3 D (.dK (kvs (heldK el (sr + 1))))) := Chg.upd List.mem_cons_self
    have eD7 : (upd H3 D (.dK (kvs (heldK el (sr + 1))))) D = some (.dK (kvs (heldK el (sr + 1)))) := upd_same
    have c7 := c3.trans ch
    have eL7 := hp3.eL.chg ch mDD
    have eX7 := ch _ _ (fun m => nL (mDD _ m)) eL
    have hx7 := dpAll_same (ch.more mDD).mask _ _ hx
    have dd7 := Same.seqT (ch.more mDD).mask hp3.dd
    have al7 : Alive L (upd H3 D (.dK (kvs (heldK el (sr + 1))))) := hp3.al.upd
    clear ch hp3 c3 eL hx ent et3
    generalize upd H3 D (.dK (kvs (heldK el (sr + 1)))) = H7 at *
    refine ⟨fun σ H' => ∃ E0, H' D = some (.dK (kvs (heldK E0 (sr + 1)))) ∧ EntL K L H' E0 es' ∧ Chg [D] H H', ?_, ?_⟩
    · refine ⟨_, rfl, _, _, rfl, rfl, _, rfl, ?_⟩
      show (if decide (j < 0) = true then _ else _)
      rcases hj with ⟨rfl, hn⟩ | ⟨i, v, rfl, e, hl⟩
      · refine iteT ?_
        refine ⟨_, rfl, _, rfl, a, _, 2, _, rfl, rfl, Same.seqT (mask_sub _ _) dd7, atI_nat (j := 2) rfl, _, rfl, D, _, rfl, held_s eD7, by show 2 ≤ sizeLine; decide, fun t nt => ?_⟩
        have s4 := same_new (o := .tup [.str k, .int ((sr + 1 : Nat) : Int)]) nt
        have et : (upd H7 t (.tup [.str k, .int ((sr + 1 : Nat) : Int)])) t = some (.tup [.str k, .int ((sr + 1 : Nat) : Int)]) := upd_same
        have ntL := al7.not nt
        generalize upd H7 t (.tup [.str k, .int ((sr + 1 : Nat) : Int)]) = H4 at *
        refine ⟨by show 1 ≤ sizeLine; decide, fun b nb => ?_⟩
        have s5 := s4.trans (same_new (o := .lst [.ref t]) nb)
        have et5 := same_new (o := .lst [.ref t]) nb _ _ et
        have eb : (upd H4 b (.lst [.ref t])) b = some (.lst [.ref t]) := upd_same
        generalize upd H4 b (.lst [.ref t]) = H5 at *
        refine ⟨el, b, xs, [.ref t], rfl, rfl, s5 _ _ eX7, eb, by
          have : xs.length + 1 ≤ 5 := by omega
          exact Nat.le_trans this (by decide), fun E0 nE => ?_⟩
        have s6 := s5.trans (same_new (o := .lst (xs ++ [.ref t])) nE)
        have et6 := same_new (o := .lst (xs ++ [.ref t])) nE _ _ et5
        have eE : (upd H5 E0 (.lst (xs ++ [.ref t]))) E0 = some (.lst (xs ++ [.ref t])) := upd_same
        have nEL : E0 ∉ L := (al7.same s5).not nE
        generalize upd H5 E0 (.lst (xs ++ [.ref t])) = H6 at *
        refine ⟨_, rfl, D, _, rfl, held_pe (s6 _ _ eD7) E0, ?_⟩
        have eL6 : EntL K L H6 E0 es' := ⟨nEL, _, eE, by
          rw [hnone hn, List.map_append]
          exact dpAll_app (dpAll_same (mask_same s6) _ _ hx7) (.cons (.tup (SqT.of (by rw [mask_out ntL]; exact et6)) (.cons (.str _) (.cons (.int _) .nil))) .nil)⟩
        exact ⟨E0, upd_same, eL6.chg (Chg.upd (l := [D]) List.mem_cons_self) mDD, (c7.trans (Chg.of_same s6)).trans (Chg.upd List.mem_cons_self)⟩
      · rw [show decide ((i : Int) < 0) = false from decide_eq_false (by omega)]
        refine iteF ⟨_, rfl, rfl, _, rfl, ?_⟩
        show (if decide (V.str word = V.str "put") = true then _ else _)
        by_cases w6 : word = "put"
        · rw [decide_eq_true (show V.str word = V.str "put" by rw [w6])]
          have hi : i < xs.length := by rw [lx3]; exact (List.getElem?_eq_some_iff.mp e).1
          refine iteT ⟨_, rfl, _, rfl, (i : Int), rfl, el, _, rfl, SqL.of eX7, fun b1 nb1 => ?_⟩
          rw [cut_take]
          have s1 := same_new (o := .lst (xs.take i)) nb1
          have e1 : (upd H7 b1 (.lst (xs.take i))) b1 = some (.lst (xs.take i)) := upd_same
          generalize upd H7 b1 (.lst (xs.take i)) = H8 at *
          refine ⟨_, rfl, a, _, 2, _, rfl, rfl, Same.seqT (mask_sub _ _) (Same.seqT (mask_same s1) dd7), atI_nat (j := 2) rfl, _, rfl, D, _, rfl, held_s (s1 _ _ eD7), by show 2 ≤ sizeLine; decide, fun t nt => ?_⟩
          have s4 := s1.trans (same_new (o := .tup [.str k, .int ((sr + 1 : Nat) : Int)]) nt)
          have e14 := same_new (o := .tup [.str k, .int ((sr + 1 : Nat) : Int)]) nt _ _ e1
          have et : (upd H8 t (.tup [.str k, .int ((sr + 1 : Nat) : Int)])) t = some (.tup [.str k, .int ((sr + 1 : Nat) : Int)]) := upd_same
          have ntL := (al7.same s1).not nt
          generalize upd H8 t (.tup [.str k, .int ((sr + 1 : Nat) : Int)]) = H4 at *
          refine ⟨by show 1 ≤ sizeLine; decide, fun b nb => ?_⟩
          have s5 := s4.trans (same_new (o := .lst [.ref t]) nb)
          have et5 := same_new (o := .lst [.ref t]) nb _ _ et
          have e15 := same_new (o := .lst [.ref t]) nb _ _ e14
          have eb : (upd H4 b (.lst [.ref t])) b = some (.lst [.ref t]) := upd_same
          generalize upd H4 b (.lst [.ref t]) = H5 at *
          have lt : (xs.take i).length ≤ 4 := by rw [List.length_take]; omega
          refine ⟨b1, b, xs.take i, [.ref t], rfl, rfl, e15, eb, by
            have : (xs.take i).length + 1 ≤ 5 := by omega
            exact Nat.le_trans this (by decide), fun b2 nb2 => ?_⟩
          have s6 := s5.trans (same_new (o := .lst (xs.take i ++ [.ref t])) nb2)
          have et6 := same_new (o := .lst (xs.take i ++ [.ref t])) nb2 _ _ et5
          have e26 : (upd H5 b2 (.lst (xs.take i ++ [.ref t]))) b2 = some (.lst (xs.take i ++ [.ref t])) := upd_same
          generalize upd H5 b2 (.lst (xs.take i ++ [.ref t])) = H6 at *
          refine ⟨_, rfl, _, rfl, _, _, rfl, rfl, _, rfl, el, _, rfl, SqL.of (s6 _ _ eX7), fun b3 nb3 => ?_⟩
          rw [show ((i : Int) + 1) = ((i + 1 : Nat) : Int) by omega, cut_drop]
          have s9 := s6.trans (same_new (o := .lst (xs.drop (i + 1))) nb3)
          have et9 := same_new (o := .lst (xs.drop (i + 1))) nb3 _ _ et6
          have e29 := same_new (o := .lst (xs.drop (i + 1))) nb3 _ _ e26
          have e39 : (upd H6 b3 (.lst (xs.drop (i + 1)))) b3 = some (.lst (xs.drop (i + 1))) := upd_same
          generalize upd H6 b3 (.lst (xs.drop (i + 1))) = H9 at *
          have lt2 : (xs.drop (i + 1)).length ≤ 4 := by rw [List.length_drop]; omega
          refine ⟨b2, b3, _, _, rfl, rfl, e29, e39, by
            have : (xs.take i ++ [V.ref t]).length + (xs.drop (i + 1)).length ≤ 9 := by rw [List.length_append]; show (xs.take i).length + 1 + _ ≤ 9; omega
            exact Nat.le_trans this (by decide), fun E0 nE => ?_⟩
          have s10 := s9.trans (same_new (o := .lst (xs.take i ++ [.ref t] ++ xs.drop (i + 1))) nE)
          have et10 := same_new (o := .lst (xs.take i ++ [.ref t] ++ xs.drop (i + 1))) nE _ _ et9
          have eE : (upd H9 E0 (.lst (xs.take i ++ [.ref t] ++ xs.drop (i + 1)))) E0 = some (.lst (xs.take i ++ [.ref t] ++ xs.drop (i + 1))) := upd_same
          have nEL : E0 ∉ L := (al7.same s9).not nE
          generalize upd H9 E0 (.lst (xs.take i ++ [.ref t] ++ xs.drop (i + 1))) = H10 at *
          refine ⟨_, rfl, D, _, rfl, held_pe (s10 _ _ eD7) E0, ?_⟩
          have eL10 : EntL K L H10 E0 es' := ⟨nEL, _, eE, by
            have hx10 := dpAll_same (mask_same s10) _ _ hx7
            rw [hput w6, put_at ho.nd e, List.map_append, List.map_append, List.map_take, List.map_drop]
            exact dpAll_app (dpAll_app (dpAll_take i hx10) (.cons (.tup (SqT.of (by rw [mask_out ntL]; exact et10)) (.cons (.str _) (.cons (.int _) .nil))) .nil)) (dpAll_drop (i + 1) hx10)⟩
          exact ⟨E0, upd_same, eL10.chg (Chg.upd (l := [D]) List.mem_cons_self) mDD, (c7.trans (Chg.of_same s10)).trans (Chg.upd List.mem_cons_self)⟩
        · rw [show decide (V.str word = V.str "put") = false from decide_eq_false fun q => w6 (by injection q)]
          refine iteF ⟨el, eD7, ?_, c7⟩
          rw [hfill w6, setD_some hl]
          exact eL7
    · rintro σ H' ⟨E0, e1, e2, e3⟩
      exact kk .non _ E0 e3 e1 e2 .non
end
section
variable {P : Program} {w : World} {K : PySem.W.Frag} {mg : Str → Option Value} {base : Heap}
theorem scW : FnScope ["pool", "letters", "k"] ["pool"] (defScope sWord) := ⟨rfl, rfl, rfl, by decide +kernel, rfl, by decide +kernel, by decide +kernel⟩
theorem ok_word {f fD : Addr} {fd fdD : FuncData} (F : Fun K "_law_word" "_law_word" sWord f fd) (GD : FnOk P w K mg base CX0 1 fD fdD ["pool", "many"] spDraw) (mD : mg "_law_draw" = some (.ref fD)) (kD : PySem.W.keepIn K (.ref fD) = true)
    (bD : Binds K fdD ["pool", "many"] []) (mr : mg "range" = none) : FnOk P w K mg base CX0 2 f fd ["pool"] spWord := by
  refine F.ok scW (fun vs H Q E h => ?_) (fun cdv A outer s H vs Q E hr h => ?_)
  · obtain ⟨p, q, n, rfl, _⟩ := h
    rfl
  · obtain ⟨p, q, n, rfl, hP, hn, kk⟩ := h
    refine ⟨_, pss_cons (ps_set (i := 1) scW.nd rfl (.inr rfl) pe_str)
      (pss_one (ps_ret (pe_join pe_str (pe_lc (own := [("k", 2)]) (g := gName 2) (tt := tYes) rfl scW.nd
        (pi_range1 (by rfl) mr (pa_cons (pe_op op_add pe_int (pe_call GD hr (by rfl) mD kD bD .nil pass0 (pa_cons (pv 0) (pa_cons pe_int pa_nil)))) pa_nil))
        (blkOk_by (N := ["pool", "letters", "k"]) (sc := defScope sWord) (by decide +kernel))
        (fun _ _ _ _ _ => pg_name (i := 2) scW.nd rfl (.inl rfl)) (fun _ _ _ _ _ => pts_nil)
        (fun _ _ _ _ _ => pe_ix ix_str (pv 1) (pe_call GD hr (by rfl) mD kD bD .nil pass0 (pa_cons (pv 0) (pa_cons pe_int pa_nil))) (fun _ _ => rfl)))))), ?_⟩
    refine ⟨⟨_, rfl⟩, .ref p, rfl, p, q, n, 8, rfl, hP, by omega, by decide, by decide, fun d H1 h0 h1 P1 K1 => ?_⟩
    refine ⟨1, d, rfl, rfl, 1 + d, rfl, (by omega), (by omega), fun D nD => ?_⟩
    obtain ⟨op, ep⟩ := P1.p_some
    obtain ⟨oq, eq⟩ := P1.q_some
    have nDp : D ≠ p := (ne_of_none ep nD).symm
    have nDq : D ≠ q := (ne_of_none eq nD).symm
    have em : (1 + d).toNat ≤ 8 := by omega
    refine lc_range (lo := 0) (n := (1 + d).toNat) (fun i H2 => ∃ ys : List Str, H2 D = some (.lst (ys.map V.str)) ∧ ys.length = i ∧ (∀ y ∈ ys, ∃ c, y = ⟨#[c]⟩ ∧ 97 ≤ c ∧ c ≤ 122) ∧ PoolAt H2 p q (n + 1 + i) ∧ Keeps p q H H2)
      ⟨[], upd_same, rfl, fun y hy => (by cases hy), P1.new nD, K1.trans (.upd_new nD)⟩ (fun i H2 hi hI => ?_) (fun H2 hI => ?_)
    · obtain ⟨ys, eD, el, hy, P2, K2⟩ := hI
      refine ⟨rfl, ?_⟩
      refine ⟨_, rfl, _, rfl, p, q, n + 1 + i, 26, rfl, P2, by omega, by decide, by decide, fun d2 H3 h02 h12 P3 K3 => ?_⟩
      obtain ⟨c, ec, hc1, hc2⟩ := abc_at d2 h02 h12
      have eD3 : H3 D = some (.lst (ys.map V.str)) := K3 D _ nDp nDq eD
      refine ⟨abc, d2, c, rfl, rfl, by rw [abc_len]; decide, ec, _, eD3, small1000 (by rw [List.length_map]; omega), ys ++ [⟨#[c]⟩], ?_, by simp [el], fun y hm => ?_, ?_, ?_⟩
      · rw [upd_same, List.map_append]; rfl
      · rcases List.mem_append.mp hm with hm | hm
        · exact hy y hm
        · exact ⟨c, List.mem_singleton.mp hm, hc1, hc2⟩
      · have e : n + 1 + (i + 1) = n + 1 + i + 1 := by omega
        rw [e]
        obtain ⟨npq, cs, b, c0, e1, e2, r⟩ := P3
        exact ⟨npq, cs, b, c0, by rw [upd_ne nDp.symm]; exact e1, by rw [upd_ne nDq.symm]; exact e2, r⟩
      · intro x o hx1 hx2 nH
        have ex := K3 x o hx1 hx2 (K2 x o hx1 hx2 nH)
        by_cases hxD : x = D
        · subst hxD
          rw [K1.free nD nDp nDq] at nH
          cases nH
        · rw [upd_ne hxD]; exact ex
    · obtain ⟨ys, eD, el, hy, P2, K2⟩ := hI
      obtain ⟨j1, j2⟩ := join_letters (sep := "") (by decide +kernel) ys hy
      have e1 : ∀ y ∈ ys, y.length = 1 := fun y hm => by
        obtain ⟨c, rfl, _⟩ := hy y hm
        rfl
      have e2 : (ys.map (·.length)).sum = ys.length := sum_ones _ e1
      refine ⟨_, D, ys, rfl, rfl, .inl (SqL.of eD), ?_, ?_⟩
      · rw [e2, show (Str.ofString "").length = 0 by decide +kernel]; omega
      · rw [show Txt.join _ ys = Str.join _ ys from StrLaws.glued_eq_join _ _]
        exact kk _ (n + 1 + (1 + d).toNat) H2 ⟨by rw [j1]; omega, by rw [j1]; omega, j2⟩ (by omega) (by omega) P2 K2
end
/-! ### the law's own: a table, a deed at it -/
def wordsT : List Str := ["size", "keys", "load", "wipe", "spy", "get", "peek", "has", "put", "fill", "drop"]
def sixT : List Str := ["get", "peek", "has", "put", "fill", "drop"]
def DeedR (ks : List Str) (word : Str) (rest : List PyData) : Prop :=
  (word ∈ (["size", "keys", "wipe", "spy"] : List Str) ∧ rest = []) ∨ (word ∈ sixT ∧ ∃ k ∈ ks, rest = [.str k]) ∨ (word = "load" ∧ ∃ ls : List Str, (∀ z ∈ ls, IsWord z) ∧ ls.length ≤ 5 ∧ rest = [.tuple (ls.map .str)])
theorem wordsT_no : ∀ z ∈ wordsT, z ∉ (["bind", "copy"] : List Str) ∧ z ≠ "fetch" ∧ z ≠ "mark" := by decide +kernel
theorem wordsT_less : ∀ z ∈ wordsT.take 5, z ∉ sixT := by decide +kernel
theorem wordsT_rest : ∀ z ∈ wordsT, z ∉ sixT → z ≠ "load" → z ∈ (["size", "keys", "wipe", "spy"] : List Str) := by decide +kernel
def spTableOf (K : PySem.W.Frag) (C : Addr) : Sp := fun vs H Q _ => ∃ (name : Str) (kl : Addr) (keys : List Str), vs = [.str name, .ref kl] ∧ SqL K H kl (keys.map V.str) ∧ IsWord name ∧ (∀ x ∈ keys, IsWord x) ∧ keys.Nodup ∧ keys.length ≤ 4 ∧ ∀ a H', Same H H' → ThingAt K H' C a "table" name keys → Q (.ref a) H'
def spAny (K : PySem.W.Frag) : Sp := fun vs H Q _ => ∃ (L : List Addr) (p q : Addr) (n : Nat) (a t kp : Addr) (x : Str) (ks : List Str), vs = [.ref p, .ref a] ∧ PoolAt H p q n ∧ n ≤ 800000 ∧ p ∈ L ∧ q ∈ L ∧ Alive L H ∧ SqL K (mask L H) a [.ref t] ∧ SqT K (mask L H) t [.str "table", .str x, .ref kp] ∧
  SqT K (mask L H) kp (ks.map V.str) ∧ ks.length ≤ 4 ∧ (∀ k ∈ ks, IsWord k) ∧
  ∀ b word args rest n' H', PoolAt H' p q n' → n' ≤ n + 20 → Keeps p q H H' → SqT K (mask L H') b (.str word :: .str x :: args) → DpAll K (mask L H') args rest → DeedR ks word rest → Q (.ref b) H'
theorem seqL_str {K : PySem.W.Frag} {H : Hp} {a : Addr} {xs : List Str} (h : H a = some (.lst (xs.map V.str))) : SqL K H a (xs.map V.str) := SqL.of h
section
variable {P : Program} {w : World} {K : PySem.W.Frag} {mg : Str → Option Value} {base : Heap}
theorem scTo : FnScope ["name", "keys"] ["name", "keys"] (defScope sTableOf) := ⟨rfl, rfl, rfl, by decide +kernel, rfl, by decide +kernel, by decide +kernel⟩
theorem ok_tableof {f C : Addr} {fd : FuncData} (F : Fun K "_law_table_of" "_law_table_of" sTableOf f fd) (B : Bts mg) (T : ThIn K mg C) (td : ∃ p g, SMet K C "table" p g ∧ FnR P w K mg base CX0 5 g (spTableM K C)) : FnOk P w K mg base CX0 6 f fd ["name", "keys"] (spTableOf K C) := by
  refine F.ok scTo (fun vs H Q E h => ?_) (fun cdv A outer s0 H vs Q E hr h => ?_)
  · obtain ⟨name, kl, keys, rfl, _⟩ := h
    rfl
  · obtain ⟨name, kl, keys, rfl, hk, hw, hws, hnd, hl, kk⟩ := h
    obtain ⟨pm, gm, sm, Fm⟩ := td
    refine ⟨_, pss_cons (ps_if (pt_cmpR op_eq (pe_callB call_len_seq (by rfl) B.len PySem.boot_len (pa_cons (pv 1) pa_nil)) pe_int (nomark _))
        (pss_one (ps_ret (pe_smeth (E := E0) (pe_glob (v := .ref C) (by rfl) T.m rfl) T.rd sm Fm hr pass0 (pa_cons (pv 0) pa_nil))))
        pss_nil)
      (pss_cons (ps_if (pt_cmpR op_eq (pe_callB call_len_seq (by rfl) B.len PySem.boot_len (pa_cons (pv 1) pa_nil)) pe_int (nomark _))
        (pss_one (ps_ret (pe_smeth (E := E0) (pe_glob (v := .ref C) (by rfl) T.m rfl) T.rd sm Fm hr pass0 (pa_cons (pv 0) (pa_cons (pe_ix ix_list (pv 1) pe_int (fun _ _ => rfl)) pa_nil)))))
        pss_nil)
      (pss_cons (ps_if (pt_cmpR op_eq (pe_callB call_len_seq (by rfl) B.len PySem.boot_len (pa_cons (pv 1) pa_nil)) pe_int (nomark _))
        (pss_one (ps_ret (pe_smeth (E := E0) (pe_glob (v := .ref C) (by rfl) T.m rfl) T.rd sm Fm hr pass0 (pa_cons (pv 0) (pa_cons (pe_ix ix_list (pv 1) pe_int (fun _ _ => rfl)) (pa_cons (pe_ix ix_list (pv 1) pe_int (fun _ _ => rfl)) pa_nil))))))
        pss_nil)
      (pss_cons (ps_if (pt_cmpR op_eq (pe_callB call_len_seq (by rfl) B.len PySem.boot_len (pa_cons (pv 1) pa_nil)) pe_int (nomark _))
        (pss_one (ps_ret (pe_smeth (E := E0) (pe_glob (v := .ref C) (by rfl) T.m rfl) T.rd sm Fm hr pass0 (pa_cons (pv 0) (pa_cons (pe_ix ix_list (pv 1) pe_int (fun _ _ => rfl)) (pa_cons (pe_ix ix_list (pv 1) pe_int (fun _ _ => rfl)) (pa_cons (pe_ix ix_list (pv 1) pe_int (fun _ _ => rfl)) pa_nil)))))))
        pss_nil)
      (pss_one (ps_ret (pe_smeth (E := E0) (pe_glob (v := .ref C) (by rfl) T.m rfl) T.rd sm Fm hr pass0 (pa_cons (pv 0) (pa_cons (pe_ix ix_list (pv 1) pe_int (fun _ _ => rfl)) (pa_cons (pe_ix ix_list (pv 1) pe_int (fun _ _ => rfl)) (pa_cons (pe_ix ix_list (pv 1) pe_int (fun _ _ => rfl)) (pa_cons (pe_ix ix_list (pv 1) pe_int (fun _ _ => rfl)) pa_nil))))))))))), ?_⟩
    rcases keys with _ | ⟨k0, _ | ⟨k1, _ | ⟨k2, _ | ⟨k3, _ | ⟨k4, r⟩⟩⟩⟩⟩
    · exact ⟨_, rfl, kl, _, rfl, .inl hk, rfl, _, rfl, iteT ⟨rfl, _, rfl, name, [], rfl, hw, hws, hnd, hl, kk⟩⟩
    · exact ⟨_, rfl, kl, _, rfl, .inl hk, rfl, _, rfl, iteF ⟨_, rfl, kl, _, rfl, .inl hk, rfl, _, rfl, iteT ⟨rfl, _, rfl, _, rfl, kl, _, 0, _, rfl, rfl, hk, atI_nat (j := 0) rfl, name, [k0], rfl, hw, hws, hnd, hl, kk⟩⟩⟩
    · exact ⟨_, rfl, kl, _, rfl, .inl hk, rfl, _, rfl, iteF ⟨_, rfl, kl, _, rfl, .inl hk, rfl, _, rfl, iteF ⟨_, rfl, kl, _, rfl, .inl hk, rfl, _, rfl, iteT ⟨rfl, _, rfl, _, rfl, kl, _, 0, _, rfl, rfl, hk, atI_nat (j := 0) rfl, _, rfl, kl, _, 1, _, rfl, rfl, hk, atI_nat (j := 1) rfl, name, [k0, k1], rfl, hw, hws, hnd, hl, kk⟩⟩⟩⟩
    · exact ⟨_, rfl, kl, _, rfl, .inl hk, rfl, _, rfl, iteF ⟨_, rfl, kl, _, rfl, .inl hk, rfl, _, rfl, iteF ⟨_, rfl, kl, _, rfl, .inl hk, rfl, _, rfl, iteF ⟨_, rfl, kl, _, rfl, .inl hk, rfl, _, rfl, iteT ⟨rfl, _, rfl, _, rfl, kl, _, 0, _, rfl, rfl, hk, atI_nat (j := 0) rfl, _, rfl, kl, _, 1, _, rfl, rfl, hk, atI_nat (j := 1) rfl, _, rfl, kl, _, 2, _, rfl, rfl, hk, atI_nat (j := 2) rfl, name, [k0, k1, k2], rfl, hw, hws, hnd, hl, kk⟩⟩⟩⟩⟩
    · exact ⟨_, rfl, kl, _, rfl, .inl hk, rfl, _, rfl, iteF ⟨_, rfl, kl, _, rfl, .inl hk, rfl, _, rfl, iteF ⟨_, rfl, kl, _, rfl, .inl hk, rfl, _, rfl, iteF ⟨_, rfl, kl, _, rfl, .inl hk, rfl, _, rfl, iteF ⟨rfl, _, rfl, _, rfl, kl, _, 0, _, rfl, rfl, hk, atI_nat (j := 0) rfl, _, rfl, kl, _, 1, _, rfl, rfl, hk, atI_nat (j := 1) rfl, _, rfl, kl, _, 2, _, rfl, rfl, hk, atI_nat (j := 2) rfl, _, rfl, kl, _, 3, _, rfl, rfl, hk, atI_nat (j := 3) rfl, name, [k0, k1, k2, k3], rfl, hw, hws, hnd, hl, kk⟩⟩⟩⟩⟩
    · simp at hl
end
section
variable {P : Program} {w : World} {K : PySem.W.Frag} {mg : Str → Option Value} {base : Heap}
theorem scAd : FnScope ["pool", "things", "thing", "kind", "x", "parts", "words", "word", "like", "other", "keys", "key"] ["pool", "things"] (defScope sAnyDeed) := ⟨rfl, rfl, rfl, by decide +kernel, rfl, by decide +kernel, by decide +kernel⟩
theorem ok_any {f fD fW : Addr} {fd fdD fdW : FuncData} (F : Fun K "_law_any_deed" "_law_any_deed" sAnyDeed f fd) (B : Bts mg) (GD : FnOk P w K mg base CX0 1 fD fdD ["pool", "many"] spDraw) (mD : mg "_law_draw" = some (.ref fD)) (kD : PySem.W.keepIn K (.ref fD) = true) (bD : Binds K fdD ["pool", "many"] [])
    (GW : FnOk P w K mg base CX0 2 fW fdW ["pool"] spWord) (mW : mg "_law_word" = some (.ref fW)) (kW : PySem.W.keepIn K (.ref fW) = true) (bW : Binds K fdW ["pool"] []) : FnOk P w K mg base CX0 3 f fd ["pool", "things"] (spAny K) := by
  refine F.ok scAd (fun vs H Q E h => ?_) (fun cdv A outer s0 H vs Q E hr h => ?_)
  · obtain ⟨L, p, q, n, a, t, kp, x, ks, rfl, _⟩ := h
    rfl
  · obtain ⟨L, p, q, n, a, t, kp, x, ks, rfl, hP, hn, mp, mq, al, ha, ht, hk, hkl, hkw, kk⟩ := h
    have hu := hu_of hr
    have hr1 : Room 1 _ := hr.mono (by decide)
    have hr2 : Room 2 _ := hr.mono (by decide)
    refine ⟨_, pss_cons (ps_set (i := 2) scAd.nd rfl (.inl rfl) (pe_ix ix_list (pv 1) (pe_call GD hr1 (by rfl) mD kD bD .nil pass0 (pa_cons (pv 0) (pa_cons (pe_callB call_len_seq (by rfl) B.len PySem.boot_len (pa_cons (pv 1) pa_nil)) pa_nil))) (fun _ _ => rfl)))
      (pss_cons (ps_asg (pv 2) (pg_tup rfl (pgs_cons (pg_name (i := 3) scAd.nd rfl (.inr rfl)) (pgs_cons (pg_name (i := 4) scAd.nd rfl (.inl rfl)) (pgs_cons (pg_name (i := 5) scAd.nd rfl (.inl rfl)) pgs_nil)))))
      (pss_cons (ps_set (i := 6) scAd.nd rfl (.inl rfl) (pe_disp (pps_cons pe_str (pe_lst (pa_cons pe_str (pa_cons pe_str (pa_cons pe_str (pa_cons pe_str (pa_cons pe_str (pa_cons pe_str pa_nil))))))) (pps_cons pe_str (pe_lst (pa_cons pe_str (pa_cons pe_str (pa_cons pe_str pa_nil)))) (pps_cons pe_str (pe_lst (pa_cons pe_str (pa_cons pe_str (pa_cons pe_str (pa_cons pe_str (pa_cons pe_str (pa_cons pe_str (pa_cons pe_str (pa_cons pe_str (pa_cons pe_str (pa_cons pe_str (pa_cons pe_str pa_nil)))))))))))) (pps_cons pe_str (pe_lst (pa_cons pe_str (pa_cons pe_str pa_nil))) (pps_cons pe_str (pe_lst (pa_cons pe_str (pa_cons pe_str (pa_cons pe_str (pa_cons pe_str pa_nil))))) (pps_cons pe_str (pe_lst (pa_cons pe_str (pa_cons pe_str (pa_cons pe_str (pa_cons pe_str pa_nil))))) (pps_cons pe_str (pe_lst (pa_cons pe_str (pa_cons pe_str (pa_cons pe_str (pa_cons pe_str (pa_cons pe_str (pa_cons pe_str pa_nil))))))) pps_nil))))))) rfl rfl (by decide) (by decide)))
      (C8.pss_cut (ps_set (i := 7) scAd.nd rfl (.inl rfl) (pe_ix ix_list (pe_dget hu (pv 6) (pv 3) (fun _ _ => rfl)) (pe_call GD hr1 (by rfl) mD kD bD .nil pass0 (pa_cons (pv 0) (pa_cons (pe_ifExp (PW.pt (pw_or (pt_cmpR op_ne (pv 3) pe_str (nomark _)) (pw_or1 (pt_truth (pv 5) (by intro _; rfl))))) (pe_callB call_len_seq (by rfl) B.len PySem.boot_len (pa_cons (pe_dget hu (pv 6) (pv 3) (fun _ _ => rfl)) pa_nil)) pe_int) pa_nil))) (fun _ _ => rfl)))
      (pss_cons (ps_if (pt_cmpR op_in_seq (pv 7) (pe_tup (pa_cons pe_str (pa_cons pe_str (pa_cons pe_str (pa_cons pe_str (pa_cons pe_str (pa_cons pe_str pa_nil))))))) (by rfl))
        (pss_one (ps_ret (pe_tup (pa_cons (pv 7) (pa_cons (pv 4) (pa_cons (pe_ix ix_tup (pv 5) (pe_call GD hr1 (by rfl) mD kD bD .nil pass0 (pa_cons (pv 0) (pa_cons (pe_callB call_len_seq (by rfl) B.len PySem.boot_len (pa_cons (pv 5) pa_nil)) pa_nil))) (fun _ _ => rfl)) pa_nil))))))
        pss_nil)
      (pss_cons (ps_if (pt_cmpR op_in_seq (pv 7) (pe_tup (pa_cons pe_str (pa_cons pe_str pa_nil))) (by rfl)) (pss_cons ps_never (pss_one ps_never)) pss_nil)
      (pss_cons (ps_if (pt_cmpR op_eq (pv 7) pe_str (nomark _)) (pss_one ps_never) pss_nil)
      (pss_cons (ps_if (pt_cmpR op_eq (pv 7) pe_str (nomark _))
        (pss_cons (ps_set (i := 10) scAd.nd rfl (.inl rfl) (pe_lst (pa_cons (pe_call GW hr2 (by rfl) mW kW bW .nil pass0 (pa_cons (pv 0) pa_nil)) pa_nil)))
          (pss_cons (ps_for PassesOwn.never rfl (pi_tup (pv 5)) (pg_name (i := 11) scAd.nd rfl (.inl rfl))
            (pss_one (ps_if (pt_cmpR op_eq (pe_call GD hr1 (by rfl) mD kD bD .nil pass0 (pa_cons (pv 0) (pa_cons pe_int pa_nil))) pe_int (nomark _))
                (pss_one (ps_expr (pe_bm PySem.F.plainAttrs_list PySem.F.slot_list_append PySem.F.type_list_append mt_append (pv 10) (pa_cons (pv 11) pa_nil))))
                pss_nil)))
          (pss_one (ps_ret (pe_tup (pa_cons (pv 7) (pa_cons (pv 4) (pa_cons (pe_callTy call_tupS (by rfl) B.tuple (by decide +kernel) (pa_cons (pe_ifExp (pt_cmpR op_eq (pe_call GD hr1 (by rfl) mD kD bD .nil pass0 (pa_cons (pv 0) (pa_cons pe_int pa_nil))) pe_int (nomark _)) (pe_revL (pv 10)) (pv 10)) pa_nil)) pa_nil))))))))
        pss_nil)
      (pss_cons (ps_if (pt_cmpR op_eq (pv 7) pe_str (nomark _)) (pss_one ps_never) pss_nil)
      (pss_one (ps_ret (pe_tup (pa_cons (pv 7) (pa_cons (pv 4) pa_nil))))))))))))), ?_⟩
    refine ⟨_, rfl, _, rfl, _, rfl, a, _, rfl, .inl ((mask_sub _ _).seq ha), p, q, n, 1, rfl, hP, by omega, by decide, by decide, fun d H1 d0 d1 P1 K1 => ?_⟩
    obtain rfl : d = 0 := by omega
    have ms1 : Same (mask L H) (mask L H1) := K1.maskL mp mq
    refine ⟨a, _, 0, _, rfl, rfl, (mask_sub _ _).seq (ms1.seq ha), atI_nat (j := 0) rfl, ?_⟩
    refine ⟨_, rfl, t, _, rfl, Same.seqT (mask_sub _ _) (Same.seqT ms1 ht), rfl, _, _, rfl, _, _, rfl, _, _, rfl, rfl, ?_⟩
    refine fun W nW => ?_
    have s1 := same_new (o := .dK []) nW
    have eW : (upd H1 W (.dK [])) W = some (.dK []) := upd_same
    generalize upd H1 W (.dK []) = D0 at *
    refine ⟨by show 6 ≤ sizeLine; decide, fun l0 n0 => ?_⟩
    have t0 := same_new (o := .lst [.str "take", .str "skip", .str "drain", .str "fetch", .str "bind", .str "spy"]) n0
    generalize upd D0 l0 (.lst [.str "take", .str "skip", .str "drain", .str "fetch", .str "bind", .str "spy"]) = D1 at *
    refine ⟨by show 3 ≤ sizeLine; decide, fun l1 n1 => ?_⟩
    have t1 := same_new (o := .lst [.str "roll", .str "seed", .str "spy"]) n1
    generalize upd D1 l1 (.lst [.str "roll", .str "seed", .str "spy"]) = D2 at *
    refine ⟨by show 11 ≤ sizeLine; decide, fun l2 n2 => ?_⟩
    have t2 := same_new (o := .lst [.str "size", .str "keys", .str "load", .str "wipe", .str "spy", .str "get", .str "peek", .str "has", .str "put", .str "fill", .str "drop"]) n2
    have eT : (upd D2 l2 (.lst [.str "size", .str "keys", .str "load", .str "wipe", .str "spy", .str "get", .str "peek", .str "has", .str "put", .str "fill", .str "drop"])) l2 = some (.lst [.str "size", .str "keys", .str "load", .str "wipe", .str "spy", .str "get", .str "peek", .str "has", .str "put", .str "fill", .str "drop"]) := upd_same
    generalize upd D2 l2 (.lst [.str "size", .str "keys", .str "load", .str "wipe", .str "spy", .str "get", .str "peek", .str "has", .str "put", .str "fill", .str "drop"]) = D3 at *
    refine ⟨by show 2 ≤ sizeLine; decide, fun l3 n3 => ?_⟩
    have t3 := same_new (o := .lst [.str "change", .str "spy"]) n3
    generalize upd D3 l3 (.lst [.str "change", .str "spy"]) = D4 at *
    refine ⟨by show 4 ≤ sizeLine; decide, fun l4 n4 => ?_⟩
    have t4 := same_new (o := .lst [.str "look", .str "glance", .str "renew", .str "spy"]) n4
    generalize upd D4 l4 (.lst [.str "look", .str "glance", .str "renew", .str "spy"]) = D5 at *
    refine ⟨by show 4 ≤ sizeLine; decide, fun l5 n5 => ?_⟩
    have t5 := same_new (o := .lst [.str "lift", .str "read", .str "watch", .str "spy"]) n5
    generalize upd D5 l5 (.lst [.str "lift", .str "read", .str "watch", .str "spy"]) = D6 at *
    refine ⟨by show 6 ≤ sizeLine; decide, fun l6 n6 => ?_⟩
    have t6 := same_new (o := .lst [.str "keep", .str "copy", .str "tell", .str "bound", .str "mark", .str "spy"]) n6
    generalize upd D6 l6 (.lst [.str "keep", .str "copy", .str "tell", .str "bound", .str "mark", .str "spy"]) = D7 at *
    have s8 := (((((((s1.trans t0).trans t1).trans t2).trans t3).trans t4).trans t5).trans t6)
    have eW8 := (t6 _ _ (t5 _ _ (t4 _ _ (t3 _ _ (t2 _ _ (t1 _ _ (t0 _ _ eW)))))))
    have eT8 := (t6 _ _ (t5 _ _ (t4 _ _ (t3 _ _ eT))))
    refine ⟨eW8, kvs [("feed", V.ref l0), ("dice", V.ref l1), ("table", V.ref l2), ("source", V.ref l3), ("field", V.ref l4), ("flag", V.ref l5), ("slot", V.ref l6)], rfl, by show 7 ≤ 15; decide, ?_⟩
    rw [show mergeK [] (kvs [("feed", V.ref l0), ("dice", V.ref l1), ("table", V.ref l2), ("source", V.ref l3), ("field", V.ref l4), ("flag", V.ref l5), ("slot", V.ref l6)]) = kvs [("feed", V.ref l0), ("dice", V.ref l1), ("table", V.ref l2), ("source", V.ref l3), ("field", V.ref l4), ("flag", V.ref l5), ("slot", V.ref l6)] from mergeK_kvs (a := []) (by show (["feed", "dice", "table", "source", "field", "flag", "slot"] : List Str).Nodup; decide +kernel)]
    have P8 := P1.same s8
    have K8 : Keeps p q H D7 := K1.trans (.of_same s8)
    have ms8 := ms1.trans (mask_same s8)
    have hk8 := Same.seqT ms8 hk
    have al8 : Alive L D7 := fun z hz => by
      by_cases zp : z = p
      · rw [zp]; exact P8.p_some
      by_cases zq : z = q
      · rw [zq]; exact P8.q_some
      obtain ⟨o, eo⟩ := al z hz
      exact ⟨o, K8 _ _ zp zq eo⟩
    have nWp : W ≠ p := fun z => by obtain ⟨o, e⟩ := P1.p_some; rw [z, e] at nW; cases nW
    have nWq : W ≠ q := fun z => by obtain ⟨o, e⟩ := P1.q_some; rw [z, e] at nW; cases nW
    have nWH : H W = none := K1.free nW nWp nWq
    have lp : l2 ≠ p := fun z => by obtain ⟨o, e⟩ := (P1.same ((s1.trans t0).trans t1)).p_some; rw [z, e] at n2; cases n2
    have lq : l2 ≠ q := fun z => by obtain ⟨o, e⟩ := (P1.same ((s1.trans t0).trans t1)).q_some; rw [z, e] at n2; cases n2
    have lW : l2 ≠ W := fun z => by rw [z, eW8] at eT8; cases eT8
    clear s1 eW t0 t1 t2 t3 t4 t5 t6 eT n0 n1 n2 n3 n4 n5 n6 nW eW8
    have eU : (upd D7 W (.dK (kvs [("feed", V.ref l0), ("dice", V.ref l1), ("table", V.ref l2), ("source", V.ref l3), ("field", V.ref l4), ("flag", V.ref l5), ("slot", V.ref l6)]))) W = some (.dK (kvs [("feed", V.ref l0), ("dice", V.ref l1), ("table", V.ref l2), ("source", V.ref l3), ("field", V.ref l4), ("flag", V.ref l5), ("slot", V.ref l6)])) := upd_same
    have eT9 : (upd D7 W (.dK (kvs [("feed", V.ref l0), ("dice", V.ref l1), ("table", V.ref l2), ("source", V.ref l3), ("field", V.ref l4), ("flag", V.ref l5), ("slot", V.ref l6)]))) l2 = some (.lst (wordsT.map V.str)) := by rw [upd_ne lW]; exact eT8
    have P9 : PoolAt (upd D7 W (.dK (kvs [("feed", V.ref l0), ("dice", V.ref l1), ("table", V.ref l2), ("source", V.ref l3), ("field", V.ref l4), ("flag", V.ref l5), ("slot", V.ref l6)]))) p q (n + 1) := P8.upd nWp nWq
    have K9 : Keeps p q H (upd D7 W (.dK (kvs [("feed", V.ref l0), ("dice", V.ref l1), ("table", V.ref l2), ("source", V.ref l3), ("field", V.ref l4), ("flag", V.ref l5), ("slot", V.ref l6)]))) := fun b o h1 h2 e => by rw [upd_ne (ne_of_none e nWH)]; exact K8 b o h1 h2 e
    have gT : DGet (upd D7 W (.dK (kvs [("feed", V.ref l0), ("dice", V.ref l1), ("table", V.ref l2), ("source", V.ref l3), ("field", V.ref l4), ("flag", V.ref l5), ("slot", V.ref l6)]))) W (.str "table") (some (.ref l2)) := by
      have := DGet.k (k := Sum.inr ("table" : Str)) eU
      rw [valV_kvs] at this
      exact (show look [("feed", V.ref l0), ("dice", V.ref l1), ("table", V.ref l2), ("source", V.ref l3), ("field", V.ref l4), ("flag", V.ref l5), ("slot", V.ref l6)] "table" = some (V.ref l2) by rfl) ▸ this
    clear eU eT8 P8 K8 al8
    generalize upd D7 W (.dK (kvs [("feed", V.ref l0), ("dice", V.ref l1), ("table", V.ref l2), ("source", V.ref l3), ("field", V.ref l4), ("flag", V.ref l5), ("slot", V.ref l6)])) = D8 at *
    have ms9 : Same (mask L H) (mask L D8) := K9.maskL mp mq
    have hk9 := Same.seqT (mask_sub _ _) (Same.seqT ms9 hk)
    have pick : ∀ {i : Nat} {z : Str}, wordsT[i]? = some z → z ∈ wordsT := fun h => List.mem_of_getElem? h
    refine ⟨fun σ H' => ∃ word, σ = [some (.ref p), some (.ref a), some (.ref t), some (.str "table"), some (.str x), some (.ref kp), some (.ref W), some (.str word), none, none, none, none] ∧ word ∈ wordsT ∧ (ks = [] → word ∉ sixT) ∧ PoolAt H' p q (n + 2) ∧ Keeps p q H H', ?_, ?_⟩
    · refine ⟨_, rfl, _, rfl, W, _, rfl, gT, _, rfl, _, rfl, rfl, _, rfl, iteF ⟨_, rfl, !(ks.map V.str).isEmpty, .inr (.inl ⟨_, hk9, rfl⟩), ?_⟩⟩
      by_cases e : ks = []
      · subst e
        refine iteF ⟨p, q, n + 1, 5, rfl, P9, by omega, by decide, by decide, fun d H2 d0 d1 P2 K2 => ?_⟩
        obtain ⟨i, rfl⟩ : ∃ i : Nat, d = (i : Int) := ⟨d.toNat, by omega⟩
        have hi : i < (wordsT.take 5).length := by show i < 5; omega
        have e0 : (wordsT.take 5)[i]? = some ((wordsT.take 5)[i]) := List.getElem?_eq_getElem hi
        generalize (wordsT.take 5)[i] = word at e0
        have m5 := List.mem_of_getElem? e0
        have e1 : wordsT[i]? = some word := by rw [List.getElem?_take] at e0; rw [if_pos (by omega)] at e0; exact e0
        exact ⟨l2, _, _, _, rfl, rfl, SqL.of (K2 _ _ lp lq eT9), atI_nat (by rw [List.getElem?_map, e1]; rfl), word, rfl, pick e1, fun _ => wordsT_less _ m5, P2, K9.trans K2⟩
      · have eb : (!(ks.map V.str).isEmpty) = true := by cases ks with
          | nil => exact absurd rfl e
          | cons _ _ => rfl
        rw [eb]
        refine iteT ⟨_, rfl, _, rfl, W, _, rfl, gT, l2, _, rfl, .inl (SqL.of eT9), p, q, n + 1, 11, rfl, P9, by omega, by decide, by decide, fun d H2 d0 d1 P2 K2 => ?_⟩
        obtain ⟨i, rfl⟩ : ∃ i : Nat, d = (i : Int) := ⟨d.toNat, by omega⟩
        have hi : i < wordsT.length := by show i < 11; omega
        have e1 : wordsT[i]? = some (wordsT[i]) := List.getElem?_eq_getElem hi
        generalize wordsT[i] = word at e1
        exact ⟨l2, _, _, _, rfl, rfl, SqL.of (K2 _ _ lp lq eT9), atI_nat (by rw [List.getElem?_map, e1]; rfl), word, rfl, pick e1, fun h => absurd h e, P2, K9.trans K2⟩
    · clear gT eT9 P9 K9 ms9 hk9 pick lp lq lW nWp nWq nWH
      rintro σ H3 ⟨word, rfl, hw, hno, P3, K3⟩
      have alK : ∀ {H' : Hp} {n' : Nat}, PoolAt H' p q n' → Keeps p q H H' → Alive L H' := fun P' K' z hz => by
        by_cases zp : z = p
        · rw [zp]; exact P'.p_some
        by_cases zq : z = q
        · rw [zq]; exact P'.q_some
        obtain ⟨o, eo⟩ := al z hz
        exact ⟨o, K' _ _ zp zq eo⟩
      have hkH : ∀ {H' : Hp}, Keeps p q H H' → SqT K H' kp (ks.map V.str) := fun K' => Same.seqT (mask_sub _ _) (Same.seqT (K'.maskL mp mq) hk)
      refine ⟨_, rfl, by show 6 ≤ sizeLine; decide, fun t1 nt1 => ?_⟩
      have P4 := P3.same (same_new (o := .tup [.str "get", .str "peek", .str "has", .str "put", .str "fill", .str "drop"]) nt1)
      have K4 : Keeps p q H (upd H3 t1 (.tup [.str "get", .str "peek", .str "has", .str "put", .str "fill", .str "drop"])) := K3.trans (.of_same (same_new nt1))
      have et1 : SqT K (upd H3 t1 (.tup [.str "get", .str "peek", .str "has", .str "put", .str "fill", .str "drop"])) t1 [.str "get", .str "peek", .str "has", .str "put", .str "fill", .str "drop"] := SqT.of upd_same
      generalize upd H3 t1 (.tup [.str "get", .str "peek", .str "has", .str "put", .str "fill", .str "drop"]) = H4 at *
      refine ⟨t1, _, rfl, .inr et1, rfl, rfl, _, rfl, ?_⟩
      show (if inV (V.str word) [.str "get", .str "peek", .str "has", .str "put", .str "fill", .str "drop"] = true then _ else _)
      rw [inW (xs := sixT) (vs := [.str "get", .str "peek", .str "has", .str "put", .str "fill", .str "drop"]) rfl]
      by_cases w1 : word ∈ sixT
      · rw [decide_eq_true w1]
        have hne : ks ≠ [] := fun h => hno h w1
        have h4 : ((ks.length : Nat) : Int) ≤ 10 ^ 40 := Int.le_trans (show ((ks.length : Nat) : Int) ≤ 4 by omega) (by decide)
        have hpos : 0 < ks.length := List.length_pos_iff.mpr hne
        refine iteT ⟨_, rfl, _, rfl, _, rfl, _, rfl, _, rfl, kp, _, rfl, .inr (hkH K4), p, q, n + 2, _, rfl, P4, by omega, by rw [List.length_map]; omega, by rw [List.length_map]; exact h4, fun d H5 d0 d1 P5 K5 => ?_⟩
        rw [List.length_map] at d1
        obtain ⟨i, rfl⟩ : ∃ i : Nat, d = (i : Int) := ⟨d.toNat, by omega⟩
        have K45 := K4.trans K5
        have e1 : ks[i]? = some (ks[i]'(by omega)) := List.getElem?_eq_getElem _
        generalize ks[i]'(by omega) = k at e1
        refine ⟨kp, _, _, _, rfl, rfl, hkH K45, atI_nat (by rw [List.getElem?_map, e1]; rfl), by show 3 ≤ sizeLine; decide, fun b nb => ?_⟩
        have s6 := same_new (o := .tup [.str word, .str x, .str k]) nb
        exact kk b word [.str k] [.str k] (n + 3) _ (P5.same s6) (by omega) (K45.trans (.of_same s6)) (SqT.of (mask_upd ((alK P5 K45).not nb))) (.cons (.str _) .nil) (.inr (.inl ⟨w1, k, List.mem_of_getElem? e1, rfl⟩))
      rw [decide_eq_false w1]
      refine iteF ?_
      refine ⟨_, rfl, by show 2 ≤ sizeLine; decide, fun t2 nt2 => ?_⟩
      have P5 := P4.same (same_new (o := .tup [.str "bind", .str "copy"]) nt2)
      have K5 : Keeps p q H (upd H4 t2 (.tup [.str "bind", .str "copy"])) := K4.trans (.of_same (same_new nt2))
      have et2 : SqT K (upd H4 t2 (.tup [.str "bind", .str "copy"])) t2 [.str "bind", .str "copy"] := SqT.of upd_same
      generalize upd H4 t2 (.tup [.str "bind", .str "copy"]) = H5 at *
      refine ⟨t2, _, rfl, .inr et2, rfl, rfl, _, rfl, ?_⟩
      show (if inV (V.str word) [.str "bind", .str "copy"] = true then _ else _)
      obtain ⟨w2, w3, w4⟩ := wordsT_no word hw
      rw [inW (xs := ["bind", "copy"]) (vs := [V.str "bind", V.str "copy"]) rfl, decide_eq_false w2]
      refine iteF ⟨_, rfl, rfl, _, rfl, ?_⟩
      show (if decide (V.str word = V.str "fetch") = true then _ else _)
      rw [show decide (V.str word = V.str "fetch") = false from decide_eq_false fun h => w3 (by injection h)]
      refine iteF ⟨_, rfl, rfl, _, rfl, ?_⟩
      show (if decide (V.str word = V.str "load") = true then _ else _)
      by_cases w5 : word = "load"
      · rw [decide_eq_true (show V.str word = V.str "load" by rw [w5])]
        refine iteT ?_
        refine ⟨_, rfl, p, q, n + 2, rfl, P5, by omega, fun z n6 H6 hz hn1 hn2 P6 K6 => ⟨by show 1 ≤ sizeLine; decide, fun kl nkl => ?_⟩⟩
        have K56 := K5.trans K6
        have klp : kl ≠ p := fun h => by obtain ⟨o, e⟩ := P6.p_some; rw [h, e] at nkl; cases nkl
        have klq : kl ≠ q := fun h => by obtain ⟨o, e⟩ := P6.q_some; rw [h, e] at nkl; cases nkl
        have nklH : H kl = none := K56.free nkl klp klq
        have upK : ∀ {H' : Hp} {o : HO}, Keeps p q H H' → Keeps p q H (upd H' kl o) := fun K' b o h1 h2 e => by rw [upd_ne (ne_of_none e nklH)]; exact K' b o h1 h2 e
        refine ⟨_, rfl, kp, rfl, ⟨_, hkH (upK K56)⟩, for_tup (K := K) (a := kp) (xs := ks.map V.str) (fun j σ H' => ∃ ls y11 m, σ = [some (.ref p), some (.ref a), some (.ref t), some (.str "table"), some (.str x), some (.ref kp), some (.ref W), some (.str word), none, none, some (.ref kl), y11] ∧ H' kl = some (.lst (ls.map V.str)) ∧ ls.length ≤ 1 + j ∧ (∀ z ∈ ls, IsWord z) ∧ PoolAt H' p q m ∧ m ≤ n + 11 + j ∧ Keeps p q H H')
          ⟨[z], none, n6, rfl, upd_same, Nat.le_refl _, fun y hy => by rw [List.mem_singleton.mp hy]; exact hz, P6.upd klp klq, by omega, upK K56⟩ (fun j σ H' _ ⟨_, _, _, _, _, _, _, _, _, h⟩ => hkH h) (fun j y σ H' hy hI => ?_) (fun σ H' hI => ?_)⟩
        · obtain ⟨ls, y11, m, rfl, ekl, hll, hlw, P7, hm, K7⟩ := hI
          rw [List.getElem?_map] at hy
          obtain ⟨k, ek, rfl⟩ := Option.map_eq_some_iff.mp hy
          have hj : j < 4 := by have := (List.getElem?_eq_some_iff.mp ek).1; omega
          refine ⟨_, rfl, p, q, m, 2, rfl, P7, by omega, by decide, by decide, fun d H8 d0 d1 P8 K8 => ?_⟩
          have K78 := K7.trans K8
          have ekl8 := K8 _ _ klp klq ekl
          refine ⟨rfl, _, rfl, ?_⟩
          show (if decide (V.int d = V.int 1) = true then _ else _)
          by_cases hd : d = 1
          · rw [decide_eq_true (show V.int d = V.int 1 by rw [hd])]
            refine iteT ⟨_, rfl, .inl ⟨rfl, _, SqL.of ekl8⟩, _, rfl, kl, _, _, rfl, rfl, ekl8, small1000 (by rw [List.length_map]; omega), ls ++ [k], _, m + 1, rfl, by rw [upd_same, List.map_append]; rfl, by rw [List.length_append]; show ls.length + 1 ≤ _; omega, fun y hy => ?_, P8.upd klp klq, by omega, upK K78⟩
            rcases List.mem_append.mp hy with hy | hy
            · exact hlw y hy
            · rw [List.mem_singleton.mp hy]; exact hkw _ (List.mem_of_getElem? ek)
          · rw [show decide (V.int d = V.int 1) = false from decide_eq_false fun h => hd (by injection h)]
            exact iteF ⟨ls, _, m + 1, rfl, ekl8, by omega, hlw, P8, by omega, K78⟩
        · obtain ⟨ls, y11, m, rfl, ekl, hll, hlw, P7, hm, K7⟩ := hI
          rw [List.length_map] at hll hm
          have done : ∀ (ls' : List Str) (c : Addr) (H9 : Hp), ls'.length ≤ 5 → (∀ z ∈ ls', IsWord z) → PoolAt H9 p q (m + 1) → Keeps p q H H9 → H9 c = none → ∀ b, (upd H9 c (.tup (ls'.map V.str))) b = none → Q (.ref b) (upd (upd H9 c (.tup (ls'.map V.str))) b (.tup [.str word, .str x, .ref c])) := by
            intro ls' c H9 hl9 hw9 P9 K9 nc b nb
            have sc := same_new (o := .tup (ls'.map V.str)) nc
            have cL := (alK P9 K9).not nc
            have ec : (upd H9 c (.tup (ls'.map V.str))) c = some (.tup (ls'.map V.str)) := upd_same
            have P10 := P9.same sc
            have K10 := K9.trans (.of_same sc)
            generalize upd H9 c (.tup (ls'.map V.str)) = H10 at *
            have sb := same_new (o := .tup [.str word, .str x, .ref c]) nb
            have all : ∀ (M : Hp) (r : List Str), DpAll K M (r.map V.str) (r.map PyData.str) := fun M r => by
              induction r with
              | nil => exact .nil
              | cons e r ih => exact .cons (.str _) ih
            exact kk b word [.ref c] [.tuple (ls'.map .str)] (m + 1) _ (P10.same sb) (by omega) (K10.trans (.of_same sb)) (SqT.of (mask_upd ((alK P10 K10).not nb))) (.cons (.tup (SqT.of (by rw [mask_out cL]; exact sb _ _ ec)) (all _ _)) .nil) (.inr (.inr ⟨w5, ls', hw9, hl9, rfl⟩))
          refine ⟨_, rfl, _, rfl, _, rfl, p, q, m, 2, rfl, P7, by omega, by decide, by decide, fun d H8 d0 d1 P8 K8 => ?_⟩
          have K78 := K7.trans K8
          have ekl8 := K8 _ _ klp klq ekl
          refine ⟨rfl, _, rfl, ?_⟩
          show (if decide (V.int d = V.int 1) = true then _ else _)
          by_cases hd : d = 1
          · rw [decide_eq_true (show V.int d = V.int 1 by rw [hd])]
            refine iteT ⟨_, rfl, kl, _, rfl, SqL.of ekl8, fun l nl => ?_⟩
            have sl := same_new (o := .lst (ls.map V.str).reverse) nl
            rw [← List.map_reverse] at *
            refine ⟨⟨l, _, rfl, .inl ⟨SqL.of upd_same, fun c nc => ⟨by show 3 ≤ sizeLine; decide, fun b nb => ?_⟩⟩⟩⟩
            exact done ls.reverse c _ (by rw [List.length_reverse]; omega) (fun y hy => hlw y (List.mem_reverse.mp hy)) (P8.same sl) (K78.trans (.of_same sl)) nc b nb
          · rw [show decide (V.int d = V.int 1) = false from decide_eq_false fun h => hd (by injection h)]
            refine iteF ⟨_, rfl, ⟨kl, _, rfl, .inl ⟨SqL.of ekl8, fun c nc => ⟨by show 3 ≤ sizeLine; decide, fun b nb => ?_⟩⟩⟩⟩
            exact done ls c _ (by omega) hlw P8 K78 nc b nb
      rw [show decide (V.str word = V.str "load") = false from decide_eq_false fun h => w5 (by injection h)]
      refine iteF ⟨_, rfl, rfl, _, rfl, ?_⟩
      show (if decide (V.str word = V.str "mark") = true then _ else _)
      rw [show decide (V.str word = V.str "mark") = false from decide_eq_false fun h => w4 (by injection h)]
      refine iteF ⟨_, rfl, _, rfl, by show 2 ≤ sizeLine; decide, fun b nb => ?_⟩
      have s6 := same_new (o := .tup [.str word, .str x]) nb
      exact kk b word [] [] (n + 2) _ (P5.same s6) (by omega) (K5.trans (.of_same s6)) (SqT.of (mask_upd ((alK P5 K5).not nb))) .nil (.inl ⟨wordsT_rest word hw w1 w5, rfl⟩)
end

/-! ### the law -/
def th9 (n0 n1 : Str) (ks : List Str) : Ths := [(n0, "table", ks), (n1, "source", [])]
def cs9 (n0 n1 : Str) (es : List (Str × Int)) (z : Int) : List (Str × PyData) := [(n0, TbD es), (n1, .int z)]
theorem th9_fields (n0 n1 : Str) (ks : List Str) : FieldsOk (th9 n0 n1 ks) := by
  intro i n parts h
  match i with
  | 0 => cases h
  | 1 => cases h
  | i + 2 => simp [th9] at h
theorem dp_TbD (es : List (Str × Int)) (h : es.length ≤ 50) : dp 3 (TbD es) := by
  unfold TbD
  simp only [dp, List.length_map]
  refine ⟨by omega, fun x hx => ?_⟩
  obtain ⟨e, _, rfl⟩ := List.mem_map.mp hx
  simp [entD, dp]
theorem dp_strs (es : List (Str × Int)) (h : es.length ≤ 50) : dp 3 (.tuple (es.map fun e => PyData.str e.1)) := by
  simp only [dp, List.length_map]
  refine ⟨by omega, fun x hx => ?_⟩
  obtain ⟨e, _, rfl⟩ := List.mem_map.mp hx
  simp [dp]
structure Law09 (P : Program) (w : World) (K : PySem.W.Frag) (mg : Str → Option Value) (base : Heap) extends WDefs P w K mg base where
  (fTo fAd fSt : Addr)
  (xTo xAd xSt : FuncData)
  gTo : FnOk P w K mg base CX0 6 fTo xTo ["name", "keys"] (spTableOf K C)
  gAd : FnOk P w K mg base CX0 3 fAd xAd ["pool", "things"] (spAny K)
  gSt : FnOk P w K mg base CX0 2 fSt xSt ["held", "deed", "keys"] (spStep K)
  bTo : Binds K xTo ["name", "keys"] []
  bAd : Binds K xAd ["pool", "things"] []
  bSt : Binds K xSt ["held", "deed", "keys"] []
  mTo : mg "_law_table_of" = some (.ref fTo)
  mAd : mg "_law_any_deed" = some (.ref fAd)
  mSt : mg "_law_step" = some (.ref fSt)
  kTo : PySem.W.keepIn K (.ref fTo) = true
  kAd : PySem.W.keepIn K (.ref fAd) = true
  kSt : PySem.W.keepIn K (.ref fSt) = true
  aSize : ActK P w K mg base C CS dP dA "size" ["table"] rSize
  aKeys : ActK P w K mg base C CS dP dA "keys" ["table"] rKeys
  aWipe : ActK P w K mg base C CS dP dA "wipe" ["table"] rWipe
  aSpy : ActK P w K mg base C CS dP dA "spy" ["thing"] rSpy
  aLoad : ActK P w K mg base C CS dP dA "load" ["table", "keys"] rLoad
  aGet : ActK P w K mg base C CS dP dA "get" ["table", "key"] rGet
  aPeek : ActK P w K mg base C CS dP dA "peek" ["table", "key"] rPeek
  aHas : ActK P w K mg base C CS dP dA "has" ["table", "key"] rHas
  aPut : ActK P w K mg base C CS dP dA "put" ["table", "key"] rPut
  aFill : ActK P w K mg base C CS dP dA "fill" ["table", "key"] rFill
  aDrop : ActK P w K mg base C CS dP dA "drop" ["table", "key"] rDrop
  aChange : ActK P w K mg base C CS dP dA "change" ["source"] rKeep
def spLaw (K : PySem.W.Frag) : Sp := fun vs H Q _ => ∃ (a : Addr) (ns : List Int), vs = [.ref a] ∧ SqL K H a (ns.map V.int) ∧ ns.length ≤ 63 ∧ ∀ H', Q (.bl true) H'
/-- a deed that may be done: what it asks, what the world does -/
def Does (P : Program) (w : World) (K : PySem.W.Frag) (mg : Str → Option Value) (base : Heap) (C CS dP dA : Addr) (n0 n1 : Str) (ks : List Str) (z : Int) (word : Str) (rest : List PyData) (es : List (Str × Int)) (sr : Nat) (es' : List (Str × Int)) (sr' : Nat) (d : PyData) : Prop :=
  ∃ (kinds : List Str) (R : Ws → List PyData → Ws → PyData → Prop), ActK P w K mg base C CS dP dA word kinds R ∧ Paired GoodArg kinds (.str n0 :: rest) ∧ Paired (CheckArg (th9 n0 n1 ks) (.str n0)) kinds (.str n0 :: rest) ∧
    R ⟨th9 n0 n1 ks, cs9 n0 n1 es z, 0, 0, sr⟩ (.str n0 :: rest) ⟨th9 n0 n1 ks, cs9 n0 n1 es' z, 0, 0, sr'⟩ d
section
variable {P : Program} {w : World} {K : PySem.W.Frag} {mg : Str → Option Value} {base : Heap}
theorem does_spy (G : Law09 P w K mg base) {n0 n1 : Str} {ks : List Str} {z : Int} {es : List (Str × Int)} {sr : Nat} (hw0 : IsWord n0) : Does P w K mg base G.C G.CS G.dP G.dA n0 n1 ks z "spy" [] es sr es sr .none :=
  ⟨_, _, G.aSpy, .cons (.name (by decide +kernel) (by decide +kernel) hw0) .nil, .cons (.thing (look2a (n0 := n0) (n1 := n1))) .nil, ⟨n0, rfl, rfl, rfl⟩⟩
theorem does_step (G : Law09 P w K mg base) {n0 n1 : Str} {ks : List Str} {z : Int} {word : Str} {rest : List PyData} {es es' : List (Str × Int)} {sr sr' : Nat} {d : PyData} (hw0 : IsWord n0) (hne : n0 ≠ n1) (hkl : ks.length ≤ 4) (hkw : ∀ k ∈ ks, IsWord k) (ho : EsOk ks es)
    (hd : DeedR ks word rest) (h : StepR ks es sr word rest es' sr' d) : Does P w K mg base G.C G.CS G.dP G.dA n0 n1 ks z word rest es sr es' sr' d := by
  have lc : look (cs9 n0 n1 es z) n0 = some (TbD es) := look2a
  have lt : look (th9 n0 n1 ks) n0 = some (("table" : Str), ks) := look2a
  have pc : ∀ es2, put (cs9 n0 n1 es z) n0 (TbD es2) = cs9 n0 n1 es2 z := fun es2 => put2a hne
  have tb := ho.tab hkl
  have gT : GoodArg "table" (.str n0) := .name (by decide +kernel) (by decide +kernel) hw0
  have cT : CheckArg (th9 n0 n1 ks) (.str n0) "table" (.str n0) := .kind (by decide +kernel) lt
  have key : ∀ {k : Str}, DeedR ks word [.str k] → k ∈ ks := fun {k} hd => by
    rcases hd with ⟨_, h⟩ | ⟨_, k', hk', h⟩ | ⟨_, ls, _, _, h⟩
    · cases h
    · injection h with h _
      injection h with h
      rw [h]; exact hk'
    · injection h with h _
      cases h
  have gK : ∀ {k : Str}, DeedR ks word [.str k] → Paired GoodArg ["table", "key"] [.str n0, .str k] ∧ Paired (CheckArg (th9 n0 n1 ks) (.str n0)) ["table", "key"] [.str n0, .str k] := fun {k} hd => ⟨.cons gT (.cons (.name (by decide +kernel) (by decide +kernel) (hkw _ (key hd))) .nil), .cons cT (.cons (.key rfl lt (key hd)) .nil)⟩
  cases h with
  | size => exact ⟨_, _, G.aSize, .cons gT .nil, .cons cT .nil, n0, es, rfl, lc, tb, rfl, rfl⟩
  | keys => exact ⟨_, _, G.aKeys, .cons gT .nil, .cons cT .nil, n0, es, rfl, lc, tb, rfl, rfl⟩
  | wipe => exact ⟨_, _, G.aWipe, .cons gT .nil, .cons cT .nil, n0, rfl, by rw [pc], rfl⟩
  | load ls =>
    have hls : (∀ z ∈ ls, IsWord z) ∧ ls.length ≤ 5 := by
      rcases hd with ⟨_, h⟩ | ⟨_, k', hk', h⟩ | ⟨_, ls', h1, h2, h⟩
      · cases h
      · injection h with h _
        cases h
      · injection h with h _
        injection h with h
        have inj : ∀ {a b : List Str}, a.map PyData.str = b.map PyData.str → a = b := fun {a b} e => by
          induction a generalizing b with
          | nil => cases b with
            | nil => rfl
            | cons _ _ => cases e
          | cons x r ih => cases b with
            | nil => cases e
            | cons y s =>
              injection e with e1 e2
              injection e1 with e1
              rw [e1, ih e2]
        rw [inj h]; exact ⟨h1, h2⟩
    exact ⟨_, _, G.aLoad, .cons gT (.cons (.keys hls.1 (by omega)) .nil), .cons cT (.cons (.other (by decide +kernel) (by decide +kernel) (by decide +kernel)) .nil), n0, ls, _, ks, rfl, lt, by omega, by rw [pc], rfl⟩
  | has k => exact ⟨_, _, G.aHas, (gK hd).1, (gK hd).2, n0, k, es, rfl, lc, tb, rfl, rfl⟩
  | peek k => exact ⟨_, _, G.aPeek, (gK hd).1, (gK hd).2, n0, k, es, rfl, lc, tb, rfl, rfl⟩
  | drop k => exact ⟨_, _, G.aDrop, (gK hd).1, (gK hd).2, n0, k, es, rfl, lc, tb, by rw [pc], rfl⟩
  | get k => exact ⟨_, _, G.aGet, (gK hd).1, (gK hd).2, n0, k, es, rfl, lc, tb, by rw [pc], rfl⟩
  | put k => exact ⟨_, _, G.aPut, (gK hd).1, (gK hd).2, n0, k, es, rfl, lc, tb, by rw [pc], rfl⟩
  | fill k => exact ⟨_, _, G.aFill, (gK hd).1, (gK hd).2, n0, k, es, rfl, lc, tb, by rw [pc], rfl⟩
theorem step_of {ks : List Str} {word : Str} {rest : List PyData} {es : List (Str × Int)} {sr : Nat} (hkl : ks.length ≤ 4) (hkn : ks.Nodup) (ho : EsOk ks es) (hd : DeedR ks word rest) (hs : word ≠ "spy") : ∃ es' sr' d, StepR ks es sr word rest es' sr' d ∧ EsOk ks es' ∧ dp 3 d := by
  have hl := ho.len hkl
  rcases hd with ⟨hw, rfl⟩ | ⟨hw, k, hk, rfl⟩ | ⟨rfl, ls, _, _, rfl⟩
  · simp only [List.mem_cons, List.not_mem_nil, or_false] at hw
    rcases hw with rfl | rfl | rfl | rfl
    · exact ⟨_, _, _, .size, ho, by simp [dp]⟩
    · exact ⟨_, _, _, .keys, ho, dp_strs es (by omega)⟩
    · exact ⟨_, _, _, .wipe, .nil, by simp [dp]⟩
    · exact absurd rfl hs
  · simp only [sixT, List.mem_cons, List.not_mem_nil, or_false] at hw
    rcases hw with rfl | rfl | rfl | rfl | rfl | rfl
    · exact ⟨_, _, _, .get k, ho.setD hk, by simp [dp]⟩
    · exact ⟨_, _, _, .peek k, ho, by cases look es k <;> simp [dp]⟩
    · exact ⟨_, _, _, .has k, ho, by simp [dp]⟩
    · exact ⟨_, _, _, .put k, ho.put hk, by simp [dp]⟩
    · exact ⟨_, _, _, .fill k, ho.setD hk, by simp [dp]⟩
    · exact ⟨_, _, _, .drop k, ho.drop, by simp [dp]⟩
  · exact ⟨_, _, _, .load ls, .load sr hkn, by simp [dp]⟩
end
/-- what stays -/
structure Fx (K : PySem.W.Frag) (CW : Addr) (L : List Addr) (nl kl tl t0 kp x s : Addr) (tvs : List V) (n0 n1 : Str) (ks : List Str) (t1 : V) (H : Hp) : Prop where
  nnl : nl ∉ L
  nkl : kl ∉ L
  ntl : tl ∉ L
  nl : H nl = some (.lst [.str n0, .str n1])
  kl : H kl = some (.lst (ks.map V.str))
  tl : H tl = some (.lst [.ref t0, t1])
  t0 : SqT K (mask L H) t0 [.str "table", .str n0, .ref kp]
  kp : SqT K (mask L H) kp (ks.map V.str)
  W : WoAt K L H CW x s tvs
theorem Fx.chg {K : PySem.W.Frag} {CW : Addr} {L l : List Addr} {nl kl tl t0 kp x s : Addr} {tvs : List V} {n0 n1 : Str} {ks : List Str} {t1 : V} {H H' : Hp} (h : Fx K CW L nl kl tl t0 kp x s tvs n0 n1 ks t1 H) (c : Chg l H H') (hl : ∀ x ∈ l, x ∈ L) : Fx K CW L nl kl tl t0 kp x s tvs n0 n1 ks t1 H' :=
  have m := (c.more hl).mask
  ⟨h.nnl, h.nkl, h.ntl, c _ _ (fun z => h.nnl (hl _ z)) h.nl, c _ _ (fun z => h.nkl (hl _ z)) h.kl, c _ _ (fun z => h.ntl (hl _ z)) h.tl, Same.seqT m h.t0, Same.seqT m h.kp, h.W.keep m⟩
/-- .. and what changes -/
structure Mv (K : PySem.W.Frag) (C CS : Addr) (L : List Addr) (p q D s ct : Addr) (n0 n1 : Str) (ks : List Str) (n : Nat) (es : List (Str × Int)) (sr : Nat) (z : Int) (hes : List (Str × Int)) (hsr : Nat) (H : Hp) : Prop where
  Po : PoolAt H p q n
  S : StAt K L H C CS s ct ⟨th9 n0 n1 ks, cs9 n0 n1 es z, 0, 0, sr⟩
  hD : ∃ el, H D = some (.dK (kvs (heldK el hsr))) ∧ EntL K L H el hes
section
variable {K : PySem.W.Frag} {C CS : Addr} {L : List Addr} {p q D s ct : Addr} {n0 n1 : Str} {ks : List Str} {n n' : Nat} {es hes es2 : List (Str × Int)} {sr hsr sr2 : Nat} {z z2 : Int} {H H' : Hp}
theorem Mv.same (h : Mv K C CS L p q D s ct n0 n1 ks n es sr z hes hsr H) (c : Same H H') : Mv K C CS L p q D s ct n0 n1 ks n es sr z hes hsr H' := by
  obtain ⟨h1, h2, el, h3, h4⟩ := h
  exact ⟨h1.same c, h2.same c, el, c _ _ h3, h4.same c⟩
theorem Mv.ne (h : Mv K C CS L p q D s ct n0 n1 ks n es sr z hes hsr H) : D ≠ p ∧ D ≠ q ∧ D ≠ s ∧ p ∉ [s, ct] ∧ q ∉ [s, ct] ∧ p ∉ [D] ∧ q ∉ [D] := by
  obtain ⟨h1, h2, el, h3, h4⟩ := h
  obtain ⟨_, cs, b, c, e1, e2, _⟩ := h1
  have a1 : D ≠ p := fun z => by rw [z, e1] at h3; cases h3
  have a2 : D ≠ q := fun z => by rw [z, e2] at h3; cases h3
  refine ⟨a1, a2, fun z => ?_, h2.not_lst e1, h2.not_lst e2, fun m => a1 (List.mem_singleton.mp m).symm, fun m => a2 (List.mem_singleton.mp m).symm⟩
  obtain ⟨ds, bn, e⟩ := h2.self
  rw [z, e] at h3; cases h3
theorem Mv.pool (h : Mv K C CS L p q D s ct n0 n1 ks n es sr z hes hsr H) (P' : PoolAt H' p q n') (k : Keeps p q H H') (mp : p ∈ L) (mq : q ∈ L) : Mv K C CS L p q D s ct n0 n1 ks n' es sr z hes hsr H' := by
  obtain ⟨a1, a2, _⟩ := h.ne
  obtain ⟨h1, h2, el, h3, h4⟩ := h
  refine ⟨P', h2.pool h1 k mp mq, el, k _ _ a1 a2 h3, h4.chg k.chg fun x hx => ?_⟩
  rcases List.mem_cons.mp hx with rfl | hx
  · exact mp
  · rw [List.mem_singleton.mp hx]; exact mq
theorem Mv.held {el' : Addr} (h : Mv K C CS L p q D s ct n0 n1 ks n es sr z hes hsr H) (c : Chg [D] H H') (mD : D ∈ L) (dc : D ≠ ct) (e : H' D = some (.dK (kvs (heldK el' sr2)))) (eL : EntL K L H' el' es2) : Mv K C CS L p q D s ct n0 n1 ks n es sr z es2 sr2 H' := by
  obtain ⟨_, _, a3, _, _, a4, a5⟩ := h.ne
  obtain ⟨h1, h2, el, h3, h4⟩ := h
  have hm : ∀ x ∈ [D], x ∈ L := fun x hx => by rw [List.mem_singleton.mp hx]; exact mD
  exact ⟨h1.chg c a4 a5, h2.keep (c.more hm).mask (fun o e => c _ _ (fun m => a3 (List.mem_singleton.mp m).symm) e) (fun o e => c _ _ (fun m => dc (List.mem_singleton.mp m).symm) e), el', e, eL⟩
theorem Mv.doneW (h : Mv K C CS L p q D s ct n0 n1 ks n es sr z hes hsr H) (c : Chg [s, ct] H H') (dc : D ≠ ct) (S' : StAt K L H' C CS s ct ⟨th9 n0 n1 ks, cs9 n0 n1 es2 z2, 0, 0, sr2⟩) : Mv K C CS L p q D s ct n0 n1 ks n es2 sr2 z2 hes hsr H' := by
  obtain ⟨_, _, a3, a6, a7, _⟩ := h.ne
  obtain ⟨h1, h2, el, h3, h4⟩ := h
  refine ⟨h1.chg c a6 a7, S', el, c _ _ (fun m => ?_) h3, h4.chg c fun x hx => ?_⟩
  · rcases List.mem_cons.mp m with m | m
    · exact a3 m
    · exact dc (List.mem_singleton.mp m)
  · rcases List.mem_cons.mp hx with rfl | hx
    · exact h2.sL
    · rw [List.mem_singleton.mp hx]; exact h2.cL
theorem Mv.alive (h : Mv K C CS L p q D s ct n0 n1 ks n es sr z hes hsr H) (hL : L = [D, s, ct, p, q]) : Alive L H := by
  obtain ⟨h1, h2, el, h3, h4⟩ := h
  have h1' := h1
  have h2' := h2
  obtain ⟨sL, cL, ds', bn, tl, l, e1, _, _, e4, _⟩ := h2'
  intro b hb
  rw [hL] at hb
  simp only [List.mem_cons, List.not_mem_nil, or_false] at hb
  rcases hb with rfl | rfl | rfl | rfl | rfl
  · exact ⟨_, h3⟩
  · exact ⟨_, e1⟩
  · exact ⟨_, e4⟩
  · exact h1'.p_some
  · exact h1'.q_some
end
section
variable {P : Program} {w : World} {K : PySem.W.Frag} {mg : Str → Option Value} {base : Heap}
theorem scL : FnScope ["script", "pool", "names", "keys", "things", "world", "held", "turn", "deed", "due"] ["script"] (defScope sLaw) := ⟨rfl, rfl, rfl, by decide +kernel, rfl, by decide +kernel, by decide +kernel⟩
theorem ok_law {f : Addr} {fd : FuncData} (F : Fun K "law" "law" sLaw f fd) (G : Law09 P w K mg base) : FnOk P w K mg base CX0 7 f fd ["script"] (spLaw K) := by
  refine F.ok scL (fun vs H Q E h => ?_) (fun cdv A outer s0 H vs Q E hr h => ?_)
  · obtain ⟨a, ns, rfl, _⟩ := h
    rfl
  · obtain ⟨a, ns, rfl, hS0, hlen, kk⟩ := h
    have hu := hu_of hr
    have hr1 : Room 1 _ := hr.mono (by decide)
    have hr2 : Room 2 _ := hr.mono (by decide)
    have hr3 : Room 3 _ := hr.mono (by decide)
    have hr5 : Room 5 _ := hr.mono (by decide)
    obtain ⟨pm, gm, sm, Fm⟩ := G.td.one "source" (by simp)
    refine ⟨_, pss_cons (ps_set (i := 1) scL.nd rfl (.inl rfl) (pe_call G.gP hr1 (by rfl) G.mP G.kP G.bP .nil pass0 (pa_cons (pv 0) pa_nil)))
      (pss_cons (ps_set (i := 2) scL.nd rfl (.inl rfl) (pe_call G.gL hr2 (by rfl) G.mL G.kL G.bL .nil pass0 (pa_cons (pv 1) (pa_cons pe_int pa_nil))))
      (pss_cons (ps_set (i := 3) scL.nd rfl (.inl rfl) (pe_call G.gL hr2 (by rfl) G.mL G.kL G.bL .nil pass0 (pa_cons (pv 1) (pa_cons (pe_call G.gD hr1 (by rfl) G.mD G.kD G.bD .nil pass0 (pa_cons (pv 1) (pa_cons pe_int pa_nil))) pa_nil))))
      (pss_cons (ps_set (i := 4) scL.nd rfl (.inl rfl) (pe_lst (pa_cons (pe_tup (pa_cons pe_str (pa_cons (pe_ix ix_list (pv 2) pe_int (fun _ _ => rfl)) (pa_cons (pe_callTy call_tupS (by rfl) G.B.tuple (by decide +kernel) (pa_cons (pv 3) pa_nil)) pa_nil)))) (pa_cons (pe_tup (pa_cons pe_str (pa_cons (pe_ix ix_list (pv 2) pe_int (fun _ _ => rfl)) (pa_cons pe_tup0Q pa_nil)))) pa_nil))))
      (pss_cons (ps_set (i := 5) scL.nd rfl (.inl rfl) (StX.pe_makeR (E := E0) G.MW G.gW hr5 (by rfl) G.W.m pass0 (pa_cons (pe_call G.gTo hr (by rfl) G.mTo G.kTo G.bTo .nil pass0 (pa_cons (pe_ix ix_list (pv 2) pe_int (fun _ _ => rfl)) (pa_cons (pv 3) pa_nil))) (pa_cons (pe_smeth (E := E0) (pe_glob (v := .ref G.C) (by rfl) G.T.m rfl) G.T.rd sm Fm hr5 pass0 (pa_cons (pe_ix ix_list (pv 2) pe_int (fun _ _ => rfl)) pa_nil)) pa_nil))))
      (pss_cons (ps_set (i := 6) scL.nd rfl (.inl rfl) (pe_disp (pps_cons pe_str (pe_lst pa_nil) (pps_cons pe_str pe_int pps_nil)) rfl rfl (by decide) (by decide)))
      (pss_cons (ps_for PassesOwn.never rfl (pi_range1 (by rfl) G.B.range (pa_cons pe_int pa_nil)) (pg_name (i := 7) scL.nd rfl (.inl rfl))
        (C8.pss_cut (ps_if (pt_cmpR op_eq (pe_call G.gD hr1 (by rfl) G.mD G.kD G.bD .nil pass0 (pa_cons (pv 1) (pa_cons pe_int pa_nil))) pe_int (nomark _))
            (pss_cons (ps_daug hu (pv 6) pe_str pe_int in_add (by intros; rfl))
              (pss_one (ps_if (PW.pt (pw_or (pt_cmpR op_notN (pe_meth (pv 5) G.W.cls G.mDo G.gDo hr5 G.bDo .nil pass0 (pa_cons (pe_tup (pa_cons pe_str (pa_cons (pe_ix ix_list (pv 2) pe_int (fun _ _ => rfl)) pa_nil))) pa_nil)) pe_non (nomark _)) (pw_or1 (pt_not (pt_val (pe_call G.gS hr3 (by rfl) G.mS G.kS G.bS .nil pass0 (pa_cons (pe_itemOwn (E := E0) G.aIt G.nIt G.hIt G.gIt hr pass0 (pv 5) (pe_ix ix_list (pv 2) pe_int (fun _ _ => rfl))) (pa_cons (pe_dget hu (pv 6) pe_str (fun _ _ => rfl)) pa_nil))))))))
                (pss_one (ps_ret pe_bl))
                pss_nil)))
            (pss_cons (ps_set (i := 8) scL.nd rfl (.inl rfl) (pe_call G.gAd hr3 (by rfl) G.mAd G.kAd G.bAd .nil pass0 (pa_cons (pv 1) (pa_cons (pe_slice sl_list (pv 4) po_none (po_some pe_int)) pa_nil))))
              (C8.pss_cut (ps_set (i := 9) scL.nd rfl (.inl rfl) (pe_ifExp (pt_cmpR op_eq (pe_ix ix_tup (pv 8) pe_int (fun _ _ => rfl)) pe_str (nomark _)) pe_non (pe_call G.gSt hr2 (by rfl) G.mSt G.kSt G.bSt .nil pass0 (pa_cons (pv 6) (pa_cons (pv 8) (pa_cons (pv 3) pa_nil))))))
              (pss_one (ps_if (pt_not (pt_val (pe_call G.gS hr3 (by rfl) G.mS G.kS G.bS .nil pass0 (pa_cons (pe_meth (pv 5) G.W.cls G.mDo G.gDo hr5 G.bDo .nil pass0 (pa_cons (pv 8) pa_nil)) (pa_cons (pv 9) pa_nil)))))
                (pss_one (ps_ret pe_bl))
                pss_nil)))))
          (pss_one (ps_if (pt_not (pt_val (pe_call G.gS hr3 (by rfl) G.mS G.kS G.bS .nil pass0 (pa_cons (pe_itemOwn (E := E0) G.aIt G.nIt G.hIt G.gIt hr pass0 (pv 5) (pe_ix ix_list (pv 2) pe_int (fun _ _ => rfl))) (pa_cons (pe_callTy call_tupS (by rfl) G.B.tuple (by decide +kernel) (pa_cons (pe_dget hu (pv 6) pe_str (fun _ _ => rfl)) pa_nil)) pa_nil)))))
            (pss_one (ps_ret pe_bl))
            pss_nil))))
      (pss_one (ps_ret pe_bl)))))))), ?_⟩
    refine ⟨.ref a, rfl, a, ns, rfl, hS0, hlen, fun p q H1 np nq P1 s1 => ?_⟩
    refine ⟨.ref p, rfl, p, q, 0, 2, rfl, P1, by omega, by omega, fun nl nms n2 H2 nnl hl2 hw hnd _ hn2 P2 K2 enl => ?_⟩
    obtain ⟨n0, n1, rfl⟩ : ∃ n0 n1, nms = [n0, n1] := by
      match nms, hl2 with
      | [n0, n1], _ => exact ⟨n0, n1, rfl⟩
    have hne : n0 ≠ n1 := fun e => by
      rw [e] at hnd
      exact (List.nodup_cons.mp hnd).1 List.mem_cons_self
    have hw0 : IsWord n0 := hw n0 List.mem_cons_self
    have hw1 : IsWord n1 := hw n1 (List.mem_cons_of_mem _ List.mem_cons_self)
    have two : ∀ {z : Addr}, z ∉ [p, q] → z ≠ p ∧ z ≠ q := fun {z} h => ⟨fun e => h (by rw [e]; exact List.mem_cons_self), fun e => h (by rw [e]; exact List.mem_cons_of_mem _ List.mem_cons_self)⟩
    have nlp := P1.alive.not nnl
    refine ⟨_, rfl, _, rfl, p, q, n2, 5, rfl, P2, by omega, by decide, by decide, fun d H3 d0 d1 P3 K3 => ?_⟩
    obtain ⟨m, rfl⟩ : ∃ m : Nat, d = (m : Int) := ⟨d.toNat, by omega⟩
    have enl3 := K3 _ _ (two nlp).1 (two nlp).2 enl
    refine ⟨p, q, n2 + 1, m, rfl, P3, by omega, by omega, fun kl ks n4 H4 nkl hl4 hkw hkn _ hn4 P4 K4 ekl => ?_⟩
    have enl4 := K4 _ _ (two nlp).1 (two nlp).2 enl3
    have klp := P3.alive.not nkl
    have hkl : ks.length ≤ 4 := by omega
    clear enl3 enl K3 K2
    -- things
    refine ⟨_, rfl, nl, _, 0, _, rfl, rfl, SqL.of enl4, atI_nat (j := 0) rfl, _, rfl, ⟨kl, _, rfl, .inl ⟨SqL.of ekl, fun kp nkp => ⟨by show 3 ≤ sizeLine; decide, fun t0 nt0 => ?_⟩⟩⟩⟩
    have x1 := same_new (o := .tup (ks.map V.str)) nkp
    have ekp : (upd H4 kp (.tup (ks.map V.str))) kp = some (.tup (ks.map V.str)) := upd_same
    generalize upd H4 kp (.tup (ks.map V.str)) = H5 at *
    have x2 := same_new (o := .tup [.str "table", .str n0, .ref kp]) nt0
    have et0 : (upd H5 t0 (.tup [.str "table", .str n0, .ref kp])) t0 = some (.tup [.str "table", .str n0, .ref kp]) := upd_same
    generalize upd H5 t0 (.tup [.str "table", .str n0, .ref kp]) = H6 at *
    refine ⟨_, rfl, nl, _, 1, _, rfl, rfl, SqL.of (x2 _ _ (x1 _ _ enl4)), atI_nat (j := 1) rfl, fun ee nee => ⟨by show 3 ≤ sizeLine; decide, fun t1 nt1 => ⟨by show 2 ≤ sizeLine; decide, fun tl ntl => ?_⟩⟩⟩
    have x3 := same_new (o := .frz { cls := .type "tuple", data := .seq #[] } (.tup [])) nee
    generalize upd H6 ee (.frz { cls := .type "tuple", data := .seq #[] } (.tup [])) = H7 at *
    have x4 := same_new (o := .tup [.str "source", .str n1, .ref ee]) nt1
    generalize upd H7 t1 (.tup [.str "source", .str n1, .ref ee]) = H8 at *
    have x5 := same_new (o := .lst [.ref t0, .ref t1]) ntl
    have etl : (upd H8 tl (.lst [.ref t0, .ref t1])) tl = some (.lst [.ref t0, .ref t1]) := upd_same
    have x15 := (((x1.trans x2).trans x3).trans x4)
    have tlp := (P4.same x15).alive.not ntl
    generalize upd H8 tl (.lst [.ref t0, .ref t1]) = H9 at *
    have x16 := x15.trans x5
    have P9 := P4.same x16
    have kpp := P4.alive.not nkp
    have t0p := (P4.same x1).alive.not nt0
    have enl9 := x16 _ _ enl4
    have ekl9 := x16 _ _ ekl
    have ekp9 := x5 _ _ (x4 _ _ (x3 _ _ (x2 _ _ ekp)))
    have et09 := x5 _ _ (x4 _ _ (x3 _ _ et0))
    clear x1 x2 x3 x4 x5 x15 x16 enl4 ekl ekp et0 nkp nt0 nee nt1 ntl P4 P3 K4 P2
    -- the world
    refine ⟨_, rfl, nl, _, 0, _, rfl, rfl, SqL.of enl9, atI_nat (j := 0) rfl, _, rfl, n0, kl, ks, rfl, SqL.of ekl9, hw0, hkw, hkn, hkl, fun a1 Hb sb th1 => ?_⟩
    refine ⟨rfl, _, rfl, nl, _, 1, _, rfl, rfl, SqL.of (sb _ _ enl9), atI_nat (j := 1) rfl, n1, rfl, hw1, fun a2 Hc sc th2 => ?_⟩
    intro x dx nx ndx _
    have sbc := sb.trans sc
    have Pc := P9.same sbc
    have s5 : Same Hc (upd (upd Hc dx (.own x)) x (.ins G.CW dx [])) := fun b o e => by
      rw [upd_ne (ne_of_none e nx), upd_ne (ne_of_none e ndx)]; exact e
    have xL : x ∉ [p, q] := Pc.alive.not nx
    refine ⟨x, dx, [p, q], [(n0, .ref a1), (n1, .ref a2)], th9 n0 n1 ks, rfl, upd_same, xL, Pc.alive.same s5, (ThL.cons ((th1.same sc).pool Pc) (.cons (th2.pool Pc) .nil)).same (mask_same s5), hnd, by show 2 ≤ 8; decide, ?_, th9_fields n0 n1 ks, fun He s ct k6 ns6 nct6 hW hS => ⟨rfl, ?_⟩⟩
    · intro t ht
      rcases List.mem_cons.mp ht with rfl | ht
      · show ("table" : Str) ∈ kindsS; decide +kernel
      · rw [List.mem_singleton.mp ht]; show ("source" : Str) ∈ kindsS; decide +kernel
    have keep6 : ∀ b o, Hc b = some o → He b = some o := fun b o e => k6 b o (ne_of_none e nx) (s5 b o e)
    have Pe := Pc.same keep6
    have s9e : Same H9 He := fun b o e => keep6 b o (sbc b o e)
    have fresh : ∀ {b o}, H9 b = some o → b ≠ s ∧ b ≠ ct := fun {b o} e => by
      have e2 := s5 b o (sbc b o e)
      exact ⟨ne_of_none e2 ns6, ne_of_none e2 nct6⟩
    have hS0 : StAt K [s, ct, p, q] He G.C G.CS s ct ⟨th9 n0 n1 ks, cs9 n0 n1 [] 0, 0, 0, 0⟩ := hS
    -- the held dict
    refine fun D nD => ⟨by show 0 ≤ sizeLine; decide, fun el nel => ?_⟩
    have nDp := two (Pe.alive.not nD)
    have nDs : D ≠ s := by
      obtain ⟨ds, bn, e⟩ := hS0.self
      exact (ne_of_none e nD).symm
    have nDc : D ≠ ct := by
      obtain ⟨_, _, ds', bn, tl', l, e1, _, _, e4, _⟩ := hS0
      exact (ne_of_none e4 nD).symm
    have eDf : (upd He D (.dK [])) D = some (.dK []) := upd_same
    have nelD : el ≠ D := (ne_of_none eDf nel).symm
    have hSf := hS0.more (o := .dK []) nD
    have hWf := hW.more (o := .dK []) nD
    have Pf := Pe.new (o := .dK []) nD
    have sf := same_new (o := .dK []) nD
    generalize upd He D (.dK []) = Hf at *
    have sg := same_new (o := .lst []) nel
    have eelg : (upd Hf el (.lst [])) el = some (.lst []) := upd_same
    have elp : el ≠ s ∧ el ≠ ct ∧ el ∉ [p, q] := by
      refine ⟨?_, ?_, Pf.alive.not nel⟩
      · obtain ⟨ds, bn, e⟩ := hSf.self
        exact (ne_of_none e nel).symm
      · obtain ⟨_, _, ds', bn, tl', l, e1, _, _, e4, _⟩ := hSf
        exact (ne_of_none e4 nel).symm
    have hSg := hSf.same sg
    have hWg := hWf.keep (mask_same sg)
    have Pg := Pf.same sg
    have eDg := sg _ _ eDf
    have seg : Same He (upd Hf el (.lst [])) := sf.trans sg
    generalize upd Hf el (.lst []) = Hg at *
    refine ⟨eDg, kvs (heldK el 0), rfl, by show 2 ≤ 15; decide, ?_⟩
    rw [show mergeK [] (kvs (heldK el 0)) = kvs (heldK el 0) from mergeK_kvs (a := []) (by show (["entries", "serial"] : List Str).Nodup; decide +kernel)]
    have hSh := hSg.upd (o := .dK (kvs (heldK el 0))) List.mem_cons_self nDs nDc
    have hWh := hWg.keep (mask_at (o := .dK (kvs (heldK el 0))) List.mem_cons_self)
    have Ph := Pg.upd (o := .dK (kvs (heldK el 0))) nDp.1 nDp.2
    have eDh : (upd Hg D (.dK (kvs (heldK el 0)))) D = some (.dK (kvs (heldK el 0))) := upd_same
    have eelh : (upd Hg D (.dK (kvs (heldK el 0)))) el = some (.lst []) := by rw [upd_ne nelD]; exact eelg
    have s9h : Same H9 (upd Hg D (.dK (kvs (heldK el 0)))) := fun b o e => by
      rw [upd_ne (ne_of_none (s9e b o e) nD)]; exact seg b o (s9e b o e)
    generalize upd Hg D (.dK (kvs (heldK el 0))) = Hh at *
    have notL : ∀ {b o}, H9 b = some o → b ∉ [p, q] → b ∉ [D, s, ct, p, q] := fun {b o} e h m => by
      rcases List.mem_cons.mp m with z | m
      · exact ne_of_none (s9e b o e) nD z
      rcases List.mem_cons.mp m with z | m
      · exact (fresh e).1 z
      rcases List.mem_cons.mp m with z | m
      · exact (fresh e).2 z
      · exact h m
    have elL : el ∉ [D, s, ct, p, q] := fun m => by
      rcases List.mem_cons.mp m with z | m
      · exact nelD z
      rcases List.mem_cons.mp m with z | m
      · exact elp.1 z
      rcases List.mem_cons.mp m with z | m
      · exact elp.2.1 z
      · exact elp.2.2 m
    have fx : Fx K G.CW [D, s, ct, p, q] nl kl tl t0 kp x s [.ref a1, .ref a2] n0 n1 ks (.ref t1) Hh :=
      ⟨notL enl9 nlp, notL ekl9 klp, notL etl tlp, s9h _ _ enl9, s9h _ _ ekl9, s9h _ _ etl, SqT.of (by rw [mask_out (notL et09 t0p)]; exact s9h _ _ et09), SqT.of (by rw [mask_out (notL ekp9 kpp)]; exact s9h _ _ ekp9), hWh⟩
    have mv : Mv K G.C G.CS [D, s, ct, p, q] p q D s ct n0 n1 ks n4 [] 0 0 [] 0 Hh := ⟨Ph, hSh, el, eDh, elL, [], eelh, .nil⟩
    obtain ⟨L, hL⟩ : ∃ L, L = [D, s, ct, p, q] := ⟨_, rfl⟩
    rw [← hL] at fx mv
    have mp : p ∈ L := by rw [hL]; simp
    have mq : q ∈ L := by rw [hL]; simp
    have mD : D ∈ L := by rw [hL]; simp
    have ms : s ∈ L := by rw [hL]; simp
    have mc : ct ∈ L := by rw [hL]; simp
    clear notL elL s9h eelh eDh Ph hWh hSh seg eDg Pg hWg hSg elp eelg sg sf Pf hWf hSf nelD eDf nel nD hS0 hS hW fresh s9e Pe keep6 s5 Pc sbc th1 th2 sb sc enl9 ekl9 ekp9 et09 etl P9
    generalize ([V.ref a1, .ref a2] : List V) = tvs at fx
    refine ⟨40, rfl, by decide, by decide, for_range (lo := 0) (n := 40) (fun i σ H => ∃ (n : Nat) (es : List (Str × Int)) (sr : Nat) (z : Int) (y7 y8 y9 : Option V), σ = [some (.ref a), some (.ref p), some (.ref nl), some (.ref kl), some (.ref tl), some (.ref x), some (.ref D), y7, y8, y9] ∧ n ≤ 100 + 30 * i ∧
        Fx K G.CW L nl kl tl t0 kp x s tvs n0 n1 ks (.ref t1) H ∧ Mv K G.C G.CS L p q D s ct n0 n1 ks n es sr z es sr H ∧ EsOk ks es) ⟨n4, [], 0, 0, none, none, none, rfl, by omega, fx, mv, .nil⟩ ?_ ?_⟩
    · rintro i σ H0 hi ⟨n, es, sr, z, y7, y8, y9, rfl, hn, fx0, mv0, ho⟩
      have hmD : ∀ x ∈ [D], x ∈ L := fun x hx => by rw [List.mem_singleton.mp hx]; exact mD
      have hmp : ∀ x ∈ [p, q], x ∈ L := fun x hx => by
        rcases List.mem_cons.mp hx with rfl | hx
        · exact mp
        · rw [List.mem_singleton.mp hx]; exact mq
      have hms : ∀ x ∈ [s, ct], x ∈ L := fun x hx => by
        rcases List.mem_cons.mp hx with rfl | hx
        · exact ms
        · rw [List.mem_singleton.mp hx]; exact mc
      have nil' : ∀ x ∈ ([] : List Addr), x ∈ L := fun _ h => (by cases h)
      refine ⟨fun σ H => ∃ (n : Nat) (es : List (Str × Int)) (sr : Nat) (z : Int) (y8 y9 : Option V), σ = [some (.ref a), some (.ref p), some (.ref nl), some (.ref kl), some (.ref tl), some (.ref x), some (.ref D), some (.int (0 + (i : Int))), y8, y9] ∧ n ≤ 130 + 30 * i ∧
        Fx K G.CW L nl kl tl t0 kp x s tvs n0 n1 ks (.ref t1) H ∧ Mv K G.C G.CS L p q D s ct n0 n1 ks n es sr z es sr H ∧ EsOk ks es, ?_, ?_⟩
      · refine ⟨_, rfl, p, q, n, 8, rfl, mv0.Po, by omega, by decide, by decide, fun d H1 d0 d1 P1 K1 => ?_⟩
        have fx1 := fx0.chg K1.chg hmp
        have mv1 := mv0.pool P1 K1 mp mq
        refine ⟨rfl, _, rfl, ?_⟩
        show (if decide (V.int d = V.int 7) = true then _ else _)
        by_cases hd : d = 7
        · rw [decide_eq_true (show V.int d = V.int 7 by rw [hd])]
          refine iteT ?_
          obtain ⟨el, eD, eL⟩ := mv1.hD
          refine ⟨_, rfl, D, _, rfl, held_s eD, _, _, rfl, rfl, _, held_ps eD, ?_⟩
          have c2 : Chg [D] H1 (upd H1 D (.dK (kvs (heldK el (sr + 1))))) := Chg.upd List.mem_cons_self
          have mv2 := mv1.held c2 mD nDc upd_same (eL.chg c2 hmD)
          have fx2 := fx1.chg c2 hmD
          clear c2 eD eL
          generalize upd H1 D (.dK (kvs (heldK el (sr + 1)))) = H2 at *
          obtain ⟨dw, tt, ew⟩ := fx2.W.of
          refine ⟨_, rfl, x, dw, _, rfl, ew, rfl, ?_⟩
          refine ⟨_, rfl, nl, _, 1, _, rfl, rfl, SqL.of fx2.nl, atI_nat (j := 1) rfl, by show 2 ≤ sizeLine; decide, fun t nt => ?_⟩
          have st := same_new (o := .tup [.str "change", .str n1]) nt
          have tL := (mv2.alive hL).not nt
          have et : (upd H2 t (.tup [.str "change", .str n1])) t = some (.tup [.str "change", .str n1]) := upd_same
          have mv3 := mv2.same st
          have fx3 := fx2.chg (Chg.of_same (l := []) st) nil'
          generalize upd H2 t (.tup [.str "change", .str n1]) = H3 at *
          refine do_gen (E' := E0) (W' := ⟨th9 n0 n1 ks, cs9 n0 n1 es ((sr + 1 : Nat) : Int), 0, 0, sr + 1⟩) G.aChange fx3.W mv3.S (by show 2 ≤ 100; decide) (mv3.alive hL) (SqT.of (by rw [mask_out tL]; exact et)) (.cons (.str n1) .nil) (by show 1 ≤ 100; decide) (.cons (.name (by decide +kernel) (by decide +kernel) hw1) .nil)
            (.cons (.kind (by decide +kernel) (look2b hne)) .nil) ⟨n1, rfl, by rw [show put (cs9 n0 n1 es z) n1 (.int ((sr + 1 : Nat) : Int)) = cs9 n0 n1 es ((sr + 1 : Nat) : Int) from put2b hne], rfl⟩ fun v H4 c4 hW4 hS4 dv => ?_
          have mv4 := mv3.doneW c4 nDc hS4
          have fx4 := fx3.chg c4 hms
          cases dv
          obtain ⟨dw4, tt4, ew4⟩ := fx4.W.of
          obtain ⟨el4, eD4, eL4⟩ := mv4.hD
          refine ⟨rfl, _, rfl, iteF ⟨_, rfl, _, rfl, nl, _, 1, _, rfl, rfl, SqL.of fx4.nl, atI_nat (j := 1) rfl, x, dw4, _, rfl, ew4, x, s, ct, L, tvs, _, n1, _, rfl, fx4.W, mv4.S, look2b hne, fun v' hv' => ?_⟩⟩
          refine ⟨_, rfl, D, _, rfl, held_s eD4, v', _, _, rfl, dp_same (mask_sub _ _) _ _ hv', .int _, by simp [dp], _, rfl, iteF ?_⟩
          exact ⟨n + 1, es, sr + 1, _, _, _, rfl, by omega, fx4, mv4, ho⟩
        · rw [show decide (V.int d = V.int 7) = false from decide_eq_false fun h => hd (by injection h)]
          refine iteF ?_
          refine ⟨_, rfl, _, rfl, 1, rfl, tl, _, rfl, SqL.of fx1.tl, fun ta nta => ?_⟩
          rw [show cutV [V.ref t0, V.ref t1] none (some 1) = [V.ref t0] from cut_take _ 1]
          have sa := same_new (o := .lst [.ref t0]) nta
          have taL := (mv1.alive hL).not nta
          have eta : (upd H1 ta (.lst [.ref t0])) ta = some (.lst [.ref t0]) := upd_same
          have mv2 := mv1.same sa
          have fx2 := fx1.chg (Chg.of_same (l := []) sa) nil'
          generalize upd H1 ta (.lst [.ref t0]) = H2 at *
          refine ⟨L, p, q, n + 1, ta, t0, kp, n0, ks, rfl, mv2.Po, by omega, mp, mq, mv2.alive hL, SqL.of (by rw [mask_out taL]; exact eta), fx2.t0, fx2.kp, hkl, hkw, fun b word args rest n' H3 P3 hn3 K3 hb hargs hdeed => ?_⟩
          have mv3 := mv2.pool P3 K3 mp mq
          have fx3 := fx2.chg K3.chg hmp
          clear mv2 fx2 eta mv1 fx1
          refine ⟨fun σ H' => ∃ (es' : List (Str × Int)) (sr' : Nat) (dd : PyData) (u : V), σ = [some (.ref a), some (.ref p), some (.ref nl), some (.ref kl), some (.ref tl), some (.ref x), some (.ref D), some (.int (0 + (i : Int))), some (.ref b), some u] ∧ Fx K G.CW L nl kl tl t0 kp x s tvs n0 n1 ks (.ref t1) H' ∧ Mv K G.C G.CS L p q D s ct n0 n1 ks n' es sr z es' sr' H' ∧ EsOk ks es' ∧ Dp K (mask L H') u dd ∧ dp 3 dd ∧
            SqT K (mask L H') b (.str word :: .str n0 :: args) ∧ DpAll K (mask L H') args rest ∧ Does P w K mg base G.C G.CS G.dP G.dA n0 n1 ks z word rest es sr es' sr' dd, ?_, ?_⟩
          · refine ⟨_, rfl, b, _, 0, _, rfl, rfl, Same.seqT (mask_sub _ _) hb, atI_nat (j := 0) rfl, rfl, _, rfl, ?_⟩
            show (if decide (V.str word = V.str "spy") = true then _ else _)
            by_cases hs : word = "spy"
            · subst hs
              obtain rfl : rest = [] := by
                rcases hdeed with ⟨_, h⟩ | ⟨h, _⟩ | ⟨h, _⟩
                · exact h
                · exact absurd h (by decide +kernel)
                · exact absurd h (by decide +kernel)
              rw [decide_eq_true (rfl : V.str "spy" = V.str "spy")]
              exact iteT ⟨es, sr, .none, .non, rfl, fx3, mv3, ho, .non, by simp [dp], hb, hargs, does_spy G hw0⟩
            · rw [show decide (V.str word = V.str "spy") = false from decide_eq_false fun h => hs (by injection h)]
              refine iteF ?_
              obtain ⟨es', sr', dd, hR, ho', hdp⟩ := step_of (sr := sr) hkl hkn ho hdeed hs
              obtain ⟨el, eD, eL⟩ := mv3.hD
              refine ⟨_, rfl, _, rfl, _, rfl, L, D, el, b, kl, es, es', sr, sr', word, n0, args, rest, ks, dd, rfl, mD, ⟨eD, eL, hb, hargs, SqL.of (by rw [mask_out fx3.nkl]; exact fx3.kl), mv3.alive hL⟩, hkl, ho, hR, fun v H4 el' c4 eD4 eL4 dv => ?_⟩
              exact ⟨es', sr', dd, v, rfl, fx3.chg c4 hmD, mv3.held c4 mD nDc eD4 eL4, ho', dv, hdp, Same.seqT (c4.more hmD).mask hb, dpAll_same (c4.more hmD).mask _ _ hargs, does_step G hw0 hne hkl hkw ho hdeed hR⟩
          · have hrl : rest.length ≤ 1 := by
              rcases hdeed with ⟨_, h⟩ | ⟨_, k', _, h⟩ | ⟨_, _, _, _, h⟩ <;> rw [h] <;> simp
            rintro σ H4 ⟨es', sr', dd, u, rfl, fx4, mv4, ho', du, hdp, hb4, ha4, kinds, R, hA, hg, hc, hRR⟩
            obtain ⟨dw, tt, ew⟩ := fx4.W.of
            have hal := dpAll_len ha4
            refine ⟨_, rfl, x, dw, _, rfl, ew, rfl, _, rfl, ?_⟩
            refine do_gen (E' := E0) hA fx4.W mv4.S (by show 2 ≤ 100; decide) (mv4.alive hL) hb4 (.cons (.str n0) ha4) (by rw [List.length_cons]; omega) hg hc hRR fun v H5 c5 hW5 hS5 dv => ?_
            refine ⟨_, rfl, v, u, dd, rfl, dp_same (mask_sub _ _) _ _ dv, dp_same (mask_sub _ _) _ _ (dp_same (c5.more hms).mask _ _ du), hdp, _, rfl, iteF ?_⟩
            exact ⟨n', es', sr', z, _, _, rfl, by omega, fx4.chg c5 hms, mv4.doneW c5 nDc hS5, ho'⟩
      · clear fx0 mv0 ho hn
        rintro σ H1 ⟨n, es, sr, z, y8, y9, rfl, hn, fx1, mv1, ho⟩
        obtain ⟨dw, tt, ew⟩ := fx1.W.of
        obtain ⟨el, eD, elL, xs, eL, hx⟩ := mv1.hD
        refine ⟨_, rfl, _, rfl, nl, _, 0, _, rfl, rfl, SqL.of fx1.nl, atI_nat (j := 0) rfl, x, dw, _, rfl, ew, x, s, ct, L, tvs, _, n0, _, rfl, fx1.W, mv1.S, look2a, fun v hv => ?_⟩
        refine ⟨_, rfl, D, _, rfl, held_e eD, ⟨⟨el, xs, rfl, .inl ⟨SqL.of eL, fun l nll => ?_⟩⟩⟩⟩
        have sl := same_new (o := .tup xs) nll
        refine ⟨v, _, TbD es, rfl, dp_same sl _ _ (dp_same (mask_sub _ _) _ _ hv), .tup (SqT.of upd_same) (dpAll_same sl _ _ (dpAll_same (mask_sub _ _) _ _ hx)), dp_TbD es (by have := ho.len hkl; omega), _, rfl, iteF ?_⟩
        exact ⟨n, es, sr, z, _, _, _, rfl, by omega, fx1.chg (Chg.of_same (l := []) sl) nil', mv1.same sl, ho⟩
    · rintro σ H0 _
      exact kk H0
end
theorem ok_law_ne {P : Program} {w : World} {K : PySem.W.Frag} {mg : Str → Option Value} {base : Heap} {f : Addr} {fd : FuncData} (F : Fun K "law" "law" sLaw f fd) (h : Nonempty (Law09 P w K mg base)) : FnOk P w K mg base CX0 7 f fd ["script"] (spLaw K) := h.elim fun G => ok_law F G
/-! ### what the top has written -/
structure FunIn (K : PySem.W.Frag) (mg : Str → Option Value) (x : Str) (st : Stmt) (f : Addr) (fd : FuncData) : Prop where
  F : Fun K x x st f fd
  m : mg x = some (.ref f)
theorem fun_in {K : PySem.W.Frag} {h : Heap} {mg : Str → Option Value} {x : Str} {st : Stmt} {f : Addr} {oc : Value} {od an : Option Addr} {osl : Array (Option Value)} {kV doc pm cdv ct : Value} (X : K.In h) (G : h.Ns mainGlobals mg)
    (a : PySem.W.nsIn K mainGlobals x = some (some (.ref f))) (l : K.lookup f = some ⟨oc, od, .func (PySem.W.fnOf x x (defArgs st) (defBody st) (defScope st) .none kV doc pm an cdv ct), osl⟩)
    (c : PySem.W.codeIn K cdv x = true) (k : PySem.W.keepIn K (.ref f) = true) : ∃ f fd, FunIn K mg x st f fd :=
  ⟨f, _, fun_mk l c k, PySem.W.mg_of X G a⟩
theorem bts_in {K : PySem.W.Frag} {h : Heap} {mg : Str → Option Value} (X : K.In h) (G : h.Ns mainGlobals mg) (z1 : PySem.W.nsIn K mainGlobals "isinstance" = some none) (z2 : PySem.W.nsIn K mainGlobals "bool" = some none) (z3 : PySem.W.nsIn K mainGlobals "str" = some none)
    (z4 : PySem.W.nsIn K mainGlobals "int" = some none) (z5 : PySem.W.nsIn K mainGlobals "list" = some none) (z6 : PySem.W.nsIn K mainGlobals "tuple" = some none) (z7 : PySem.W.nsIn K mainGlobals "len" = some none) (z8 : PySem.W.nsIn K mainGlobals "range" = some none) : Bts mg :=
  ⟨PySem.W.mg_none_of X G z1, PySem.W.mg_none_of X G z2, PySem.W.mg_none_of X G z3, PySem.W.mg_none_of X G z4, PySem.W.mg_none_of X G z5, PySem.W.mg_none_of X G z6, PySem.W.mg_none_of X G z7, PySem.W.mg_none_of X G z8⟩
/-! ### what the top says of worlds -/
section
variable {K : PySem.W.Frag} {h : Heap} {mg : Str → Option Value} {w : World}
theorem kd_in {x : Str} {d : Addr} {es : Array DictEntry} {n : Nat} (X : K.In h) (G : h.Ns mainGlobals mg) (a : PySem.W.nsIn K mainGlobals x = some (some (.ref d))) (l : K.lookup d = some ⟨.type "dict", none, .dict es n, #[]⟩) (k : PySem.W.KeysLit w.params es.toList) (z : (d == sysModules) = false) :
    ∃ d es n, mg x = some (.ref d) ∧ KDict K w d es n ∧ K.lookup d = some ⟨.type "dict", none, .dict es n, #[]⟩ := ⟨d, es, n, PySem.W.mg_of X G a, ⟨l, k, z⟩, l⟩
theorem kdct_of {d : Addr} {es : Array DictEntry} {n : Nat} (D : KDict K w d es n) {x : Str} {u : Value} {v : V} (e : PySem.W.nsIn K d x = some (some u)) (r : RelV v u) : KDct K w d x v := ⟨es, n, u, D.at_, D.lit, e, r⟩
theorem sqt_of {t : Addr} {dd : Option Addr} {its : Array Value} {n : Nat} {sl : Array (Option Value)} {xs : List V} (l : K.lookup t = some ⟨.type "tuple", dd, .seq its n, sl⟩) (z : its.size ≤ sizeLine) (v : Vals xs its.toList) (H : Hp) : SqT K H t xs := .inr ⟨_, its, n, l, rfl, rfl, z, v⟩
theorem parts1 {d t : Addr} {es : Array DictEntry} {n m : Nat} {word k1 : Str} {t1 : Tok} {dd : Option Addr} {sl : Array (Option Value)} (D : KDict K w d es n) (e : PySem.W.nsIn K d word = some (some (.ref t))) (l : K.lookup t = some ⟨.type "tuple", dd, .seq #[.str k1 t1] m, sl⟩) : PartsK K w d word [k1] :=
  ⟨⟨_, e⟩, t, kdct_of D e rfl, sqt_of l (by show 1 ≤ sizeLine; decide) (.cons ⟨_, rfl⟩ .nil)⟩
theorem parts2 {d t : Addr} {es : Array DictEntry} {n m : Nat} {word k1 k2 : Str} {t1 t2 : Tok} {dd : Option Addr} {sl : Array (Option Value)} (D : KDict K w d es n) (e : PySem.W.nsIn K d word = some (some (.ref t))) (l : K.lookup t = some ⟨.type "tuple", dd, .seq #[.str k1 t1, .str k2 t2] m, sl⟩) : PartsK K w d word [k1, k2] :=
  ⟨⟨_, e⟩, t, kdct_of D e rfl, sqt_of l (by show 2 ≤ sizeLine; decide) (.cons ⟨_, rfl⟩ (.cons ⟨_, rfl⟩ .nil))⟩
def KDctF (K : PySem.W.Frag) (w : World) (d : Addr) (word : Str) (f : Addr) : Prop := KDct K w d word (.ref f)
theorem act_in {d f : Addr} {es : Array DictEntry} {n : Nat} {word x : Str} {st : Stmt} {oc : Value} {od an : Option Addr} {osl : Array (Option Value)} {kV doc pm cdv ct : Value} (D : KDict K w d es n) (e : PySem.W.nsIn K d word = some (some (.ref f)))
    (l : K.lookup f = some ⟨oc, od, .func (PySem.W.fnOf x x (defArgs st) (defBody st) (defScope st) .none kV doc pm an cdv ct), osl⟩) (c : PySem.W.codeIn K cdv x = true) (k : PySem.W.keepIn K (.ref f) = true) : ∃ f fd, KDctF K w d word f ∧ Fun K x x st f fd :=
  ⟨f, _, kdct_of D e rfl, fun_mk l c k⟩
theorem first_in {d a1 a2 a3 : Addr} {es : Array DictEntry} {n n1 n2 n3 : Nat} {d1 d2 : Option Addr} {s1 s2 s3 : Array (Option Value)} {t1 t2 t3 t4 t5 t6 : Tok} (D : KDict K w d es n)
    (e1 : PySem.W.nsIn K d "feed" = some (some (.ref a1))) (l1 : K.lookup a1 = some ⟨.type "tuple", d1, .seq #[.int 0 t1, .int 0 t2, .int 0 t3] n1, s1⟩) (e2 : PySem.W.nsIn K d "dice" = some (some (.ref a2))) (l2 : K.lookup a2 = some ⟨.type "tuple", d2, .seq #[.int 0 t4, .int 0 t5] n2, s2⟩)
    (e3 : PySem.W.nsIn K d "table" = some (some (.ref a3))) (l3 : K.lookup a3 = some ⟨.type "tuple", none, .seq #[] n3, s3⟩) (e4 : PySem.W.nsIn K d "source" = some (some (.int 0 t6))) (e5 : PySem.W.nsIn K d "field" = some (some .none)) (e6 : PySem.W.nsIn K d "flag" = some (some (.bool false))) (e7 : PySem.W.nsIn K d "slot" = some (some .none)) : FirstK K w d := by
  refine ⟨fun kind hk => ?_⟩
  simp only [kindsS, List.mem_cons, List.not_mem_nil, or_false] at hk
  rcases hk with rfl | rfl | rfl | rfl | rfl | rfl | rfl
  · exact ⟨.ref a1, kdct_of D e1 rfl, fun H => dq_of (.tup (sqt_of (xs := [.int 0, .int 0, .int 0]) l1 (by show 3 ≤ sizeLine; decide) (.cons ⟨_, rfl⟩ (.cons ⟨_, rfl⟩ (.cons ⟨_, rfl⟩ .nil))) H) (.cons (.int 0) (.cons (.int 0) (.cons (.int 0) .nil)))) rfl⟩
  · exact ⟨.ref a2, kdct_of D e2 rfl, fun H => dq_of (.tup (sqt_of (xs := [.int 0, .int 0]) l2 (by show 2 ≤ sizeLine; decide) (.cons ⟨_, rfl⟩ (.cons ⟨_, rfl⟩ .nil)) H) (.cons (.int 0) (.cons (.int 0) .nil))) rfl⟩
  · exact ⟨.ref a3, kdct_of D e3 rfl, fun H => ⟨.tup (sqt_of (xs := []) l3 (by show 0 ≤ sizeLine; decide) .nil H) .nil, fun _ => ⟨a3, rfl, .inr ⟨_, l3, rfl, rfl⟩⟩⟩⟩
  · exact ⟨.int 0, kdct_of D e4 ⟨_, rfl⟩, fun H => dq_of (.int 0) rfl⟩
  · exact ⟨.non, kdct_of D e5 rfl, fun H => dq_of (.non) rfl⟩
  · exact ⟨.bl false, kdct_of D e6 rfl, fun H => dq_of (.bl false) rfl⟩
  · exact ⟨.non, kdct_of D e7 rfl, fun H => dq_of (.non) rfl⟩
/-- a method of a class -/
def MtAll (K : PySem.W.Frag) (C : Addr) (m qual : Str) (st : Stmt) : Prop := ∃ g fd, Meth K C m g ∧ PySem.W.fnIn K g = true ∧ Fun K m qual st g fd
theorem mt_in {C g : Addr} {m qual : Str} {st : Stmt} {oc : Value} {od an : Option Addr} {osl : Array (Option Value)} {kV doc pm cdv ct : Value}
    (at_ : PySem.W.findIn K (.ref C) m = some (some (.ref g))) (fn : PySem.W.isFn K (.ref g) = true) (kp : PySem.W.keepIn K (.ref g) = true)
    (l : K.lookup g = some ⟨oc, od, .func (PySem.W.fnOf m qual (defArgs st) (defBody st) (defScope st) .none kV doc pm an cdv ct), osl⟩) (c : PySem.W.codeIn K cdv qual = true) : MtAll K C m qual st :=
  ⟨g, _, ⟨at_, fn, kp⟩, by unfold PySem.W.fnIn; rw [l], fun_mk l c kp⟩
theorem state_in {C : Addr} (X : K.In h) (G : h.Ns mainGlobals mg) (a : PySem.W.nsIn K mainGlobals "State" = some (some (.ref C))) (pg : PySem.W.plainGet K C Str.empty = true) (hd : PySem.W.hasDictIn K C = true) (po : PySem.W.plainOver K C = true) (sa : PySem.W.findIn K (.ref C) "__setattr__" = some (some (.builtin "object.__setattr__")))
    (n1 : PySem.W.findIn K (.ref C) "by_name" = some none) (n2 : PySem.W.findIn K (.ref C) "contents" = some none) (n3 : PySem.W.findIn K (.ref C) "fetchings" = some none) (n4 : PySem.W.findIn K (.ref C) "seedings" = some none) (n5 : PySem.W.findIn K (.ref C) "serials" = some none)
    (mk : PySem.W.makesIn K C = true) (kp : PySem.W.keepIn K (.ref C) = true) (ini : MtAll K C "__init__" "State.__init__" (st 0)) (m3 : MtAll K C "new_serial" "State.new_serial" (st 3)) (m4 : MtAll K C "take_until" "State.take_until" (st 4)) : ∃ C fI fd, StIn K mg C ∧ Mk K C fI ∧ Fun K "__init__" "State.__init__" (st 0) fI fd ∧ MtAll K C "new_serial" "State.new_serial" (st 3) ∧ MtAll K C "take_until" "State.take_until" (st 4) := by
  obtain ⟨g, fd, m, _, F⟩ := ini
  exact ⟨C, g, fd, ⟨PySem.W.mg_of X G a, ⟨pg, hd, po, sa⟩, n1, n2, n3, n4, n5⟩, ⟨mk, m.at_, m.fn, kp⟩, F, m3, m4⟩
theorem world_in {C : Addr} (X : K.In h) (G : h.Ns mainGlobals mg) (a : PySem.W.nsIn K mainGlobals "World" = some (some (.ref C))) (pg : PySem.W.plainGet K C Str.empty = true) (hd : PySem.W.hasDictIn K C = true) (po : PySem.W.plainOver K C = true) (sa : PySem.W.findIn K (.ref C) "__setattr__" = some (some (.builtin "object.__setattr__")))
    (n1 : PySem.W.findIn K (.ref C) "things" = some none) (n2 : PySem.W.findIn K (.ref C) "_state" = some none) (n3 : PySem.W.findIn K (.ref C) "_log" = some none)
    (mk : PySem.W.makesIn K C = true) (kp : PySem.W.keepIn K (.ref C) = true) (ini : MtAll K C "__init__" "World.__init__" (wo 0)) (m1 : MtAll K C "do" "World.do" (wo 1)) (m4 : MtAll K C "__getitem__" "World.__getitem__" (wo 4)) (m6 : MtAll K C "__contains__" "World.__contains__" (wo 6)) :
    ∃ C fI fd, WoIn K mg C ∧ Mk K C fI ∧ Fun K "__init__" "World.__init__" (wo 0) fI fd ∧ MtAll K C "do" "World.do" (wo 1) ∧ MtAll K C "__getitem__" "World.__getitem__" (wo 4) ∧ MtAll K C "__contains__" "World.__contains__" (wo 6) := by
  obtain ⟨g, fd, m, _, F⟩ := ini
  exact ⟨C, g, fd, ⟨PySem.W.mg_of X G a, ⟨pg, hd, po, sa⟩, n1, n2, n3⟩, ⟨mk, m.at_, m.fn, kp⟩, F, m1, m4, m6⟩
theorem kinds_in {C kt : Addr} {dd : Option Addr} {n : Nat} {sl : Array (Option Value)} {t1 t2 t3 t4 t5 t6 t7 : Tok} (kd : PySem.W.findCls K (.ref C) (.type "type") "KINDS" = some (.val (.ref kt)))
    (l : K.lookup kt = some ⟨.type "tuple", dd, .seq #[.str "feed" t1, .str "dice" t2, .str "table" t3, .str "source" t4, .str "field" t5, .str "flag" t6, .str "slot" t7] n, sl⟩) : KindsK K C :=
  ⟨kt, ⟨kd, rfl⟩, sqt_of l (by show 7 ≤ sizeLine; decide) (.cons ⟨_, rfl⟩ (.cons ⟨_, rfl⟩ (.cons ⟨_, rfl⟩ (.cons ⟨_, rfl⟩ (.cons ⟨_, rfl⟩ (.cons ⟨_, rfl⟩ (.cons ⟨_, rfl⟩ .nil)))))))⟩
end
/-- all that the top says -/
structure WTop (K : PySem.W.Frag) (w : World) (mg : Str → Option Value) where
  B : Bts mg
  mE : mg "enumerate" = none
  mA : mg "all" = none
  mZ : mg "zip" = none
  tL : Tok
  mL : mg "LONGEST_NAME" = some (.int 8 tL)
  tK : Tok
  mK : mg "MOST_KEYS" = some (.int 4 tK)
  tR : Tok
  mR : mg "LONGEST_ROW" = some (.int longest tR)
  tT : Tok
  mT : mg "MOST_THINGS" = some (.int 8 tT)
  (C CS CW dP dA dF : Addr)
  (eP eA eF : Array DictEntry)
  (nP nA nF : Nat)
  T : ThAll K mg C
  KK : KindsK K C
  S : StIn K mg CS
  fS : Addr
  xS : FuncData
  MS : Mk K CS fS
  FS : Fun K "__init__" "State.__init__" (st 0) fS xS
  W : WoIn K mg CW
  fW : Addr
  xW : FuncData
  MW : Mk K CW fW
  FW : Fun K "__init__" "World.__init__" (wo 0) fW xW
  mDo : MtAll K CW "do" "World.do" (wo 1)
  mIt : MtAll K CW "__getitem__" "World.__getitem__" (wo 4)
  mCo : MtAll K CW "__contains__" "World.__contains__" (wo 6)
  mP : mg "PARTS" = some (.ref dP)
  DP : KDict K w dP eP nP
  mAc : mg "ACTIONS" = some (.ref dA)
  DA : KDict K w dA eA nA
  mF : mg "AT_FIRST" = some (.ref dF)
  FK : FirstK K w dF
theorem wdefs_of {P : Program} {w : World} {K : PySem.W.Frag} {mg : Str → Option Value} (base : Heap) (R : WTop K w mg) {f1 f2 f3 f4 f5 f6 f7 f8 f9 f10 f11 f12 f13 f14 : Addr} {x1 x2 x3 x4 x5 x6 x7 x8 x9 x10 x11 x12 x13 x14 : FuncData}
    (F1 : FunIn K mg "_law_pool" sPool f1 x1) (F2 : FunIn K mg "_law_draw" sDraw f2 x2) (F3 : FunIn K mg "_law_names" sLNames f3 x3) (F4 : FunIn K mg "_law_same" sSame f4 x4) (F5 : FunIn K mg "is_int" sIsInt f5 x5) (F6 : FunIn K mg "is_name" sIsName f6 x6) (F7 : FunIn K mg "check_names" sNames f7 x7) (F8 : FunIn K mg "check_unlike" sUnlike f8 x8)
    (F9 : FunIn K mg "is_deed" sIsDeed f9 x9) (F10 : FunIn K mg "_is_part" sIsPart f10 x10) (F11 : FunIn K mg "is_length" sIsLength f11 x11) (F12 : FunIn K mg "check_deed" sCheckDeed f12 x12) (F13 : FunIn K mg "done" sDone f13 x13) (F14 : FunIn K mg "_check_fields" sFields f14 x14) : ∃ G : WDefs P w K mg base, G.C = R.C ∧ G.CS = R.CS ∧ G.CW = R.CW ∧ G.dP = R.dP ∧ G.dA = R.dA := by
  have bP := F1.F.binds (ps := ["script"]) fun _ _ _ _ _ _ us hl => match us, hl with | [_], _ => rfl
  have bD := F2.F.binds (ps := ["pool", "many"]) fun _ _ _ _ _ _ us hl => match us, hl with | [_, _], _ => rfl
  have bL := F3.F.binds (ps := ["pool", "many"]) fun _ _ _ _ _ _ us hl => match us, hl with | [_, _], _ => rfl
  have bS := F4.F.binds (ps := ["actual", "due"]) fun _ _ _ _ _ _ us hl => match us, hl with | [_, _], _ => rfl
  have bI := F5.F.binds (ps := ["thing"]) fun _ _ _ _ _ _ us hl => match us, hl with | [_], _ => rfl
  have bN := F6.F.binds (ps := ["thing"]) fun _ _ _ _ _ _ us hl => match us, hl with | [_], _ => rfl
  have bCN := F7.F.binds (ps := ["things"]) fun _ _ _ _ _ _ us hl => match us, hl with | [_], _ => rfl
  have bU := F8.F.binds (ps := ["names"]) fun _ _ _ _ _ _ us hl => match us, hl with | [_], _ => rfl
  have bDe := F9.F.binds (ps := ["deed"]) fun _ _ _ _ _ _ us hl => match us, hl with | [_], _ => rfl
  have bIP := F10.F.binds (ps := ["part", "given"]) fun _ _ _ _ _ _ us hl => match us, hl with | [_, _], _ => rfl
  have bIL := F11.F.binds (ps := ["given"]) fun _ _ _ _ _ _ us hl => match us, hl with | [_], _ => rfl
  have bCD := F12.F.binds (ps := ["by_name", "deed"]) fun _ _ _ _ _ _ us hl => match us, hl with | [_, _], _ => rfl
  have bDn := F13.F.binds (ps := ["state", "deed"]) fun _ _ _ _ _ _ us hl => match us, hl with | [_, _], _ => rfl
  have bF := F14.F.binds (ps := ["things"]) fun _ _ _ _ _ _ us hl => match us, hl with | [_], _ => rfl
  have bSI := R.FS.binds (ps := ["self", "things"]) fun _ _ _ _ _ _ us hl => match us, hl with | [_, _], _ => rfl
  obtain ⟨fDo, xDo, mDo, _, FDo⟩ := R.mDo
  obtain ⟨fIt, xIt, mIt, iIt, FIt⟩ := R.mIt
  obtain ⟨fCo, xCo, mCo, _, FCo⟩ := R.mCo
  have bDo := FDo.binds (ps := ["self", "deed"]) fun _ _ _ _ _ _ us hl => match us, hl with | [_, _], _ => rfl
  have bIt := FIt.binds (ps := ["self", "name"]) fun _ _ _ _ _ _ us hl => match us, hl with | [_, _], _ => rfl
  have bCo := FCo.binds (ps := ["self", "name"]) fun _ _ _ _ _ _ us hl => match us, hl with | [_, _], _ => rfl
  have gD := ok_draw (P := P) (w := w) (base := base) (k := 0) F2.F R.B.int
  have gII := ok_isint (P := P) (w := w) (base := base) (k := 0) F5.F R.B
  have gIN := ok_isname (P := P) (w := w) (base := base) (k := 0) F6.F R.B R.mL
  have gIL := ok_islength F11.F gII F5.m F5.F.kp bI R.mR
  have gIP := ok_ispart F10.F R.B R.mA gIL F11.m F11.F.kp bIL gIN F6.m F6.F.kp bN
  have gDe := ok_isdeed F9.F R.B R.mA R.mZ R.DP R.mP gIP F10.m F10.F.kp bIP
  have gCN := ok_names0 F7.F gIN F6.m F6.F.kp bN
  have gU0 := ok_unlike0 (P := P) (w := w) (base := base) (k := 1) F8.F R.mE
  have gUL := ok_unlikeL (P := P) (w := w) (base := base) (k := 2) F8.F R.mE
  have gFi := ok_fields (P := P) (w := w) (base := base) (k := 2) F14.F R.mE R.T.T
  have gCD := (ok_check (P := P) (w := w) (base := base) F12.F R.mZ R.mP R.T.T R.KK).mono (show 1 ≤ 4 by decide)
  have gDn := ok_done (P := P) (w := w) (base := base) F13.F R.mAc
  have gSI := ok_sinit (P := P) (w := w) (base := base) (k := 1) R.FS R.T.T R.S R.mF R.FK
  have gW := ok_winit R.FW R.T.T R.S R.W R.MS gSI bSI gUL F8.m F8.F.kp bU gFi F14.m F14.F.kp bF R.B.len R.mT
  have gDo := ok_do FDo R.S R.W gDe F9.m F9.F.kp bDe gCD F12.m F12.F.kp bCD gDn F13.m F13.F.kp bDn
  have gCo := fnR0 (ok_cont (P := P) (w := w) (base := base) (k := 3) FCo (C := R.C) R.S R.W R.B) bCo
  have gIt := fnR0 (ok_item FIt R.S R.W mCo.at_ mCo.fn gCo) bIt
  have D := t_defs R.T gCN F7.m F7.F.kp bCN gU0 F8.m F8.F.kp bU R.B.len R.mK
  exact ⟨{ C := R.C, CS := R.CS, CW := R.CW, dP := R.dP, dA := R.dA, T := R.T.T, S := R.S, W := R.W, B := R.B, fP := f1, fD := f2, fL := f3, fS := f4, xP := x1, xD := x2, xL := x3, xS := x4, gP := ok_pool F1.F R.B.list, gD := gD, gL := ok_lnames F3.F gD F2.m F2.F.kp bD R.B.range, gS := ok_same F4.F R.B F4.m bS 3, bP := bP, bD := bD, bL := bL, bS := bS, mP := F1.m, mD := F2.m, mL := F3.m, mS := F4.m, kP := F1.F.kp, kD := F2.F.kp, kL := F3.F.kp, kS := F4.F.kp, td := D, fW := R.fW, MW := R.MW, gW := gW, fDo := fDo, xDo := xDo, mDo := mDo, gDo := gDo, bDo := bDo, fIt := fIt, aIt := mIt.at_, nIt := iIt, hIt := mIt.fn, gIt := gIt }, rfl, rfl, rfl, rfl, rfl⟩
def KdTop (K : PySem.W.Frag) (w : World) (mg : Str → Option Value) (x : Str) (R : PySem.W.Frag → World → Addr → Prop) : Prop := ∃ d es n, mg x = some (.ref d) ∧ KDict K w d es n ∧ R K w d
theorem kd_with {K : PySem.W.Frag} {h : Heap} {mg : Str → Option Value} {w : World} {x : Str} {d : Addr} {es : Array DictEntry} {n : Nat} {R : PySem.W.Frag → World → Addr → Prop} (X : K.In h) (G : h.Ns mainGlobals mg) (a : PySem.W.nsIn K mainGlobals x = some (some (.ref d))) (l : K.lookup d = some ⟨.type "dict", none, .dict es n, #[]⟩) (k : PySem.W.KeysLit w.params es.toList) (z : (d == sysModules) = false)
    (more : KDict K w d es n → R K w d) : KdTop K w mg x R := ⟨d, es, n, PySem.W.mg_of X G a, ⟨l, k, z⟩, more ⟨l, k, z⟩⟩
theorem kinds_top {K : PySem.W.Frag} {h : Heap} {mg : Str → Option Value} {C : Addr} (X : K.In h) (G : h.Ns mainGlobals mg) (a : PySem.W.nsIn K mainGlobals "Thing" = some (some (.ref C))) (k : KindsK K C) : ∃ C, mg "Thing" = some (.ref C) ∧ KindsK K C := ⟨C, PySem.W.mg_of X G a, k⟩
theorem actK_of {P : Program} {w : World} {K : PySem.W.Frag} {mg : Str → Option Value} {base : Heap} {C CS dP dA f : Addr} {fd : FuncData} {word : Str} {kinds ps : List Str} {R : Ws → List PyData → Ws → PyData → Prop} {k : Nat} (p : PartsK K w dP word kinds) (e : KDct K w dA word (.ref f)) (F : FnOk P w K mg base CX0 k f fd ps (spAct K C CS R)) (hk : k ≤ 3) (b : Binds K fd ps []) (kp : PySem.W.keepIn K (.ref f) = true) : ActK P w K mg base C CS dP dA word kinds R :=
  ⟨p, f, e, (fnR0 F b).mono hk, kp⟩
end Qp
open PySem PySem.W PyProof.Rows
set_option maxRecDepth 100000 in
set_option maxHeartbeats 0 in
theorem PySem.Challenge.cw_quietprobes_k09_entries_of_tables_holds : PySem.Challenge.rw_quietprobes_k09_entries_of_tables.Holds := by
  w_on; o_law; k_head; (case hw => w_witness2)
  k_fill
  refine L2.walk_of (l := PySem.Challenge.rw_quietprobes_k09_entries_of_tables) (n := 63) (k := 7) (x := "script") (CX := fun _ => L2.CX0) (sp := fun w => Qp.spLaw _) rfl (by decide) rfl ⟨rfl, by decide, by decide⟩ (fun w h Y => PySem.W.kIn_of Y) ?F (fun _ _ a ns hl _ hS => ⟨a, ns, rfl, hS, hl, fun _ => rfl⟩) (fun _ _ _ _ _ h => h)
  case F =>
    intro w mg fa h KX G hmg
    obtain ⟨f1, fd1, F1⟩ : ∃ f fd, Qp.FunIn _ mg "_law_pool" Qp.sPool f fd := by
      refine' Qp.fun_in KX G ?a ?l ?c ?k
      (case a => k_is); (case l => k_is); (case c => k_is); (case k => k_is)
    obtain ⟨f2, fd2, F2⟩ : ∃ f fd, Qp.FunIn _ mg "_law_draw" Qp.sDraw f fd := by
      refine' Qp.fun_in KX G ?a ?l ?c ?k
      (case a => k_is); (case l => k_is); (case c => k_is); (case k => k_is)
    obtain ⟨f3, fd3, F3⟩ : ∃ f fd, Qp.FunIn _ mg "_law_names" Qp.sLNames f fd := by
      refine' Qp.fun_in KX G ?a ?l ?c ?k
      (case a => k_is); (case l => k_is); (case c => k_is); (case k => k_is)
    obtain ⟨f4, fd4, F4⟩ : ∃ f fd, Qp.FunIn _ mg "_law_same" Qp.sSame f fd := by
      refine' Qp.fun_in KX G ?a ?l ?c ?k
      (case a => k_is); (case l => k_is); (case c => k_is); (case k => k_is)
    obtain ⟨f5, fd5, F5⟩ : ∃ f fd, Qp.FunIn _ mg "is_int" Qp.sIsInt f fd := by
      refine' Qp.fun_in KX G ?a ?l ?c ?k
      (case a => k_is); (case l => k_is); (case c => k_is); (case k => k_is)
    obtain ⟨f6, fd6, F6⟩ : ∃ f fd, Qp.FunIn _ mg "is_name" Qp.sIsName f fd := by
      refine' Qp.fun_in KX G ?a ?l ?c ?k
      (case a => k_is); (case l => k_is); (case c => k_is); (case k => k_is)
    obtain ⟨f7, fd7, F7⟩ : ∃ f fd, Qp.FunIn _ mg "check_names" Qp.sNames f fd := by
      refine' Qp.fun_in KX G ?a ?l ?c ?k
      (case a => k_is); (case l => k_is); (case c => k_is); (case k => k_is)
    obtain ⟨f8, fd8, F8⟩ : ∃ f fd, Qp.FunIn _ mg "check_unlike" Qp.sUnlike f fd := by
      refine' Qp.fun_in KX G ?a ?l ?c ?k
      (case a => k_is); (case l => k_is); (case c => k_is); (case k => k_is)
    obtain ⟨f9, fd9, F9⟩ : ∃ f fd, Qp.FunIn _ mg "is_deed" Qp.sIsDeed f fd := by
      refine' Qp.fun_in KX G ?a ?l ?c ?k
      (case a => k_is); (case l => k_is); (case c => k_is); (case k => k_is)
    obtain ⟨f10, fd10, F10⟩ : ∃ f fd, Qp.FunIn _ mg "_is_part" Qp.sIsPart f fd := by
      refine' Qp.fun_in KX G ?a ?l ?c ?k
      (case a => k_is); (case l => k_is); (case c => k_is); (case k => k_is)
    obtain ⟨f11, fd11, F11⟩ : ∃ f fd, Qp.FunIn _ mg "is_length" Qp.sIsLength f fd := by
      refine' Qp.fun_in KX G ?a ?l ?c ?k
      (case a => k_is); (case l => k_is); (case c => k_is); (case k => k_is)
    obtain ⟨f12, fd12, F12⟩ : ∃ f fd, Qp.FunIn _ mg "check_deed" Qp.sCheckDeed f fd := by
      refine' Qp.fun_in KX G ?a ?l ?c ?k
      (case a => k_is); (case l => k_is); (case c => k_is); (case k => k_is)
    obtain ⟨f13, fd13, F13⟩ : ∃ f fd, Qp.FunIn _ mg "done" Qp.sDone f fd := by
      refine' Qp.fun_in KX G ?a ?l ?c ?k
      (case a => k_is); (case l => k_is); (case c => k_is); (case k => k_is)
    obtain ⟨f14, fd14, F14⟩ : ∃ f fd, Qp.FunIn _ mg "_check_fields" Qp.sFields f fd := by
      refine' Qp.fun_in KX G ?a ?l ?c ?k
      (case a => k_is); (case l => k_is); (case c => k_is); (case k => k_is)
    obtain ⟨f15, fd15, F15⟩ : ∃ f fd, Qp.FunIn _ mg "_law_table_of" Qp.sTableOf f fd := by
      refine' Qp.fun_in KX G ?a ?l ?c ?k
      (case a => k_is); (case l => k_is); (case c => k_is); (case k => k_is)
    obtain ⟨f16, fd16, F16⟩ : ∃ f fd, Qp.FunIn _ mg "_law_word" Qp.sWord f fd := by
      refine' Qp.fun_in KX G ?a ?l ?c ?k
      (case a => k_is); (case l => k_is); (case c => k_is); (case k => k_is)
    obtain ⟨f17, fd17, F17⟩ : ∃ f fd, Qp.FunIn _ mg "_law_any_deed" Qp.sAnyDeed f fd := by
      refine' Qp.fun_in KX G ?a ?l ?c ?k
      (case a => k_is); (case l => k_is); (case c => k_is); (case k => k_is)
    obtain ⟨f18, fd18, F18⟩ : ∃ f fd, Qp.FunIn _ mg "_law_entry" Qp.sEntry f fd := by
      refine' Qp.fun_in KX G ?a ?l ?c ?k
      (case a => k_is); (case l => k_is); (case c => k_is); (case k => k_is)
    obtain ⟨f19, fd19, F19⟩ : ∃ f fd, Qp.FunIn _ mg "_law_step" Qp.sStep f fd := by
      refine' Qp.fun_in KX G ?a ?l ?c ?k
      (case a => k_is); (case l => k_is); (case c => k_is); (case k => k_is)
    obtain ⟨f20, fd20, F20⟩ : ∃ f fd, Qp.FunIn _ mg "law" Qp.sLaw f fd := by
      refine' Qp.fun_in KX G ?a ?l ?c ?k
      (case a => k_is); (case l => k_is); (case c => k_is); (case k => k_is)
    have B : Qp.Bts mg := by
      refine' Qp.bts_in KX G ?z1 ?z2 ?z3 ?z4 ?z5 ?z6 ?z7 ?z8
      (case z1 => k_is); (case z2 => k_is); (case z3 => k_is); (case z4 => k_is); (case z5 => k_is); (case z6 => k_is); (case z7 => k_is); (case z8 => k_is)
    obtain ⟨tk1, mL⟩ : ∃ tk, mg "LONGEST_NAME" = some (.int 8 tk) := by
      refine' Qp.mg_int KX G ?zL
      (case zL => k_is)
    obtain ⟨tk2, mK⟩ : ∃ tk, mg "MOST_KEYS" = some (.int 4 tk) := by
      refine' Qp.mg_int KX G ?zM
      (case zM => k_is)
    obtain ⟨tk3, mR⟩ : ∃ tk, mg "LONGEST_ROW" = some (.int 1000000000000000000000000000000 tk) := by
      refine' Qp.mg_int KX G ?zR
      (case zR => k_is)
    obtain ⟨tk4, mT⟩ : ∃ tk, mg "MOST_THINGS" = some (.int 8 tk) := by
      refine' Qp.mg_int KX G ?zT
      (case zT => k_is)
    have mE : mg "enumerate" = none := by
      refine' PySem.W.mg_none_of KX G ?zE
      (case zE => k_is)
    have mA : mg "all" = none := by
      refine' PySem.W.mg_none_of KX G ?zA
      (case zA => k_is)
    have mZ : mg "zip" = none := by
      refine' PySem.W.mg_none_of KX G ?zZ
      (case zZ => k_is)
    obtain ⟨C, T⟩ : ∃ C, Qp.ThAll _ mg C := by
      refine' Qp.th_in KX G ?th_a ?th_pg ?th_hd ?th_po ?th_sa ?th_nk ?th_nn ?th_np ?th_rd ?th_ga ?th_ca ?th_cn ?th_ct ?th_cm ?th_mk ?th_kp ?th_ini ?th_m1 ?th_m2 ?th_m3 ?th_m4 ?th_m5 ?th_m6 ?th_m7 ?th_eq ?th_str
      (case th_a => k_is)
      (case th_pg => k_is)
      (case th_hd => k_is)
      (case th_po => k_is)
      (case th_sa => k_is)
      (case th_nk => k_is)
      (case th_nn => k_is)
      (case th_np => k_is)
      (case th_rd => k_is)
      (case th_ga => k_is)
      (case th_ca => k_is)
      (case th_cn => k_is)
      (case th_ct => k_is)
      (case th_cm => k_is)
      (case th_mk => k_is)
      (case th_kp => k_is)
      (case th_ini => (refine' Qp.me_in ?a_tini ?f_tini ?k_tini ?l_tini ?c_tini; (case a_tini => k_is); (case f_tini => k_is); (case k_tini => k_is); (case l_tini => k_is); (case c_tini => k_is)))
      (case th_m1 => (refine' Qp.sm_in ?a_tm1 ?r_tm1 ?k_tm1 ?l_tm1 ?c_tm1; (case a_tm1 => k_is); (case r_tm1 => k_is); (case k_tm1 => k_is); (case l_tm1 => k_is); (case c_tm1 => k_is)))
      (case th_m2 => (refine' Qp.sm_in ?a_tm2 ?r_tm2 ?k_tm2 ?l_tm2 ?c_tm2; (case a_tm2 => k_is); (case r_tm2 => k_is); (case k_tm2 => k_is); (case l_tm2 => k_is); (case c_tm2 => k_is)))
      (case th_m3 => (refine' Qp.sm_in ?a_tm3 ?r_tm3 ?k_tm3 ?l_tm3 ?c_tm3; (case a_tm3 => k_is); (case r_tm3 => k_is); (case k_tm3 => k_is); (case l_tm3 => k_is); (case c_tm3 => k_is)))
      (case th_m4 => (refine' Qp.sm_in ?a_tm4 ?r_tm4 ?k_tm4 ?l_tm4 ?c_tm4; (case a_tm4 => k_is); (case r_tm4 => k_is); (case k_tm4 => k_is); (case l_tm4 => k_is); (case c_tm4 => k_is)))
      (case th_m5 => (refine' Qp.sm_in ?a_tm5 ?r_tm5 ?k_tm5 ?l_tm5 ?c_tm5; (case a_tm5 => k_is); (case r_tm5 => k_is); (case k_tm5 => k_is); (case l_tm5 => k_is); (case c_tm5 => k_is)))
      (case th_m6 => (refine' Qp.sm_in ?a_tm6 ?r_tm6 ?k_tm6 ?l_tm6 ?c_tm6; (case a_tm6 => k_is); (case r_tm6 => k_is); (case k_tm6 => k_is); (case l_tm6 => k_is); (case c_tm6 => k_is)))
      (case th_m7 => (refine' Qp.sm_in ?a_tm7 ?r_tm7 ?k_tm7 ?l_tm7 ?c_tm7; (case a_tm7 => k_is); (case r_tm7 => k_is); (case k_tm7 => k_is); (case l_tm7 => k_is); (case c_tm7 => k_is)))
      (case th_eq => (refine' Qp.me_in ?a_teq ?f_teq ?k_teq ?l_teq ?c_teq; (case a_teq => k_is); (case f_teq => k_is); (case k_teq => k_is); (case l_teq => k_is); (case c_teq => k_is)))
      (case th_str => (refine' Qp.me_in ?a_tstr ?f_tstr ?k_tstr ?l_tstr ?c_tstr; (case a_tstr => k_is); (case f_tstr => k_is); (case k_tstr => k_is); (case l_tstr => k_is); (case c_tstr => k_is)))
    obtain ⟨C', mC', KK⟩ : ∃ C, mg "Thing" = some (.ref C) ∧ Qp.KindsK _ C := by
      refine' Qp.kinds_top KX G ?ka ?kb
      (case ka => k_is)
      (case kb => (refine' Qp.kinds_in ?kc ?kd; (case kc => k_is); (case kd => k_is)))
    have eC := T.T.m.symm.trans mC'
    cases eC
    obtain ⟨CS, fS, xS, S, MS, FS, mNS, mTU⟩ : ∃ C fI fd, Qp.StIn _ mg C ∧ L2.Mk _ C fI ∧ L2.Fun _ "__init__" "State.__init__" (Qp.st 0) fI fd ∧ Qp.MtAll _ C "new_serial" "State.new_serial" (Qp.st 3) ∧ Qp.MtAll _ C "take_until" "State.take_until" (Qp.st 4) := by
      refine' Qp.state_in KX G ?s1 ?s2 ?s3 ?s4 ?s5 ?s6 ?s7 ?s8 ?s9 ?s10 ?s11 ?s12 ?s13 ?s14 ?s15
      (case s1 => k_is); (case s2 => k_is); (case s3 => k_is); (case s4 => k_is); (case s5 => k_is); (case s6 => k_is); (case s7 => k_is); (case s8 => k_is); (case s9 => k_is); (case s10 => k_is); (case s11 => k_is); (case s12 => k_is)
      (case s13 => (refine' Qp.mt_in ?a_si ?f_si ?k_si ?l_si ?c_si; (case a_si => k_is); (case f_si => k_is); (case k_si => k_is); (case l_si => k_is); (case c_si => k_is)))
      (case s14 => (refine' Qp.mt_in ?a_sn ?f_sn ?k_sn ?l_sn ?c_sn; (case a_sn => k_is); (case f_sn => k_is); (case k_sn => k_is); (case l_sn => k_is); (case c_sn => k_is)))
      (case s15 => (refine' Qp.mt_in ?a_su ?f_su ?k_su ?l_su ?c_su; (case a_su => k_is); (case f_su => k_is); (case k_su => k_is); (case l_su => k_is); (case c_su => k_is)))
    obtain ⟨fNs, xNs, mNs, _, FNs⟩ := mNS
    obtain ⟨fTu, xTu, mTu, _, FTu⟩ := mTU
    have bNs := FNs.binds (ps := ["self"]) fun _ _ _ _ _ _ us hl => match us, hl with | [_], _ => rfl
    have bTu := FTu.binds (ps := ["self", "name", "taken"]) fun _ _ _ _ _ _ us hl => match us, hl with | [_, _, _], _ => rfl
    obtain ⟨CW, fW, xW, WI, MW, FW, mDo, mIt, mCo⟩ : ∃ C fI fd, Qp.WoIn _ mg C ∧ L2.Mk _ C fI ∧ L2.Fun _ "__init__" "World.__init__" (Qp.wo 0) fI fd ∧ Qp.MtAll _ C "do" "World.do" (Qp.wo 1) ∧ Qp.MtAll _ C "__getitem__" "World.__getitem__" (Qp.wo 4) ∧ Qp.MtAll _ C "__contains__" "World.__contains__" (Qp.wo 6) := by
      refine' Qp.world_in KX G ?s1 ?s2 ?s3 ?s4 ?s5 ?s6 ?s7 ?s8 ?s9 ?s10 ?s11 ?s12 ?s13 ?s14
      (case s1 => k_is); (case s2 => k_is); (case s3 => k_is); (case s4 => k_is); (case s5 => k_is); (case s6 => k_is); (case s7 => k_is); (case s8 => k_is); (case s9 => k_is); (case s10 => k_is)
      (case s11 => (refine' Qp.mt_in ?a_wi ?f_wi ?k_wi ?l_wi ?c_wi; (case a_wi => k_is); (case f_wi => k_is); (case k_wi => k_is); (case l_wi => k_is); (case c_wi => k_is)))
      (case s12 => (refine' Qp.mt_in ?a_wd ?f_wd ?k_wd ?l_wd ?c_wd; (case a_wd => k_is); (case f_wd => k_is); (case k_wd => k_is); (case l_wd => k_is); (case c_wd => k_is)))
      (case s13 => (refine' Qp.mt_in ?a_wg ?f_wg ?k_wg ?l_wg ?c_wg; (case a_wg => k_is); (case f_wg => k_is); (case k_wg => k_is); (case l_wg => k_is); (case c_wg => k_is)))
      (case s14 => (refine' Qp.mt_in ?a_wc ?f_wc ?k_wc ?l_wc ?c_wc; (case a_wc => k_is); (case f_wc => k_is); (case k_wc => k_is); (case l_wc => k_is); (case c_wc => k_is)))
    obtain ⟨dP, eP, nP, mP, DP, p_size, p_keys, p_wipe, p_spy, p_load, p_get, p_peek, p_has, p_put, p_fill, p_drop, p_change⟩ : Qp.KdTop _ w mg "PARTS" (fun K w d => Qp.PartsK K w d "size" ["table"] ∧ Qp.PartsK K w d "keys" ["table"] ∧ Qp.PartsK K w d "wipe" ["table"] ∧ Qp.PartsK K w d "spy" ["thing"] ∧ Qp.PartsK K w d "load" ["table", "keys"] ∧ Qp.PartsK K w d "get" ["table", "key"] ∧ Qp.PartsK K w d "peek" ["table", "key"] ∧ Qp.PartsK K w d "has" ["table", "key"] ∧ Qp.PartsK K w d "put" ["table", "key"] ∧ Qp.PartsK K w d "fill" ["table", "key"] ∧ Qp.PartsK K w d "drop" ["table", "key"] ∧ Qp.PartsK K w d "change" ["source"]) := by
      refine' Qp.kd_with KX G ?a ?l ?kk ?z ?more
      (case a => k_is); (case l => k_is)
      (case kk => repeat (first | exact trivial | refine ⟨⟨_, _, rfl, rfl⟩, ?_⟩))
      (case z => decide)
      (case more =>
        intro D
        refine' ⟨?m_size, ?m_keys, ?m_wipe, ?m_spy, ?m_load, ?m_get, ?m_peek, ?m_has, ?m_put, ?m_fill, ?m_drop, ?m_change⟩
        (case m_size => (refine' Qp.parts1 D ?e ?l; (case e => k_is); (case l => k_is)))
        (case m_keys => (refine' Qp.parts1 D ?e ?l; (case e => k_is); (case l => k_is)))
        (case m_wipe => (refine' Qp.parts1 D ?e ?l; (case e => k_is); (case l => k_is)))
        (case m_spy => (refine' Qp.parts1 D ?e ?l; (case e => k_is); (case l => k_is)))
        (case m_load => (refine' Qp.parts2 D ?e ?l; (case e => k_is); (case l => k_is)))
        (case m_get => (refine' Qp.parts2 D ?e ?l; (case e => k_is); (case l => k_is)))
        (case m_peek => (refine' Qp.parts2 D ?e ?l; (case e => k_is); (case l => k_is)))
        (case m_has => (refine' Qp.parts2 D ?e ?l; (case e => k_is); (case l => k_is)))
        (case m_put => (refine' Qp.parts2 D ?e ?l; (case e => k_is); (case l => k_is)))
        (case m_fill => (refine' Qp.parts2 D ?e ?l; (case e => k_is); (case l => k_is)))
        (case m_drop => (refine' Qp.parts2 D ?e ?l; (case e => k_is); (case l => k_is)))
        (case m_change => (refine' Qp.parts1 D ?e ?l; (case e => k_is); (case l => k_is))))
    obtain ⟨dA, eA, nA, mAc, DA, ⟨g_size, y_size, e_size, F_size⟩, ⟨g_keys, y_keys, e_keys, F_keys⟩, ⟨g_wipe, y_wipe, e_wipe, F_wipe⟩, ⟨g_spy, y_spy, e_spy, F_spy⟩, ⟨g_load, y_load, e_load, F_load⟩, ⟨g_get, y_get, e_get, F_get⟩, ⟨g_peek, y_peek, e_peek, F_peek⟩, ⟨g_has, y_has, e_has, F_has⟩, ⟨g_put, y_put, e_put, F_put⟩, ⟨g_fill, y_fill, e_fill, F_fill⟩, ⟨g_drop, y_drop, e_drop, F_drop⟩, ⟨g_change, y_change, e_change, F_change⟩⟩ : Qp.KdTop _ w mg "ACTIONS" (fun K w d => (∃ f fd, Qp.KDctF K w d "size" f ∧ L2.Fun K "_size" "_size" Qp.sSize f fd) ∧ (∃ f fd, Qp.KDctF K w d "keys" f ∧ L2.Fun K "_keys" "_keys" Qp.sKeys f fd) ∧ (∃ f fd, Qp.KDctF K w d "wipe" f ∧ L2.Fun K "_wipe" "_wipe" Qp.sWipe f fd) ∧ (∃ f fd, Qp.KDctF K w d "spy" f ∧ L2.Fun K "_spy" "_spy" Qp.sSpy f fd) ∧ (∃ f fd, Qp.KDctF K w d "load" f ∧ L2.Fun K "_load" "_load" Qp.sLoad f fd) ∧ (∃ f fd, Qp.KDctF K w d "get" f ∧ L2.Fun K "_get" "_get" Qp.sGet f fd) ∧ (∃ f fd, Qp.KDctF K w d "peek" f ∧ L2.Fun K "_peek" "_peek" Qp.sPeek f fd) ∧ (∃ f fd, Qp.KDctF K w d "has" f ∧ L2.Fun K "_has" "_has" Qp.sHas f fd) ∧ (∃ f fd, Qp.KDctF K w d "put" f ∧ L2.Fun K "_put" "_put" Qp.sPut f fd) ∧ (∃ f fd, Qp.KDctF K w d "fill" f ∧ L2.Fun K "_fill" "_fill" Qp.sFill f fd) ∧ (∃ f fd, Qp.KDctF K w d "drop" f ∧ L2.Fun K "_drop" "_drop" Qp.sDrop f fd) ∧ (∃ f fd, Qp.KDctF K w d "change" f ∧ L2.Fun K "_change" "_change" Qp.sChange f fd)) := by
      refine' Qp.kd_with KX G ?a ?l ?kk ?z ?more
      (case a => k_is); (case l => k_is)
      (case kk => repeat (first | exact trivial | refine ⟨⟨_, _, rfl, rfl⟩, ?_⟩))
      (case z => decide)
      (case more =>
        intro D
        refine' ⟨?m_size, ?m_keys, ?m_wipe, ?m_spy, ?m_load, ?m_get, ?m_peek, ?m_has, ?m_put, ?m_fill, ?m_drop, ?m_change⟩
        (case m_size => (refine' Qp.act_in D ?e ?l ?c ?k; (case e => k_is); (case l => k_is); (case c => k_is); (case k => k_is)))
        (case m_keys => (refine' Qp.act_in D ?e ?l ?c ?k; (case e => k_is); (case l => k_is); (case c => k_is); (case k => k_is)))
        (case m_wipe => (refine' Qp.act_in D ?e ?l ?c ?k; (case e => k_is); (case l => k_is); (case c => k_is); (case k => k_is)))
        (case m_spy => (refine' Qp.act_in D ?e ?l ?c ?k; (case e => k_is); (case l => k_is); (case c => k_is); (case k => k_is)))
        (case m_load => (refine' Qp.act_in D ?e ?l ?c ?k; (case e => k_is); (case l => k_is); (case c => k_is); (case k => k_is)))
        (case m_get => (refine' Qp.act_in D ?e ?l ?c ?k; (case e => k_is); (case l => k_is); (case c => k_is); (case k => k_is)))
        (case m_peek => (refine' Qp.act_in D ?e ?l ?c ?k; (case e => k_is); (case l => k_is); (case c => k_is); (case k => k_is)))
        (case m_has => (refine' Qp.act_in D ?e ?l ?c ?k; (case e => k_is); (case l => k_is); (case c => k_is); (case k => k_is)))
        (case m_put => (refine' Qp.act_in D ?e ?l ?c ?k; (case e => k_is); (case l => k_is); (case c => k_is); (case k => k_is)))
        (case m_fill => (refine' Qp.act_in D ?e ?l ?c ?k; (case e => k_is); (case l => k_is); (case c => k_is); (case k => k_is)))
        (case m_drop => (refine' Qp.act_in D ?e ?l ?c ?k; (case e => k_is); (case l => k_is); (case c => k_is); (case k => k_is)))
        (case m_change => (refine' Qp.act_in D ?e ?l ?c ?k; (case e => k_is); (case l => k_is); (case c => k_is); (case k => k_is))))
    obtain ⟨dF, eF, nF, mF, DF, FK⟩ : Qp.KdTop _ w mg "AT_FIRST" (fun K w d => Qp.FirstK K w d) := by
      refine' Qp.kd_with KX G ?a ?l ?kk ?z ?more
      (case a => k_is); (case l => k_is)
      (case kk => repeat (first | exact trivial | refine ⟨⟨_, _, rfl, rfl⟩, ?_⟩))
      (case z => decide)
      (case more =>
        intro D
        refine' Qp.first_in D ?e1 ?l1 ?e2 ?l2 ?e3 ?l3 ?e4 ?e5 ?e6 ?e7
        (case e1 => k_is); (case l1 => k_is); (case e2 => k_is); (case l2 => k_is); (case e3 => k_is); (case l3 => k_is); (case e4 => k_is); (case e5 => k_is); (case e6 => k_is); (case e7 => k_is))
    have e := hmg.symm.trans F20.m
    cases e
    obtain ⟨oc, od, kV, doc, pm, an, cdv, ct, osl, rfl, lk, hcd⟩ := F20.F.ex
    have b_size := F_size.binds (ps := ["state", "table"]) fun _ _ _ _ _ _ us hl => match us, hl with | [_, _], _ => rfl
    have b_keys := F_keys.binds (ps := ["state", "table"]) fun _ _ _ _ _ _ us hl => match us, hl with | [_, _], _ => rfl
    have b_wipe := F_wipe.binds (ps := ["state", "table"]) fun _ _ _ _ _ _ us hl => match us, hl with | [_, _], _ => rfl
    have b_spy := F_spy.binds (ps := ["state", "name"]) fun _ _ _ _ _ _ us hl => match us, hl with | [_, _], _ => rfl
    have b_load := F_load.binds (ps := ["state", "table", "keys"]) fun _ _ _ _ _ _ us hl => match us, hl with | [_, _, _], _ => rfl
    have b_get := F_get.binds (ps := ["state", "table", "key"]) fun _ _ _ _ _ _ us hl => match us, hl with | [_, _, _], _ => rfl
    have b_peek := F_peek.binds (ps := ["state", "table", "key"]) fun _ _ _ _ _ _ us hl => match us, hl with | [_, _, _], _ => rfl
    have b_has := F_has.binds (ps := ["state", "table", "key"]) fun _ _ _ _ _ _ us hl => match us, hl with | [_, _, _], _ => rfl
    have b_put := F_put.binds (ps := ["state", "table", "key"]) fun _ _ _ _ _ _ us hl => match us, hl with | [_, _, _], _ => rfl
    have b_fill := F_fill.binds (ps := ["state", "table", "key"]) fun _ _ _ _ _ _ us hl => match us, hl with | [_, _, _], _ => rfl
    have b_drop := F_drop.binds (ps := ["state", "table", "key"]) fun _ _ _ _ _ _ us hl => match us, hl with | [_, _, _], _ => rfl
    have b_change := F_change.binds (ps := ["state", "source"]) fun _ _ _ _ _ _ us hl => match us, hl with | [_, _], _ => rfl
    refine ⟨_, fun s v => .of_eq rfl, fun base _ _ => Qp.ok_law_ne F20.F ?_⟩
    obtain ⟨D, rfl, rfl, rfl, rfl, rfl⟩ := Qp.wdefs_of (P := PySem.Challenge.rw_quietprobes_k09_entries_of_tables.prog) base ({ B := B, mE := mE, mA := mA, mZ := mZ, tL := tk1, mL := mL, tK := tk2, mK := mK, tR := tk3, mR := mR, tT := tk4, mT := mT, C := C, CS := CS, CW := CW, dP := dP, dA := dA, dF := dF, eP := eP, eA := eA, eF := eF, nP := nP, nA := nA, nF := nF, T := T, KK := KK, S := S, fS := fS, xS := xS, MS := MS, FS := FS, W := WI, fW := fW, xW := xW, MW := MW, FW := FW, mDo := mDo, mIt := mIt, mCo := mCo, mP := mP, DP := DP, mAc := mAc, DA := DA, mF := mF, FK := FK } : Qp.WTop _ w mg) F1 F2 F3 F4 F5 F6 F7 F8 F9 F10 F11 F12 F13 F14
    have mDi : mg "dict" = none := by
      refine' PySem.W.mg_none_of KX G ?zD
      (case zD => k_is)
    have bTo := F15.F.binds (ps := ["name", "keys"]) fun _ _ _ _ _ _ us hl => match us, hl with | [_, _], _ => rfl
    have bWd := F16.F.binds (ps := ["pool"]) fun _ _ _ _ _ _ us hl => match us, hl with | [_], _ => rfl
    have bAd := F17.F.binds (ps := ["pool", "things"]) fun _ _ _ _ _ _ us hl => match us, hl with | [_, _], _ => rfl
    have bEn := F18.F.binds (ps := ["entries", "key"]) fun _ _ _ _ _ _ us hl => match us, hl with | [_, _], _ => rfl
    have bSt := F19.F.binds (ps := ["held", "deed", "keys"]) fun _ _ _ _ _ _ us hl => match us, hl with | [_, _, _], _ => rfl
    have gTo := Qp.ok_tableof (P := PySem.Challenge.rw_quietprobes_k09_entries_of_tables.prog) (w := w) (base := base) F15.F B T.T D.td.table
    have gWd := Qp.ok_word F16.F D.gD D.mD D.kD D.bD B.range
    have gAd := Qp.ok_any F17.F B D.gD D.mD D.kD D.bD gWd F16.m F16.F.kp bWd
    have gEn := Qp.ok_entry (P := PySem.Challenge.rw_quietprobes_k09_entries_of_tables.prog) (w := w) (base := base) F18.F B
    have gSt := Qp.ok_step F19.F B gEn F18.m F18.F.kp bEn
    have gNs := Qp.ok_serial (P := PySem.Challenge.rw_quietprobes_k09_entries_of_tables.prog) (w := w) (base := base) (C := D.C) FNs S
    exact ⟨{ D with fTo := f15, xTo := fd15, gTo := gTo, bTo := bTo, mTo := F15.m, kTo := F15.F.kp, fAd := f17, xAd := fd17, gAd := gAd, bAd := bAd, mAd := F17.m, kAd := F17.F.kp, fSt := f19, xSt := fd19, gSt := gSt, bSt := bSt, mSt := F19.m, kSt := F19.F.kp, aSize := Qp.actK_of p_size e_size (Qp.ok_size F_size B S) (by decide) b_size F_size.kp, aKeys := Qp.actK_of p_keys e_keys (Qp.ok_keys F_keys B S) (by decide) b_keys F_keys.kp, aWipe := Qp.actK_of p_wipe e_wipe (Qp.ok_wipe F_wipe S) (by decide) b_wipe F_wipe.kp, aSpy := Qp.actK_of p_spy e_spy (Qp.ok_spy F_spy) (by decide) b_spy F_spy.kp, aLoad := Qp.actK_of p_load e_load (Qp.ok_load F_load B T.T S mNs gNs bNs) (by decide) b_load F_load.kp, aGet := Qp.actK_of p_get e_get (Qp.ok_get F_get B mDi S) (by decide) b_get F_get.kp, aPeek := Qp.actK_of p_peek e_peek (Qp.ok_peek F_peek mDi S) (by decide) b_peek F_peek.kp, aHas := Qp.actK_of p_has e_has (Qp.ok_has F_has mDi S) (by decide) b_has F_has.kp, aPut := Qp.actK_of p_put e_put (Qp.ok_put F_put B mDi S mNs gNs bNs) (by decide) b_put F_put.kp, aFill := Qp.actK_of p_fill e_fill (Qp.ok_fill F_fill B mDi S mNs gNs bNs) (by decide) b_fill F_fill.kp, aDrop := Qp.actK_of p_drop e_drop (Qp.ok_drop F_drop B mDi S) (by decide) b_drop F_drop.kp, aChange := Qp.actK_of p_change e_change (Qp.ok_change F_change S mNs gNs bNs) (by decide) b_change F_change.kp }⟩
