import PyProof.Rows.All
import Wide.All
import OpenK.AllK
import Wide.FinOn
import KE.KExcSuper
import KE.KExcIs
import KE.RegKSuper
import KE.GoesMore
import HandS.ForMost
import HandS.EndBits
import HandS.Wide
import HandS.Star
import HandS.IsInst
import HandS.Codes
import HandS.More
import HandS.StrMore
import HandS.ClsMeth
import HandS.SlotsOwn
import HandS.Steps
import HandS.Walk
import HandS.FStrTup
import HandS.FStr
import HandS.ExcInit
import HandS.ExcField
import HandS.ExcIs
import HandS.ExcOwn
import HandS.WordsExc
import HandS.DictComp
import HandS.CallLocal
import HandS.Zip
import HandS.Property
import HandS.MethStar
import PySem.Challenge.RW_quietprobes_k10_fields_keep_what_they_sa
set_option Elab.async false
set_option maxRecDepth 100000
set_option maxHeartbeats 4000000
set_option linter.all false
namespace Qp
open PySem L2
def top (i : Nat) : Stmt := PySem.Challenge.pw_quietprobes_k10_fields_keep_what_they_sa.main.body.getD i (.Pass ⟨0, 0, 0, 0⟩)
abbrev sIsInt : Stmt := top 11
abbrev sIsName : Stmt := top 12
abbrev sNames : Stmt := top 13
abbrev sUnlike : Stmt := top 14
abbrev sCls : Stmt := top 17
abbrev sIsDeed : Stmt := top 21
abbrev sIsPart : Stmt := top 22
abbrev sIsLength : Stmt := top 23
abbrev sCheckDeed : Stmt := top 24
abbrev sState : Stmt := top 27
abbrev sDone : Stmt := top 57
abbrev sWorld : Stmt := top 60
abbrev sFields : Stmt := top 61
abbrev sChange : Stmt := top 45
abbrev sLook : Stmt := top 46
abbrev sRenew : Stmt := top 47
abbrev sValue : Stmt := top 54
abbrev sSpy : Stmt := top 55
abbrev sPool : Stmt := top 63
abbrev sDraw : Stmt := top 64
abbrev sLNames : Stmt := top 65
abbrev sSame : Stmt := top 66
abbrev sLaw : Stmt := top 67
abbrev me (i : Nat) : Stmt := (C8.clsBody sCls).getD i (.Pass ⟨0, 0, 0, 0⟩)
abbrev st (i : Nat) : Stmt := (C8.clsBody sState).getD i (.Pass ⟨0, 0, 0, 0⟩)
abbrev wo (i : Nat) : Stmt := (C8.clsBody sWorld).getD i (.Pass ⟨0, 0, 0, 0⟩)
/-! ### the pool of drawn numbers -/
/-- all objects but the two of the pool stay -/
def Keeps (p q : Addr) (H H' : Hp) : Prop := ∀ x o, x ≠ p → x ≠ q → H x = some o → H' x = some o
theorem Keeps.refl (p q : Addr) (H : Hp) : Keeps p q H H := fun _ _ _ _ e => e
theorem Keeps.trans {p q : Addr} {H H1 H2 : Hp} (a : Keeps p q H H1) (b : Keeps p q H1 H2) : Keeps p q H H2 := fun x o h1 h2 e => b x o h1 h2 (a x o h1 h2 e)
theorem Keeps.of_same {p q : Addr} {H H1 : Hp} (a : Same H H1) : Keeps p q H H1 := fun x o _ _ e => a x o e
theorem Keeps.upd_p {p q : Addr} {H : Hp} {o : HO} : Keeps p q H (upd H p o) := fun x u h1 _ e => by
  rw [upd_ne h1]; exact e
theorem Keeps.upd_q {p q : Addr} {H : Hp} {o : HO} : Keeps p q H (upd H q o) := fun x u _ h2 e => by
  rw [upd_ne h2]; exact e
theorem Keeps.upd_new {p q a : Addr} {H : Hp} {o : HO} (n : H a = none) : Keeps p q H (upd H a o) := fun x u _ _ e => by
  rw [upd_ne (ne_of_none e n)]; exact e
theorem Keeps.free {p q a : Addr} {H H1 : Hp} (k : Keeps p q H H1) (n : H1 a = none) (hp : a ≠ p) (hq : a ≠ q) : H a = none := by
  cases e : H a with
  | none => rfl
  | some o => rw [k a o hp hq e] at n; cases n
/-- the pool's two lists: how many numbers were drawn is n -/
structure PoolAt (H : Hp) (p q : Addr) (n : Nat) : Prop where
  ne : p ≠ q
  ex : ∃ (cs : List Int) (b c : Int), H p = some (.lst [.ref q, .int b, .int (n : Int), .int c]) ∧ H q = some (.lst (cs.map V.int)) ∧ cs.length ≤ 1000 ∧ 0 ≤ b ∧ 0 ≤ c ∧ c < 2147483629
theorem PoolAt.p_some {H : Hp} {p q : Addr} {n : Nat} (h : PoolAt H p q n) : ∃ o, H p = some o := let ⟨_, _, _, e, _⟩ := h.ex; ⟨_, e⟩
theorem PoolAt.q_some {H : Hp} {p q : Addr} {n : Nat} (h : PoolAt H p q n) : ∃ o, H q = some o := let ⟨_, _, _, _, e, _⟩ := h.ex; ⟨_, e⟩
theorem PoolAt.same {H H' : Hp} {p q : Addr} {n : Nat} (h : PoolAt H p q n) (s : Same H H') : PoolAt H' p q n := by
  obtain ⟨ne, cs, b, c, e1, e2, r⟩ := h
  exact ⟨ne, cs, b, c, s _ _ e1, s _ _ e2, r⟩
theorem PoolAt.new {H : Hp} {p q a : Addr} {n : Nat} {o : HO} (h : PoolAt H p q n) (na : H a = none) : PoolAt (upd H a o) p q n :=
  h.same fun x u e => by rw [upd_ne (ne_of_none e na)]; exact e
section
variable {X : Cx}
theorem get_list : PGet X (rIxL X.K) := by
  intro pins s σ H o i ov iv Q I ro ri h
  obtain ⟨p, xs, k, z, rfl, rfl, hq, he, q⟩ := h
  cases ro
  obtain ⟨t, rfl⟩ := ri
  obtain ⟨its, r, pl, hz⟩ := I.list hq
  obtain ⟨j, h1, h2, h3, h4, h5⟩ := atI_get he
  obtain ⟨w, ew, rw'⟩ := r.get h2
  have hl := r.length
  have hn := line63
  have fin : EP X pins σ Q w s := ⟨z, H, I, rw', q⟩
  by_cases h0 : 0 ≤ k
  · have hj : k.toNat = j := by
      rw [seqIndex_of h0 h5] at h1
      exact Option.some.inj h1
    exact wpAny_getItem_list pl.isList h0 (by omega) (by rw [hj]; simpa using ew) fin
  · have hj : (k + (its.toArray.size : Int)).toNat = j := by
      rw [seqIndex_neg (by omega) h4] at h1
      rw [List.size_toArray, ← hl]
      exact Option.some.inj h1
    exact wpAny_getItem_list_neg pl.isList (by omega) (by rw [List.size_toArray] <;> omega) (by omega) (by rw [hj]; simpa using ew) fin
end
theorem div_many {b m : Int} (h0 : 0 < m) (h1 : m ≤ 10 ^ 40) : CDivW b m := by
  refine wide_div (b := 200) h0 ?_ (by decide) (by decide)
  have h : m.natAbs ≤ 10 ^ 40 := by omega
  exact Nat.lt_of_le_of_lt h (by decide)
def spDraw : Sp := fun vs H Q _ => ∃ (p q : Addr) (n : Nat) (m : Int), vs = [.ref p, .int m] ∧ PoolAt H p q n ∧ n < 1000000 ∧ 0 < m ∧ m ≤ 10 ^ 40 ∧
  ∀ (d : Int) (H' : Hp), 0 ≤ d → d < m → PoolAt H' p q (n + 1) → Keeps p q H H' → Q (.int d) H'
section
variable {P : Program} {w : World} {K : PySem.W.Frag} {mg : Str → Option Value} {base : Heap}
theorem scD : FnScope ["pool", "many", "cell", "code", "digit", "far", "mixed"] ["pool", "many"] (defScope sDraw) := ⟨rfl, rfl, rfl, by decide +kernel, rfl, by decide +kernel, by decide +kernel⟩
theorem ok_draw {f : Addr} {fd : FuncData} {k : Nat} (F : Fun K "_law_draw" "_law_draw" sDraw f fd) (mi : mg "int" = none) : FnOk P w K mg base CX0 (k + 1) f fd ["pool", "many"] spDraw := by
  refine F.ok scD (fun vs H Q E h => ?_) (fun cdv A outer s H vs Q E hr h => ?_)
  · obtain ⟨p, q, n, m, rfl, _⟩ := h
    rfl
  · obtain ⟨p, q, n, m, rfl, ⟨npq, cs, b, c, hp, hq, hcs, hb, hc0, hc1⟩, hn, hm0, hm1, kk⟩ := h
    refine ⟨_,
      pss_cons (ps_augS (pv 0) pe_int get_list pe_int ip_add set_list)
      (C8.pss_cut (ps_if (PW.pt (pw_and (pt_cmpR op_eq (pe_ix ix_list (pv 0) pe_int (fun _ _ => rfl)) pe_int (nomark _)) (pw_and1 (pt_truth (pe_ix ix_list (pv 0) pe_int (fun _ _ => rfl)) (by intro _; rfl)))))
        (pss_cons (ps_set (i := 2) scD.nd rfl (.inl rfl) (pe_callTy call_int1 (by rfl) mi (by decide +kernel) (pa_cons (pe_bm PySem.F.plainAttrs_list PySem.F.slot_list_pop PySem.F.type_list_pop mt_popAt (pe_ix ix_list (pv 0) pe_int (fun _ _ => rfl)) (pa_cons pe_int pa_nil)) pa_nil)))
        (C8.pss_cut (ps_set (i := 3) scD.nd rfl (.inl rfl) (pe_ifExp (pt_cmpR op_ge (pv 2) pe_int (nomark _)) (pe_op op_mul pe_int (pv 2)) (pe_op op_sub (pe_un un_neg pe_int) (pe_op op_mul pe_int (pv 2)))))
        (pss_one (ps_if (pt_cmpR op_ge (pv 3) (pe_op op_pow pe_int pe_int) (nomark _))
          (pss_one (ps_asg (pv 3) (pg_sub (pv 0) pe_int set_list)))
          (pss_one (ps_asg (pe_op op_mod (pe_callTy call_int1 (by rfl) mi (by decide +kernel) (pa_cons (pe_op op_add (pe_op op_add (pe_op op_mul (pe_ix ix_list (pv 0) pe_int (fun _ _ => rfl)) pe_int) (pe_op op_mul (pv 3) pe_int)) pe_int) pa_nil)) pe_int) (pg_sub (pv 0) pe_int set_list)))))))
        pss_nil)
      (pss_cons (ps_if (pt_cmpR op_gt (pe_ix ix_list (pv 0) pe_int (fun _ _ => rfl)) pe_int (nomark _))
        (pss_cons (ps_set (i := 4) scD.nd rfl (.inl rfl) (pe_op op_mod (pe_callTy call_int1 (by rfl) mi (by decide +kernel) (pa_cons (pe_ix ix_list (pv 0) pe_int (fun _ _ => rfl)) pa_nil)) (pv 1)))
        (pss_cons (ps_asg (pe_op op_fdivW (pe_ix ix_list (pv 0) pe_int (fun _ _ => rfl)) (pv 1)) (pg_sub (pv 0) pe_int set_list))
        (pss_one (ps_ret (pv 4)))))
        pss_nil)
      (pss_cons (ps_if (pt_cmpR op_eq (pe_ix ix_list (pv 0) pe_int (fun _ _ => rfl)) pe_int (nomark _)) (pss_one (ps_ret pe_int)) pss_nil)
      (pss_cons (ps_set (i := 5) scD.nd rfl (.inl rfl) (pe_op op_add (pe_op op_mul (pe_ix ix_list (pv 0) pe_int (fun _ _ => rfl)) pe_int) (pe_op op_mul (pe_op op_mul (pe_ix ix_list (pv 0) pe_int (fun _ _ => rfl)) (pe_ix ix_list (pv 0) pe_int (fun _ _ => rfl))) pe_int)))
      (pss_cons (ps_set (i := 6) scD.nd rfl (.inl rfl) (pe_op op_mod (pe_callTy call_int1 (by rfl) mi (by decide +kernel) (pa_cons (pe_op op_add (pe_op op_mul (pe_ix ix_list (pv 0) pe_int (fun _ _ => rfl)) pe_int) (pv 5)) pa_nil)) pe_int))
      (pss_one (ps_ret (pe_op op_mod (pe_op op_mod (pe_callTy call_int1 (by rfl) mi (by decide +kernel) (pa_cons (pe_op op_fdiv (pe_op op_mul (pv 6) pe_int) pe_int) pa_nil)) pe_int) (pv 1))))))))), ?_⟩
    -- pool[2] += 1
    have g : ∀ {H : Hp} {x y z t : V}, H p = some (.lst [x, y, z, t]) → SqL K H p [x, y, z, t] := fun e => SqL.of e
    refine ⟨_, rfl, p, _, 2, _, rfl, rfl, g hp, atI_nat (j := 2) rfl, n, 1, rfl, rfl, p, _, 2, 2, rfl, rfl, hp, rfl, ?_⟩
    have K1 : Keeps p q H (upd H p (.lst [.ref q, .int b, .int ((n : Int) + 1), .int c])) := Keeps.upd_p
    have hp1 : (upd H p (.lst [.ref q, .int b, .int ((n : Int) + 1), .int c])) p = some (.lst [.ref q, .int b, .int ((n : Int) + 1), .int c]) := upd_same
    have hq1 : (upd H p (.lst [.ref q, .int b, .int ((n : Int) + 1), .int c])) q = some (.lst (cs.map V.int)) := by rw [upd_ne npq.symm]; exact hq
    refine ⟨fun σ H1 => ∃ (cs b c : _) (y2 y3 : Option V), σ = [some (.ref p), some (.int m), y2, y3, none, none, none] ∧ Keeps p q H H1 ∧
      H1 p = some (.lst [.ref q, .int b, .int ((n : Int) + 1), .int c]) ∧ H1 q = some (.lst (List.map V.int cs)) ∧ cs.length ≤ 1000 ∧ 0 ≤ b ∧ 0 ≤ c ∧ c < 2147483629, ?_, ?_⟩
    · -- if pool[1] == 0 and pool[0]
      refine ⟨_, rfl, p, _, 1, _, rfl, rfl, g hp1, atI_nat (j := 1) rfl, rfl, _, rfl, ?_⟩
      refine ite2 (fun _ => ?_) (fun _ => ?_)
      · refine ⟨_, rfl, p, _, 0, _, rfl, rfl, g hp1, atI_nat (j := 0) rfl, _, .inl ⟨_, SqL.of hq1, rfl⟩, ?_⟩
        cases cs with
        | nil =>
          refine iteF ?_
          exact ⟨[], b, c, none, none, rfl, K1, hp1, hq1, Nat.zero_le _, hb, hc0, hc1⟩
        | cons z r =>
          refine iteT ?_
          -- cell = int(pool[0].pop(0))
          refine ⟨_, rfl, p, _, 0, _, rfl, rfl, g hp1, atI_nat (j := 0) rfl, .inl ⟨rfl, _, SqL.of hq1⟩, q, _, 0, 0, _, rfl, rfl, hq1, by decide, by decide, seqIndex_of (by decide) (by simp), rfl, ?_⟩
          have hq2 : (upd (upd H p (.lst [.ref q, .int b, .int ((n : Int) + 1), .int c])) q (.lst (r.map V.int))) q = some (.lst (r.map V.int)) := upd_same
          have hp2 : (upd (upd H p (.lst [.ref q, .int b, .int ((n : Int) + 1), .int c])) q (.lst (r.map V.int))) p = some (.lst [.ref q, .int b, .int ((n : Int) + 1), .int c]) := by
            rw [upd_ne npq, hp1]
          have K2 : Keeps p q H (upd (upd H p (.lst [.ref q, .int b, .int ((n : Int) + 1), .int c])) q (.lst (r.map V.int))) := K1.trans .upd_q
          refine .inl ⟨z, rfl, ?_⟩
          have hr1 : r.length ≤ 1000 := Nat.le_of_succ_le hcs
          -- code
          refine ⟨fun σ H1 => ∃ code : Int, σ = [some (.ref p), some (.int m), some (.int z), some (.int code), none, none, none] ∧ 0 ≤ code ∧ H1 = upd (upd H p (.lst [.ref q, .int b, .int ((n : Int) + 1), .int c])) q (.lst (r.map V.int)), ?_, ?_⟩
          · refine ⟨_, rfl, _, _, rfl, rfl, _, rfl, ?_⟩
            refine ite2 (fun hz => ?_) (fun hz => ?_)
            · have hz' : 0 ≤ z := of_decide_eq_true hz
              exact ⟨_, rfl, _, _, rfl, rfl, .inl (by decide), 2 * z, rfl, by omega, rfl⟩
            · have hz' : ¬ 0 ≤ z := fun e => hz (decide_eq_true e)
              exact ⟨_, rfl, _, rfl, _, _, rfl, rfl, .inl (by decide), _, _, rfl, rfl, -1 - 2 * z, rfl, by omega, rfl⟩
          · rintro σ H1 ⟨code, rfl, hcode, rfl⟩
            refine ⟨_, rfl, _, _, rfl, rfl, ⟨by decide, by decide, by decide⟩, _, _, rfl, rfl, _, rfl, ?_⟩
            refine ite2 (fun hz => ?_) (fun hz => ?_)
            · refine ⟨_, rfl, _, rfl, p, _, 1, 1, rfl, rfl, hp2, rfl, ?_⟩
              exact ⟨r, code, c, _, _, rfl, K2.trans .upd_p, upd_same, by rw [upd_ne npq.symm]; exact hq2, hr1, hcode, hc0, hc1⟩
            · have hz' : ¬ ((10 : Int) ^ (18 : Int).toNat ≤ code) := fun e => hz (decide_eq_true e)
              refine ⟨_, rfl, p, _, 3, _, rfl, rfl, g hp2, atI_nat (j := 3) rfl, _, _, rfl, rfl, .inl ⟨by omega, by omega⟩, _, rfl, _, _, rfl, rfl, .inr (by decide), _, _, rfl, rfl, _, _, rfl, rfl, .inl ⟨_, rfl, _, _, rfl, rfl, (by show (0 : Int) < 2147483629; decide), _, rfl, p, _, 3, 3, rfl, rfl, hp2, rfl, ?_⟩⟩
              refine ⟨r, b, _, _, _, rfl, K2.trans .upd_p, upd_same, by rw [upd_ne npq.symm]; exact hq2, hr1, hb, Int.emod_nonneg _ (by decide), Int.emod_lt_of_pos _ (by decide)⟩
      · exact ⟨cs, b, c, none, none, rfl, K1, hp1, hq1, hcs, hb, hc0, hc1⟩
    · rintro σ H1 ⟨cs, b, c, y2, y3, rfl, K1, hp1, hq1, hcs, hb, hc0, hc1⟩
      have en : ((n : Int) + 1) = ((n + 1 : Nat) : Int) := by omega
      rw [en] at hp1
      -- if pool[1] > 0
      refine ⟨_, rfl, p, _, 1, _, rfl, rfl, g hp1, atI_nat (j := 1) rfl, _, _, rfl, rfl, _, rfl, ?_⟩
      refine ite2 (fun h1 => ?_) (fun h1 => ?_)
      · have hdm : (0 : Int) < m := hm0
        refine ⟨_, rfl, p, _, 1, _, rfl, rfl, g hp1, atI_nat (j := 1) rfl, .inl ⟨_, rfl, _, rfl, _, _, rfl, rfl, hm0, ?_⟩⟩
        refine ⟨_, rfl, p, _, 1, _, rfl, rfl, g hp1, atI_nat (j := 1) rfl, _, rfl, _, _, rfl, rfl, div_many hm0 hm1, ?_⟩
        refine ⟨_, rfl, p, _, 1, 1, rfl, rfl, hp1, rfl, ?_⟩
        refine ⟨_, rfl, ?_⟩
        exact kk _ _ (Int.emod_nonneg _ (by omega)) (Int.emod_lt_of_pos _ hm0) ⟨npq, cs, b / m, c, upd_same, by rw [upd_ne npq.symm]; exact hq1, hcs, Int.ediv_nonneg hb (by omega), hc0, hc1⟩ (K1.trans .upd_p)
      · -- if pool[3] == 0
        refine ⟨_, rfl, p, _, 3, _, rfl, rfl, g hp1, atI_nat (j := 3) rfl, rfl, _, rfl, ?_⟩
        refine ite2 (fun h3 => ?_) (fun h3 => ?_)
        · exact kk 0 _ (by decide) hm0 ⟨npq, cs, b, c, hp1, hq1, hcs, hb, hc0, hc1⟩ K1
        · refine ⟨_, rfl, p, _, 2, _, rfl, rfl, g hp1, atI_nat (j := 2) rfl, _, _, rfl, rfl, .inr (by decide), _, rfl, p, _, 2, _, rfl, rfl, g hp1, atI_nat (j := 2) rfl, _, rfl, p, _, 2, _, rfl, rfl, g hp1, atI_nat (j := 2) rfl, _, _, rfl, rfl, .inl ⟨by omega, by omega⟩, _, _, rfl, rfl, .inr (by decide), _, _, rfl, rfl, ?_⟩
          refine ⟨_, rfl, p, _, 3, _, rfl, rfl, g hp1, atI_nat (j := 3) rfl, _, _, rfl, rfl, .inl ⟨by omega, by omega⟩, _, rfl, _, _, rfl, rfl, .inl ⟨_, rfl, _, _, rfl, rfl, (by show (0 : Int) < 2147483647; decide), ?_⟩⟩
          refine ⟨_, rfl, _, _, rfl, rfl, .inr (by decide), _, _, rfl, rfl, ⟨by decide, by decide⟩, .inl ⟨_, rfl, _, _, rfl, rfl, (by show (0 : Int) < 2147483629; decide), _, rfl, _, _, rfl, rfl, hm0, ?_⟩⟩
          exact kk _ _ (Int.emod_nonneg _ (by omega)) (Int.emod_lt_of_pos _ hm0) ⟨npq, cs, b, c, hp1, hq1, hcs, hb, hc0, hc1⟩ K1
end
/-! ### the pool made, a word drawn -/
theorem cut_take (xs : List V) (k : Nat) : cutV xs none (some (k : Int)) = xs.take k := by
  unfold cutV
  rw [HT.sIx_nat, HT.sIx_none]
  show (xs.drop 0).take (min k xs.length - 0) = xs.take k
  rw [List.drop_zero, Nat.sub_zero]
  by_cases h : k ≤ xs.length
  · rw [Nat.min_eq_left h]
  · rw [Nat.min_eq_right (by omega), List.take_of_length_le (Nat.le_refl _), List.take_of_length_le (by omega)]
def spPool (K : PySem.W.Frag) : Sp := fun vs H Q _ => ∃ (a : Addr) (ns : List Int), vs = [.ref a] ∧ SqL K H a (ns.map V.int) ∧ ns.length ≤ 63 ∧ ∀ (p q : Addr) (H' : Hp), H p = none → H q = none → PoolAt H' p q 0 → Same H H' → Q (.ref p) H'
/-- one to eight letters -/
def IsWord (z : Str) : Prop := 1 ≤ z.length ∧ z.length ≤ 8 ∧ ∀ c ∈ z.cps.toList, 97 ≤ c ∧ c ≤ 122
def spWord : Sp := fun vs H Q _ => ∃ (p q : Addr) (n : Nat), vs = [.ref p] ∧ PoolAt H p q n ∧ n < 900000 ∧
  ∀ (z : Str) (n' : Nat) (H' : Hp), IsWord z → n ≤ n' → n' ≤ n + 9 → PoolAt H' p q n' → Keeps p q H H' → Q (.str z) H'
theorem sum_ones : ∀ ys : List Str, (∀ y ∈ ys, y.length = 1) → (ys.map (·.length)).sum = ys.length
  | [], _ => rfl
  | x :: r, h => by
    rw [List.map_cons, List.sum_cons, h x List.mem_cons_self, sum_ones r fun y hy => h y (List.mem_cons_of_mem _ hy), List.length_cons]
    omega
theorem join_letters {sep : Str} (hs : sep.cps.toList = []) : ∀ ys : List Str, (∀ y ∈ ys, ∃ c, y = ⟨#[c]⟩ ∧ 97 ≤ c ∧ c ≤ 122) → (Str.join sep ys).length = ys.length ∧ ∀ c ∈ (Str.join sep ys).cps.toList, 97 ≤ c ∧ c ≤ 122
  | [], _ => ⟨rfl, fun c h => by cases h⟩
  | [x], h => by
    obtain ⟨c, rfl, h1, h2⟩ := h x List.mem_cons_self
    exact ⟨rfl, fun d hd => by
      have e : d = c := List.mem_singleton.mp hd
      rw [e]; exact ⟨h1, h2⟩⟩
  | x :: y :: r, h => by
    obtain ⟨c, rfl, h1, h2⟩ := h x List.mem_cons_self
    obtain ⟨i1, i2⟩ := join_letters hs (y :: r) fun z hz => h z (List.mem_cons_of_mem _ hz)
    have sl : sep.length = 0 := by
      show sep.cps.size = 0
      rw [← Array.length_toList, hs]; rfl
    have e : (Str.join sep ((⟨#[c]⟩ : Str) :: y :: r)) = (⟨#[c]⟩ : Str) ++ sep ++ Str.join sep (y :: r) := rfl
    rw [e]
    refine ⟨?_, fun d hd => ?_⟩
    · rw [strLen_append, strLen_append, i1, sl]
      show 1 + 0 + (y :: r).length = _
      simp only [List.length_cons]; omega
    · rcases PyProof.Rows.mem_cps_append.mp hd with hd | hd
      · rcases PyProof.Rows.mem_cps_append.mp hd with hd | hd
        · have e : d = c := List.mem_singleton.mp hd
          rw [e]; exact ⟨h1, h2⟩
        · rw [hs] at hd; cases hd
      · exact i2 d hd
def abc : Str := "abcdefghijklmnopqrstuvwxyz"
theorem abc_len : abc.length = 26 := by decide +kernel
theorem abc_at (d : Int) (h0 : 0 ≤ d) (h1 : d < 26) : ∃ c, atI abc.cps.toList d = some c ∧ 97 ≤ c ∧ c ≤ 122 := by
  obtain ⟨k, rfl⟩ : ∃ k : Nat, d = (k : Int) := ⟨d.toNat, by omega⟩
  have hk : k < 26 := by omega
  have all : ∀ k : Fin 26, ∃ c, abc.cps.toList[k.val]? = some c ∧ 97 ≤ c ∧ c ≤ 122 := by
    have h : ∀ k : Fin 26, (match abc.cps.toList[k.val]? with | some c => decide (97 ≤ c ∧ c ≤ 122) | none => false) = true := by decide +kernel
    intro k
    have := h k
    cases e : abc.cps.toList[k.val]? with
    | none => rw [e] at this; cases this
    | some c =>
      rw [e] at this
      exact ⟨c, rfl, of_decide_eq_true this⟩
  obtain ⟨c, e, r⟩ := all ⟨k, hk⟩
  exact ⟨c, atI_nat e, r⟩
section
variable {P : Program} {w : World} {K : PySem.W.Frag} {mg : Str → Option Value} {base : Heap}
theorem scP : FnScope ["script"] ["script"] (defScope sPool) := ⟨rfl, rfl, rfl, by decide +kernel, rfl, by decide +kernel, by decide +kernel⟩
theorem ok_pool {f : Addr} {fd : FuncData} {k : Nat} (F : Fun K "_law_pool" "_law_pool" sPool f fd) (ml : mg "list" = none) : FnOk P w K mg base CX0 (k + 1) f fd ["script"] (spPool K) := by
  refine F.ok scP (fun vs H Q E h => ?_) (fun cdv A outer s H vs Q E hr h => ?_)
  · obtain ⟨a, ns, rfl, _⟩ := h
    rfl
  · obtain ⟨a, ns, rfl, hS, hl, kk⟩ := h
    refine ⟨_, pss_one (ps_ret (pe_lst (pa_cons (pe_callTy call_list_of (by rfl) ml (by decide +kernel) (pa_cons (pe_slice sl_list (pv 0) po_none (po_some pe_int)) pa_nil)) (pa_cons pe_int (pa_cons pe_int (pa_cons pe_int pa_nil)))))), ?_⟩
    refine ⟨.ref a, rfl, 63, rfl, a, _, rfl, hS, fun c nc => ?_⟩
    have e : cutV (ns.map V.int) none (some 63) = (ns.take 63).map V.int := by
      rw [List.map_take]; exact cut_take _ 63
    rw [e]
    refine ⟨c, _, rfl, .inl (SqL.of upd_same), fun q nq => ?_⟩
    refine ⟨by show 4 ≤ sizeLine; decide, fun p np => ?_⟩
    have hc : (upd H c (.lst ((ns.take 63).map V.int))) c = some (.lst ((ns.take 63).map V.int)) := upd_same
    have s1 : Same H (upd H c (.lst ((ns.take 63).map V.int))) := fun b o z => by rw [upd_ne (ne_of_none z nc)]; exact z
    have s2 : Same (upd H c (.lst ((ns.take 63).map V.int))) (upd (upd H c (.lst ((ns.take 63).map V.int))) q (.lst ((ns.take 63).map V.int))) := fun b o z => by rw [upd_ne (ne_of_none z nq)]; exact z
    have hq : (upd (upd H c (.lst ((ns.take 63).map V.int))) q (.lst ((ns.take 63).map V.int))) q = some (.lst ((ns.take 63).map V.int)) := upd_same
    have s3 := fun o => (fun b u z => by rw [upd_ne (ne_of_none z np)]; exact z : Same (upd (upd H c (.lst ((ns.take 63).map V.int))) q (.lst ((ns.take 63).map V.int))) (upd _ p o))
    refine kk p q _ ((s1.trans s2).free np) (s1.free nq) ⟨(ne_of_none hq np).symm, ns.take 63, 0, 0, upd_same, s3 _ _ _ hq, by rw [List.length_take]; omega, by decide, by decide, by decide⟩ ((s1.trans s2).trans (s3 _))
end
/-! ### two data are the same -/
/-- no deeper than that -/
def dp : Nat → PyData → Prop
  | 0, _ => False
  | _ + 1, .none => True
  | _ + 1, .bool _ => True
  | _ + 1, .int _ => True
  | _ + 1, .str _ => True
  | m + 1, .list xs => xs.length ≤ 1000000 ∧ ∀ x ∈ xs, dp m x
  | m + 1, .tuple xs => xs.length ≤ 1000000 ∧ ∀ x ∈ xs, dp m x
  | _ + 1, .dict _ => False
theorem dp_mono : ∀ {m n : Nat} {d : PyData}, m ≤ n → dp m d → dp n d
  | 0, _, _, _, h => by simp [dp] at h
  | m + 1, 0, _, h, _ => by omega
  | m + 1, n + 1, d, h, hd => by
    cases d with
    | none => simp [dp]
    | bool b => simp [dp]
    | int i => simp [dp]
    | str s => simp [dp]
    | list xs =>
      simp only [dp] at hd ⊢
      exact ⟨hd.1, fun x hx => dp_mono (Nat.le_of_succ_le_succ h) (hd.2 x hx)⟩
    | tuple xs =>
      simp only [dp] at hd ⊢
      exact ⟨hd.1, fun x hx => dp_mono (Nat.le_of_succ_le_succ h) (hd.2 x hx)⟩
    | dict xs => simp [dp] at hd
def tyName : PyData → String
  | .none => "NoneType"
  | .bool _ => "bool"
  | .int _ => "int"
  | .str _ => "str"
  | .list _ => "list"
  | .tuple _ => "tuple"
  | .dict _ => "dict"
theorem ty_of {K : PySem.W.Frag} {H : Hp} {v : V} {d : PyData} (h : Dp K H v d) : TyX K H v (.type (tyName d)) := by
  cases h with
  | non => exact .base .non
  | bl b => exact .base (.bl b)
  | int i => exact .base (.int i)
  | str x => exact .base (.str x)
  | lst hs _ =>
    rcases hs with (h | ⟨o, h⟩) | ⟨o, its, n, hk, hc, _⟩
    · exact .base (.lst h)
    · exact .base (.frz h)
    · exact .kList hk hc
  | tup hs _ =>
    rcases hs with (h | ⟨o, h⟩) | ⟨o, its, n, hk, hc, _⟩
    · exact .base (.tup h)
    · exact .fTuple h
    · exact .kTuple hk hc
theorem isi {K : PySem.W.Frag} {H : Hp} {v : V} {d : PyData} {T : String} {b : Bool} {Q : VK} (h : Dp K H v d) (e : kitB (tyName d) T = some b) (q : Q (.bl b) H) : rIsi K [v, .ty T] H Q :=
  ⟨v, .ty T, _, _, b, rfl, ClsV.ty T, ty_of h, kit_ty e, q⟩
theorem dpAll_len {K : PySem.W.Frag} {H : Hp} : ∀ {vs : List V} {ds : List PyData}, DpAll K H vs ds → vs.length = ds.length
  | _, _, .nil => rfl
  | _, _, .cons _ t => by rw [List.length_cons, List.length_cons, dpAll_len t]
theorem dpAll_get {K : PySem.W.Frag} {H : Hp} : ∀ {vs : List V} {ds : List PyData} {i : Nat} {d : PyData}, DpAll K H vs ds → ds[i]? = some d → ∃ v, vs[i]? = some v ∧ Dp K H v d
  | _, _, _, _, .nil, e => by simp at e
  | _, _, 0, _, .cons h _, e => by
    have e' := Option.some.inj e
    subst e'
    exact ⟨_, rfl, h⟩
  | _, _, i + 1, _, .cons _ t, e => dpAll_get (i := i) t e
def spSame (K : PySem.W.Frag) (m : Nat) : Sp := fun vs H Q _ => ∃ (v u : V) (d : PyData), vs = [v, u] ∧ Dp K H v d ∧ Dp K H u d ∧ dp m d ∧ Q (.bl true) H
/-- what the names of classes and of len, range stand for -/
structure Bts (mg : Str → Option Value) : Prop where
  isinstance : mg "isinstance" = none
  bool : mg "bool" = none
  str : mg "str" = none
  int : mg "int" = none
  list : mg "list" = none
  tuple : mg "tuple" = none
  len : mg "len" = none
  range : mg "range" = none
section
variable {P : Program} {w : World} {K : PySem.W.Frag} {mg : Str → Option Value} {base : Heap}
theorem fn_never {f : Addr} {fd : FuncData} {ps : List Str} : FnOk P w K mg base CX0 0 f fd ps (fun _ _ _ _ => False) :=
  ⟨fun _ _ _ _ h => h.elim, fun _ _ _ _ _ _ _ _ _ _ _ _ _ h => h.elim⟩
theorem scS : FnScope ["actual", "due", "k"] ["actual", "due"] (defScope sSame) := ⟨rfl, rfl, rfl, by decide +kernel, rfl, by decide +kernel, by decide +kernel⟩
theorem ok_same {f : Addr} {fd : FuncData} (F : Fun K "_law_same" "_law_same" sSame f fd) (B : Bts mg) (mS : mg "_law_same" = some (.ref f)) (bS : Binds K fd ["actual", "due"] []) : ∀ m : Nat, FnOk P w K mg base CX0 m f fd ["actual", "due"] (spSame K m)
  | 0 => fn_never.imp fun vs H Q E h => by
    obtain ⟨v, u, d, _, _, _, h, _⟩ := h
    simp [dp] at h
  | m + 1 => by
    have IH := ok_same F B mS bS m
    refine F.ok scS (fun vs H Q E h => ?_) (fun cdv A outer s H vs Q E hr h => ?_)
    · obtain ⟨v, u, d, rfl, _⟩ := h
      rfl
    · obtain ⟨v, u, d, rfl, hv, hu, hd, kk⟩ := h
      refine ⟨_,
        pss_cons (ps_if (pt_cmpR op_isN (pv 1) pe_non (nomark _)) (pss_one (ps_ret (pe_cmp (pc_isN (pv 0)) rfl))) pss_nil)
        (pss_cons (ps_if (PW.pt (pw_or (pt_val (pe_callB call_isi (by rfl) B.isinstance (by decide +kernel) (pa_cons (pv 1) (pa_cons (pe_bltn (v := .ty "bool") (by rfl) B.bool (by decide +kernel) rfl) pa_nil))))
              (pw_or1 (pt_val (pe_callB call_isi (by rfl) B.isinstance (by decide +kernel) (pa_cons (pv 1) (pa_cons (pe_bltn (v := .ty "str") (by rfl) B.str (by decide +kernel) rfl) pa_nil)))))))
            (pss_cons (ps_if (PW.pt (pw_or
                (pt_cmpR op_ne (pe_callB call_isi (by rfl) B.isinstance (by decide +kernel) (pa_cons (pv 0) (pa_cons (pe_bltn (v := .ty "bool") (by rfl) B.bool (by decide +kernel) rfl) pa_nil)))
                  (pe_callB call_isi (by rfl) B.isinstance (by decide +kernel) (pa_cons (pv 1) (pa_cons (pe_bltn (v := .ty "bool") (by rfl) B.bool (by decide +kernel) rfl) pa_nil))) (nomark _))
                (pw_or1 (pt_cmpR op_ne (pe_callB call_isi (by rfl) B.isinstance (by decide +kernel) (pa_cons (pv 0) (pa_cons (pe_bltn (v := .ty "str") (by rfl) B.str (by decide +kernel) rfl) pa_nil)))
                  (pe_callB call_isi (by rfl) B.isinstance (by decide +kernel) (pa_cons (pv 1) (pa_cons (pe_bltn (v := .ty "str") (by rfl) B.str (by decide +kernel) rfl) pa_nil))) (nomark _)))))
                (pss_one (ps_ret pe_bl)) pss_nil)
              (pss_one (ps_ret (pe_cmpR op_eq (pv 0) (pv 1) (nomark _)))))
            pss_nil)
        (pss_cons (ps_if (pt_val (pe_callB call_isi (by rfl) B.isinstance (by decide +kernel) (pa_cons (pv 1) (pa_cons (pe_bltn (v := .ty "int") (by rfl) B.int (by decide +kernel) rfl) pa_nil))))
            (pss_one (ps_ret (pe_and (pe_callB call_isi (by rfl) B.isinstance (by decide +kernel) (pa_cons (pv 0) (pa_cons (pe_bltn (v := .ty "int") (by rfl) B.int (by decide +kernel) rfl) pa_nil)))
              (pe_and (pe_not (pe_callB call_isi (by rfl) B.isinstance (by decide +kernel) (pa_cons (pv 0) (pa_cons (pe_bltn (v := .ty "bool") (by rfl) B.bool (by decide +kernel) rfl) pa_nil))))
                (pe_one (pe_cmpR op_eq (pv 0) (pv 1) (nomark _)))))))
            pss_nil)
        (pss_cons (ps_if (PW.pt (pw_and (pt_val (pe_callB call_isi (by rfl) B.isinstance (by decide +kernel) (pa_cons (pv 1) (pa_cons (pe_bltn (v := .ty "list") (by rfl) B.list (by decide +kernel) rfl) pa_nil))))
              (pw_and1 (pt_not (pt_val (pe_callB call_isi (by rfl) B.isinstance (by decide +kernel) (pa_cons (pv 0) (pa_cons (pe_bltn (v := .ty "list") (by rfl) B.list (by decide +kernel) rfl) pa_nil))))))))
            (pss_one (ps_ret pe_bl)) pss_nil)
        (pss_cons (ps_if (PW.pt (pw_and (pt_val (pe_callB call_isi (by rfl) B.isinstance (by decide +kernel) (pa_cons (pv 1) (pa_cons (pe_bltn (v := .ty "tuple") (by rfl) B.tuple (by decide +kernel) rfl) pa_nil))))
              (pw_and1 (pt_not (pt_val (pe_callB call_isi (by rfl) B.isinstance (by decide +kernel) (pa_cons (pv 0) (pa_cons (pe_bltn (v := .ty "tuple") (by rfl) B.tuple (by decide +kernel) rfl) pa_nil))))))))
            (pss_one (ps_ret pe_bl)) pss_nil)
        (pss_cons (ps_if (pt_cmpR op_ne (pe_callB call_len_seq (by rfl) B.len PySem.boot_len (pa_cons (pv 0) pa_nil)) (pe_callB call_len_seq (by rfl) B.len PySem.boot_len (pa_cons (pv 1) pa_nil)) (nomark _)) (pss_one (ps_ret pe_bl)) pss_nil)
        (pss_cons (ps_for PassesOwn.never rfl (pi_range1 rfl B.range (pa_cons (pe_callB call_len_seq (by rfl) B.len PySem.boot_len (pa_cons (pv 1) pa_nil)) pa_nil)) (pg_name (i := 2) scS.nd rfl (.inl rfl))
            (pss_one (ps_if (pt_not (pt_val (pe_call IH hr (by rfl) mS F.kp bS .nil pass0 (pa_cons (pe_ix ix_seq (pv 0) (pv 2) (fun _ _ => rfl)) (pa_cons (pe_ix ix_seq (pv 1) (pv 2) (fun _ _ => rfl)) pa_nil))))) (pss_one (ps_ret pe_bl)) pss_nil)))
        (pss_one (ps_ret pe_bl)))))))), ?_⟩
      cases d with
      | none =>
        cases hu; cases hv
        exact ⟨_, rfl, rfl, _, rfl, iteT ⟨_, rfl, kk⟩⟩
      | bool b =>
        cases hu; cases hv
        refine ⟨_, rfl, rfl, _, rfl, iteF ?_⟩
        refine ⟨_, rfl, _, _, _, _, true, rfl, .ty _, TyX.base (TyOf.bl b), kit_ty (by decide +kernel), _, rfl, iteT (iteT ?_)⟩
        refine ⟨_, rfl, _, _, _, _, true, rfl, .ty _, TyX.base (TyOf.bl b), kit_ty (by decide +kernel), _, rfl, _, _, _, _, true, rfl, .ty _, TyX.base (TyOf.bl b), kit_ty (by decide +kernel), rfl, _, rfl, ?_⟩
        refine iteF ⟨_, rfl, _, _, _, _, false, rfl, .ty _, TyX.base (TyOf.bl b), kit_ty (by decide +kernel), _, rfl, _, _, _, _, false, rfl, .ty _, TyX.base (TyOf.bl b), kit_ty (by decide +kernel), rfl, _, rfl, ?_⟩
        refine iteF ⟨_, rfl, _, rfl, rfl, ?_⟩
        rw [decide_eq_true rfl]
        exact kk
      | str x =>
        cases hu; cases hv
        refine ⟨_, rfl, rfl, _, rfl, iteF ?_⟩
        refine ⟨_, rfl, _, _, _, _, false, rfl, .ty _, TyX.base (TyOf.str x), kit_ty (by decide +kernel), _, rfl, iteF ?_⟩
        refine ⟨_, rfl, _, _, _, _, true, rfl, .ty _, TyX.base (TyOf.str x), kit_ty (by decide +kernel), _, rfl, iteT ?_⟩
        refine ⟨_, rfl, _, _, _, _, false, rfl, .ty _, TyX.base (TyOf.str x), kit_ty (by decide +kernel), _, rfl, _, _, _, _, false, rfl, .ty _, TyX.base (TyOf.str x), kit_ty (by decide +kernel), rfl, _, rfl, ?_⟩
        refine iteF ⟨_, rfl, _, _, _, _, true, rfl, .ty _, TyX.base (TyOf.str x), kit_ty (by decide +kernel), _, rfl, _, _, _, _, true, rfl, .ty _, TyX.base (TyOf.str x), kit_ty (by decide +kernel), rfl, _, rfl, ?_⟩
        refine iteF ⟨_, rfl, _, rfl, rfl, ?_⟩
        rw [decide_eq_true rfl]
        exact kk
      | int i =>
        cases hu; cases hv
        refine ⟨_, rfl, rfl, _, rfl, iteF ?_⟩
        refine ⟨_, rfl, _, _, _, _, false, rfl, .ty _, TyX.base (TyOf.int i), kit_ty (by decide +kernel), _, rfl, iteF ?_⟩
        refine ⟨_, rfl, _, _, _, _, false, rfl, .ty _, TyX.base (TyOf.int i), kit_ty (by decide +kernel), _, rfl, iteF ?_⟩
        refine ⟨_, rfl, _, _, _, _, true, rfl, .ty _, TyX.base (TyOf.int i), kit_ty (by decide +kernel), _, rfl, iteT ?_⟩
        refine ⟨_, rfl, _, _, _, _, true, rfl, .ty _, TyX.base (TyOf.int i), kit_ty (by decide +kernel), _, rfl, iteT ?_⟩
        refine ⟨_, rfl, _, _, _, _, false, rfl, .ty _, TyX.base (TyOf.int i), kit_ty (by decide +kernel), _, rfl, _, rfl, iteT ?_⟩
        refine ⟨_, rfl, _, rfl, rfl, ?_⟩
        rw [decide_eq_true rfl]
        exact kk
      | list ds =>
        obtain ⟨a2, xs2, rfl, hs2, ha2⟩ : ∃ a xs, u = .ref a ∧ SqL K H a xs ∧ DpAll K H xs ds := by
          cases hu with
          | lst h1 h2 => exact ⟨_, _, rfl, h1, h2⟩
        obtain ⟨a1, xs1, rfl, hs1, ha1⟩ : ∃ a xs, v = .ref a ∧ SqL K H a xs ∧ DpAll K H xs ds := by
          cases hv with
          | lst h1 h2 => exact ⟨_, _, rfl, h1, h2⟩
        have tyU : TyX K H (.ref a2) (.type "list") := ty_of (.lst hs2 ha2)
        have tyV : TyX K H (.ref a1) (.type "list") := ty_of (.lst hs1 ha1)
        have e1 := dpAll_len ha1
        have e2 := dpAll_len ha2
        refine ⟨_, rfl, rfl, _, rfl, iteF ?_⟩
        refine ⟨_, rfl, _, _, _, _, false, rfl, .ty _, tyU, kit_ty (by decide +kernel), _, rfl, iteF ?_⟩
        refine ⟨_, rfl, _, _, _, _, false, rfl, .ty _, tyU, kit_ty (by decide +kernel), _, rfl, iteF ?_⟩
        refine ⟨_, rfl, _, _, _, _, false, rfl, .ty _, tyU, kit_ty (by decide +kernel), _, rfl, iteF ?_⟩
        refine ⟨_, rfl, _, _, _, _, true, rfl, .ty _, tyU, kit_ty (by decide +kernel), _, rfl, iteT ?_⟩
        refine ⟨_, rfl, _, _, _, _, true, rfl, .ty _, tyV, kit_ty (by decide +kernel), _, rfl, iteF ?_⟩
        refine ⟨_, rfl, _, _, _, _, false, rfl, .ty _, tyU, kit_ty (by decide +kernel), _, rfl, iteF (iteF ?_)⟩
        refine ⟨_, rfl, a1, xs1, rfl, .inl hs1, _, rfl, a2, xs2, rfl, .inl hs2, rfl, _, rfl, iteNS (by rw [e1, e2]) ?_⟩
        simp only [dp] at hd
        have hz2 : (xs2.length : Int) < 2 ^ 62 := by have := hd.1; omega
        refine ⟨_, rfl, a2, xs2, rfl, .inl hs2, _, rfl, (by omega), hz2, ?_⟩
        refine for_range (lo := 0) (n := (xs2.length : Int).toNat) (fun i σ H2 => ∃ y, σ = [some (.ref a1), some (.ref a2), y] ∧ H2 = H) ⟨none, rfl, rfl⟩ ?_ ?_
        · rintro i σ H2 hi ⟨y, rfl, rfl⟩
          have hi2 : i < ds.length := by omega
          obtain ⟨x1, g1, d1⟩ := dpAll_get ha1 (List.getElem?_eq_getElem hi2)
          obtain ⟨x2, g2, d2⟩ := dpAll_get ha2 (List.getElem?_eq_getElem hi2)
          have ei : (0 : Int) + (i : Int) = ((i : Nat) : Int) := by omega
          rw [ei]
          refine ⟨_, rfl, _, rfl, .inl ⟨_, _, _, _, rfl, rfl, hs1, atI_nat g1, _, rfl, _, rfl, .inl ⟨_, _, _, _, rfl, rfl, hs2, atI_nat g2, ?_⟩⟩⟩
          refine ⟨x1, x2, _, rfl, d1, d2, hd.2 _ (List.getElem_mem hi2), _, rfl, iteF ?_⟩
          exact ⟨_, rfl, rfl⟩
        · rintro σ H2 ⟨y, rfl, rfl⟩
          exact kk
      | tuple ds =>
        obtain ⟨a2, xs2, rfl, hs2, ha2⟩ : ∃ a xs, u = .ref a ∧ SqT K H a xs ∧ DpAll K H xs ds := by
          cases hu with
          | tup h1 h2 => exact ⟨_, _, rfl, h1, h2⟩
        obtain ⟨a1, xs1, rfl, hs1, ha1⟩ : ∃ a xs, v = .ref a ∧ SqT K H a xs ∧ DpAll K H xs ds := by
          cases hv with
          | tup h1 h2 => exact ⟨_, _, rfl, h1, h2⟩
        have tyU : TyX K H (.ref a2) (.type "tuple") := ty_of (.tup hs2 ha2)
        have tyV : TyX K H (.ref a1) (.type "tuple") := ty_of (.tup hs1 ha1)
        have e1 := dpAll_len ha1
        have e2 := dpAll_len ha2
        refine ⟨_, rfl, rfl, _, rfl, iteF ?_⟩
        refine ⟨_, rfl, _, _, _, _, false, rfl, .ty _, tyU, kit_ty (by decide +kernel), _, rfl, iteF ?_⟩
        refine ⟨_, rfl, _, _, _, _, false, rfl, .ty _, tyU, kit_ty (by decide +kernel), _, rfl, iteF ?_⟩
        refine ⟨_, rfl, _, _, _, _, false, rfl, .ty _, tyU, kit_ty (by decide +kernel), _, rfl, iteF ?_⟩
        refine ⟨_, rfl, _, _, _, _, false, rfl, .ty _, tyU, kit_ty (by decide +kernel), _, rfl, iteF (iteF ?_)⟩
        refine ⟨_, rfl, _, _, _, _, true, rfl, .ty _, tyU, kit_ty (by decide +kernel), _, rfl, iteT ?_⟩
        refine ⟨_, rfl, _, _, _, _, true, rfl, .ty _, tyV, kit_ty (by decide +kernel), _, rfl, iteF ?_⟩
        refine ⟨_, rfl, a1, xs1, rfl, .inr hs1, _, rfl, a2, xs2, rfl, .inr hs2, rfl, _, rfl, iteNS (by rw [e1, e2]) ?_⟩
        simp only [dp] at hd
        have hz2 : (xs2.length : Int) < 2 ^ 62 := by have := hd.1; omega
        refine ⟨_, rfl, a2, xs2, rfl, .inr hs2, _, rfl, (by omega), hz2, ?_⟩
        refine for_range (lo := 0) (n := (xs2.length : Int).toNat) (fun i σ H2 => ∃ y, σ = [some (.ref a1), some (.ref a2), y] ∧ H2 = H) ⟨none, rfl, rfl⟩ ?_ ?_
        · rintro i σ H2 hi ⟨y, rfl, rfl⟩
          have hi2 : i < ds.length := by omega
          obtain ⟨x1, g1, d1⟩ := dpAll_get ha1 (List.getElem?_eq_getElem hi2)
          obtain ⟨x2, g2, d2⟩ := dpAll_get ha2 (List.getElem?_eq_getElem hi2)
          have ei : (0 : Int) + (i : Int) = ((i : Nat) : Int) := by omega
          rw [ei]
          refine ⟨_, rfl, _, rfl, .inr (.inl ⟨_, _, _, _, rfl, rfl, hs1, atI_nat g1, _, rfl, _, rfl, .inr (.inl ⟨_, _, _, _, rfl, rfl, hs2, atI_nat g2, ?_⟩)⟩)⟩
          refine ⟨x1, x2, _, rfl, d1, d2, hd.2 _ (List.getElem_mem hi2), _, rfl, iteF ?_⟩
          exact ⟨_, rfl, rfl⟩
        · rintro σ H2 ⟨y, rfl, rfl⟩
          exact kk
      | dict ds => simp [dp] at hd
end
/-! ### data in the heap, and displays of data -/
theorem Same.seqT {K : PySem.W.Frag} {H H' : Hp} {a : Addr} {xs : List V} (e : Same H H') (h : SqT K H a xs) : SqT K H' a xs := by
  rcases h with h1 | h3
  · rcases h1 with h1 | h2
    · exact .inl (.inl (e _ _ h1))
    · obtain ⟨o, h2⟩ := h2
      exact .inl (.inr ⟨o, e _ _ h2⟩)
  · exact .inr h3
mutual
theorem dp_same {K : PySem.W.Frag} {H H' : Hp} (s : Same H H') : ∀ (d : PyData) (v : V), Dp K H v d → Dp K H' v d
  | .none, _, h => by cases h; exact .non
  | .bool b, _, h => by cases h; exact .bl b
  | .int i, _, h => by cases h; exact .int i
  | .str x, _, h => by cases h; exact .str x
  | .list ds, _, h => by
    cases h with
    | lst h1 h2 => exact .lst (s.seq h1) (dpAll_same s ds _ h2)
  | .tuple ds, _, h => by
    cases h with
    | tup h1 h2 => exact .tup (Same.seqT s h1) (dpAll_same s ds _ h2)
  | .dict kvs, _, h => by cases h
theorem dpAll_same {K : PySem.W.Frag} {H H' : Hp} (s : Same H H') : ∀ (ds : List PyData) (vs : List V), DpAll K H vs ds → DpAll K H' vs ds
  | [], _, h => by cases h; exact .nil
  | d :: ds, _, h => by
    cases h with
    | cons h1 h2 => exact .cons (dp_same s d _ h1) (dpAll_same s ds _ h2)
end
theorem same_new {H : Hp} {p : Addr} {o : HO} (n : H p = none) : Same H (upd H p o) := fun b x e => by
  rw [upd_ne (ne_of_none e n)]; exact e
/-- the heap without some objects -/
def mask (l : List Addr) (H : Hp) : Hp := fun a => if a ∈ l then none else H a
theorem mask_in {l : List Addr} {H : Hp} {a : Addr} (h : a ∈ l) : mask l H a = none := if_pos h
theorem mask_out {l : List Addr} {H : Hp} {a : Addr} (h : a ∉ l) : mask l H a = H a := if_neg h
theorem mask_sub (l : List Addr) (H : Hp) : Same (mask l H) H := fun a o e => by
  by_cases h : a ∈ l
  · rw [mask_in h] at e; cases e
  · rw [mask_out h] at e; exact e
theorem mask_same {l : List Addr} {H H' : Hp} (s : Same H H') : Same (mask l H) (mask l H') := fun a o e => by
  by_cases h : a ∈ l
  · rw [mask_in h] at e; cases e
  · rw [mask_out h] at e ⊢; exact s a o e
theorem mask_nil (H : Hp) : mask [] H = H := rfl
/-- what stands in H is there -/
abbrev Alive (l : List Addr) (H : Hp) : Prop := ∀ a ∈ l, ∃ o, H a = some o
theorem Alive.same {l : List Addr} {H H' : Hp} (h : Alive l H) (s : Same H H') : Alive l H' := fun a m => let ⟨o, e⟩ := h a m; ⟨o, s a o e⟩
theorem Alive.not {l : List Addr} {H : Hp} {p : Addr} (h : Alive l H) (n : H p = none) : p ∉ l := fun m => by
  obtain ⟨o, e⟩ := h p m
  rw [n] at e; cases e
theorem alive_nil {H : Hp} : Alive [] H := fun _ m => nomatch m
theorem mask_upd {l : List Addr} {H : Hp} {p : Addr} {o : HO} (h : p ∉ l) : mask l (upd H p o) p = some o := by
  rw [mask_out h, upd_same]
theorem Keeps.mask {p q : Addr} {H H' : Hp} (k : Keeps p q H H') : Same (mask [p, q] H) (mask [p, q] H') := fun a o e => by
  by_cases h : a ∈ [p, q]
  · rw [mask_in h] at e; cases e
  · rw [mask_out h] at e ⊢
    refine k a o (fun z => h ?_) (fun z => h ?_) e
    · rw [z]; exact List.mem_cons_self
    · rw [z]; exact List.mem_cons_of_mem _ List.mem_cons_self
theorem PoolAt.alive {H : Hp} {p q : Addr} {n : Nat} (h : PoolAt H p q n) : Alive [p, q] H := fun a m => by
  rcases List.mem_cons.mp m with rfl | m
  · exact h.p_some
  · rw [List.mem_singleton.mp m]; exact h.q_some
/-- which data an expression gives; it stays so when objects are added -/
abbrev DS := St → Hp → PyData → Prop
abbrev DSs := St → Hp → List PyData → Prop
def tDat (K : PySem.W.Frag) (D : DS) : TE := fun σ H Q => ∃ (l : List Addr) (d : PyData), Alive l H ∧ D σ (mask l H) d ∧ ∀ v H', Same H H' → Dp K (mask l H') v d → Q v H'
def tDats (K : PySem.W.Frag) (D : DSs) : TA := fun σ H Q => ∃ (l : List Addr) (ds : List PyData), Alive l H ∧ D σ (mask l H) ds ∧ ∀ vs H', Same H H' → DpAll K (mask l H') vs ds → Q vs H'
structure DE (X : Cx) (e : Expr) (D : DS) : Prop where
  pe : PE X e (tDat X.K D)
  mono : ∀ σ H H' d, Same H H' → D σ H d → D σ H' d
structure DA (X : Cx) (es : List Expr) (D : DSs) : Prop where
  pa : PA X es (tDats X.K D)
  mono : ∀ σ H H' ds, Same H H' → D σ H ds → D σ H' ds
def dNil : DSs := fun _ _ ds => ds = []
def dCons (D : DS) (Ds : DSs) : DSs := fun σ H ds => ∃ d r, ds = d :: r ∧ D σ H d ∧ Ds σ H r
def dTup (Ds : DSs) : DS := fun σ H d => ∃ ds, d = .tuple ds ∧ ds.length ≤ 1000 ∧ Ds σ H ds
def dLst (Ds : DSs) : DS := fun σ H d => ∃ ds, d = .list ds ∧ ds.length ≤ 1000 ∧ Ds σ H ds
def dVar (K : PySem.W.Frag) (i : Nat) : DS := fun σ H d => ∃ v, σ[i]? = some (some v) ∧ Dp K H v d
def dIs (d0 : PyData) : DS := fun _ _ d => d = d0
section
variable {X : Cx} {e : Expr} {es : List Expr} {t : TE} {D : DS} {Ds : DSs} {pos : Pos}
theorem de_of (h : PE X e t) (w : ∀ σ H Q, tDat X.K D σ H Q → t σ H Q) (m : ∀ σ H H' d, Same H H' → D σ H d → D σ H' d) : DE X e D :=
  ⟨⟨fun pins s σ H Q I q => h.run pins s σ H Q I (w σ H Q q)⟩, m⟩
theorem de_str {x : Str} {j} : DE X (.Constant (.str x) j pos) (dIs (.str x)) :=
  de_of pe_str (fun _ H _ ⟨_, _, _, e, q⟩ => by cases e; exact q _ H (Same.refl H) (.str x)) fun _ _ _ _ _ h => h
theorem de_int {i : Int} {j} : DE X (.Constant (.int i) j pos) (dIs (.int i)) :=
  de_of pe_int (fun _ H _ ⟨_, _, _, e, q⟩ => by cases e; exact q _ H (Same.refl H) (.int i)) fun _ _ _ _ _ h => h
theorem de_bl {b : Bool} {j} : DE X (.Constant (.bool b) j pos) (dIs (.bool b)) :=
  de_of pe_bl (fun _ H _ ⟨_, _, _, e, q⟩ => by cases e; exact q _ H (Same.refl H) (.bl b)) fun _ _ _ _ _ h => h
theorem de_non {j} : DE X (.Constant .none j pos) (dIs .none) :=
  de_of pe_non (fun _ H _ ⟨_, _, _, e, q⟩ => by cases e; exact q _ H (Same.refl H) .non) fun _ _ _ _ _ h => h
theorem dv (i : Nat) {x : Str} (h : PE X (.Name x pos) (tVar i)) : DE X (.Name x pos) (dVar X.K i) :=
  de_of h (fun _ H _ ⟨_, _, _, ⟨v, e, hd⟩, q⟩ => ⟨v, e, q v H (Same.refl H) hd⟩) fun _ _ _ d s ⟨v, e, hd⟩ => ⟨v, e, dp_same s d v hd⟩
theorem da_nil : DA X [] dNil :=
  ⟨⟨fun pos pins s σ H Q I h => by
    obtain ⟨l, ds, _, e, q⟩ := h
    cases e
    exact pa_nil.run pos pins s σ H Q I (q [] H (Same.refl H) .nil)⟩, fun _ _ _ _ _ h => h⟩
theorem da_cons (h : DE X e D) (r : DA X es Ds) (hs : starEach (e :: es) X.env = (false, eval e X.env) :: starEach es X.env := by rfl) : DA X (e :: es) (dCons D Ds) :=
  ⟨⟨fun pos pins s σ H Q I hq => by
    obtain ⟨l, _, al, ⟨d, ds, rfl, h1, h2⟩, q⟩ := hq
    refine (pa_cons h.pe r.pa hs).run pos pins s σ H Q I ⟨l, d, al, h1, fun v H1 s1 hv => ⟨l, ds, al.same s1, r.mono _ _ _ _ (mask_same s1) h2, fun vs H2 s2 hvs => ?_⟩⟩
    exact q _ H2 (s1.trans s2) (.cons (dp_same (mask_same s2) d v hv) hvs)⟩,
   fun σ H H' ds s ⟨d, r', e, h1, h2⟩ => ⟨d, r', e, h.mono _ _ _ _ s h1, r.mono _ _ _ _ s h2⟩⟩
theorem len1000 {n : Nat} (h : n ≤ 1000) : n ≤ sizeLine := Nat.le_of_lt (small1000 h)
theorem de_tup {k} (h : DA X es Ds) : DE X (.Tuple es k pos) (dTup Ds) :=
  ⟨⟨fun pins s σ H Q I hq => by
    obtain ⟨l, _, al, ⟨ds, rfl, hl, h1⟩, q⟩ := hq
    refine (pe_tup h.pa).run pins s σ H Q I ⟨l, ds, al, h1, fun vs H1 s1 hv => ⟨by rw [dpAll_len hv]; exact len1000 hl, fun p np => ?_⟩⟩
    exact q _ _ (s1.trans (same_new np)) (.tup (SqT.of (mask_upd ((al.same s1).not np))) (dpAll_same (mask_same (same_new np)) _ _ hv))⟩,
   fun σ H H' d s ⟨ds, e, hl, h1⟩ => ⟨ds, e, hl, h.mono _ _ _ _ s h1⟩⟩
theorem de_lst (h : DA X es Ds) : DE X (.List es pos) (dLst Ds) :=
  ⟨⟨fun pins s σ H Q I hq => by
    obtain ⟨l, _, al, ⟨ds, rfl, hl, h1⟩, q⟩ := hq
    refine (pe_lst h.pa).run pins s σ H Q I ⟨l, ds, al, h1, fun vs H1 s1 hv => ⟨by rw [dpAll_len hv]; exact len1000 hl, fun p np => ?_⟩⟩
    exact q _ _ (s1.trans (same_new np)) (.lst (SqL.of (mask_upd ((al.same s1).not np))) (dpAll_same (mask_same (same_new np)) _ _ hv))⟩,
   fun σ H H' d s ⟨ds, e, hl, h1⟩ => ⟨ds, e, hl, h.mono _ _ _ _ s h1⟩⟩
end
theorem mask_new {l : List Addr} {H : Hp} {D : Addr} (n : H D = none) : Same (mask l H) (mask (D :: l) H) := fun a o e => by
  by_cases h : a ∈ D :: l
  · rcases List.mem_cons.mp h with rfl | h
    · have := mask_sub l H _ _ e
      rw [n] at this; cases this
    · rw [mask_in h] at e; cases e
  · rw [mask_out h]
    exact mask_sub l H _ _ e
theorem mask_less {l : List Addr} {H : Hp} {D : Addr} : Same (mask (D :: l) H) (mask l H) := fun a o e => by
  by_cases h : a ∈ D :: l
  · rw [mask_in h] at e; cases e
  · rw [mask_out h] at e
    rw [mask_out fun z => h (List.mem_cons_of_mem _ z)]
    exact e
theorem mask_at {l : List Addr} {H : Hp} {D : Addr} {o : HO} (m : D ∈ l) : Same (mask l H) (mask l (upd H D o)) := fun a u e => by
  by_cases h : a ∈ l
  · rw [mask_in h] at e; cases e
  · rw [mask_out h] at e ⊢
    rw [upd_ne fun z => h (by rw [z]; exact m)]
    exact e
theorem dpAll_app {K : PySem.W.Frag} {H : Hp} : ∀ {vs ws : List V} {ds es : List PyData}, DpAll K H vs ds → DpAll K H ws es → DpAll K H (vs ++ ws) (ds ++ es)
  | _, _, _, _, .nil, h => h
  | _, _, _, _, .cons h t, r => .cons h (dpAll_app t r)
theorem dpAll_drop {K : PySem.W.Frag} {H : Hp} : ∀ (n : Nat) {vs : List V} {ds : List PyData}, DpAll K H vs ds → DpAll K H (vs.drop n) (ds.drop n)
  | 0, _, _, h => h
  | n + 1, _, _, .nil => .nil
  | n + 1, _, _, .cons _ t => dpAll_drop n t
theorem dpAll_take {K : PySem.W.Frag} {H : Hp} : ∀ (n : Nat) {vs : List V} {ds : List PyData}, DpAll K H vs ds → DpAll K H (vs.take n) (ds.take n)
  | 0, _, _, _ => .nil
  | n + 1, _, _, .nil => .nil
  | n + 1, _, _, .cons h t => .cons h (dpAll_take n t)
theorem dpAll_at {K : PySem.W.Frag} {H : Hp} : ∀ {vs : List V} {ds : List PyData} {i : Nat} {v : V}, DpAll K H vs ds → vs[i]? = some v → ∃ d, ds[i]? = some d ∧ Dp K H v d
  | _, _, _, _, .nil, e => by simp at e
  | _, _, 0, _, .cons h _, e => by
    obtain rfl := Option.some.inj e
    exact ⟨_, rfl, h⟩
  | _, _, i + 1, _, .cons _ t, e => dpAll_at (i := i) t e
theorem dp_tup {K : PySem.W.Frag} {H : Hp} {v : V} {ds : List PyData} (h : Dp K H v (.tuple ds)) : ∃ a xs, v = .ref a ∧ SqT K H a xs ∧ DpAll K H xs ds := by
  cases h with
  | tup h1 h2 => exact ⟨_, _, rfl, h1, h2⟩
theorem dp_lst {K : PySem.W.Frag} {H : Hp} {v : V} {ds : List PyData} (h : Dp K H v (.list ds)) : ∃ a xs, v = .ref a ∧ SqL K H a xs ∧ DpAll K H xs ds := by
  cases h with
  | lst h1 h2 => exact ⟨_, _, rfl, h1, h2⟩
theorem dpAll_cons {K : PySem.W.Frag} {H : Hp} {vs : List V} {d : PyData} {ds : List PyData} (h : DpAll K H vs (d :: ds)) : ∃ v r, vs = v :: r ∧ Dp K H v d ∧ DpAll K H r ds := by
  cases h with
  | cons h1 h2 => exact ⟨_, _, rfl, h1, h2⟩
theorem dpAll_nil {K : PySem.W.Frag} {H : Hp} {vs : List V} (h : DpAll K H vs []) : vs = [] := by
  cases h; rfl
theorem dp_str {K : PySem.W.Frag} {H : Hp} {v : V} {x : Str} (h : Dp K H v (.str x)) : v = .str x := by
  cases h; rfl
theorem cut_tail {x : V} {r : List V} : cutV (x :: r) (some 1) none = r := by
  unfold cutV
  rw [show HT.sIx (x :: r).length 0 (some 1) = min 1 (x :: r).length from HT.sIx_nat _ 0 1, HT.sIx_none, List.length_cons, Nat.min_eq_left (by omega)]
  show List.take (r.length + 1 - 1) r = r
  rw [Nat.add_sub_cancel, List.take_length]
theorem cut_drop (xs : List V) (k : Nat) : cutV xs (some (k : Int)) none = xs.drop k := by
  unfold cutV
  rw [HT.sIx_nat, HT.sIx_none]
  by_cases h : k ≤ xs.length
  · rw [Nat.min_eq_left h]
    exact List.take_of_length_le (by rw [List.length_drop]; omega)
  · rw [Nat.min_eq_right (by omega), List.drop_of_length_le (Nat.le_refl _), List.drop_of_length_le (by omega)]; simp
theorem Keeps.maskL {p q : Addr} {l : List Addr} {H H' : Hp} (hp : p ∈ l) (hq : q ∈ l) (k : Keeps p q H H') : Same (Qp.mask l H) (Qp.mask l H') := fun a o e => by
  by_cases h : a ∈ l
  · rw [mask_in h] at e; cases e
  · rw [mask_out h] at e ⊢
    exact k a o (fun z => h (by rw [z]; exact hp)) (fun z => h (by rw [z]; exact hq)) e
theorem Keeps.alive {p q : Addr} {n : Nat} {l : List Addr} {H H' : Hp} (al : Alive l H) (k : Keeps p q H H') (P : PoolAt H' p q n) : Alive l H' := fun a m => by
  obtain ⟨o, e⟩ := al a m
  by_cases h1 : a = p
  · rw [h1]; exact P.p_some
  · by_cases h2 : a = q
    · rw [h2]; exact P.q_some
    · exact ⟨o, k a o h1 h2 e⟩
/-! ### a local def called with a star; own [ ], in of instances -/
section
variable {X : Cx} {CX : CXT} {k i : Nat} {C f : Addr} {sp : Sp} {E : XK} {x : Str} {a b e : Expr} {es : List Expr} {p pos : Pos} {t : TA} {ta tb : TE}
/-- x(e, *y), x a local that holds the def at f -/
def tCallLS (X : Cx) (CX : CXT) (k i : Nat) (t : TA) (E : XK) : TE := fun σ H Q => ∃ f sp, σ[i]? = some (some (.ref f)) ∧ FnR X.prog X.w X.K X.mg X.base CX k f sp ∧ PySem.W.keepIn X.K (.ref f) = true ∧ t σ H fun vs H1 => sp vs H1 Q E
theorem pe_callLS (hr : Room k X.A) (hN : X.N[i]? = some x) (hv : Vis X.env.scope x) (hx : Passes CX X E) (ha : PA X (e :: es) t)
    (hdb : (x == ("__debug__" : Str)) = false := by decide) (hcd : (x == ("__classdict__" : Str)) = false := by decide)
    (he : starEach (e :: es) X.env = (false, eval e X.env) :: starEach es X.env := by rfl) (hst : (backTo pos (starEach es X.env)).any (·.1) = true := by rfl) : PE X (.Call (.Name x p) (e :: es) [] pos) (tCallLS X CX k i t E) := by
  refine ⟨fun pins s σ H Q I h => ?_⟩
  obtain ⟨f, sp, hs, F, hk, ht⟩ := h
  refine wpAny_Call_Name_kw (thn ((pe_var (pos := p) hN hv hdb hcd).run pins s σ H (fun v H1 => v = .ref f ∧ H1 = H) I ⟨.ref f, hs, rfl, rfl⟩) fun u s1 ⟨v, H1, I1, r1, q1⟩ => ?_)
  obtain ⟨rfl, rfl⟩ := q1
  cases r1
  refine PySem.W.callWith_S2 (h₀ := X.base) I.ok.mod.kin hk (thn (ha.run pos pins s1 σ _ _ I1 ht) fun us s2 ⟨vs, H2, I2, r, q⟩ => ⟨I2.kIn, ?_⟩) he hst
  exact wpAny_call (run_fnR F hr hx I2 r q)
/-- o[i] by the own __getitem__ -/
def rItemOwn (C : Addr) (sp : Sp) (E : XK) : R2 := fun x y H Q => ∃ a dx fs, x = .ref a ∧ H a = some (.ins C dx fs) ∧ sp [.ref a, y] H Q E
theorem pe_itemOwn (hs : PySem.W.findIn X.K (.ref C) "__getitem__" = some (some (.ref f))) (hfi : PySem.W.fnIn X.K f = true) (hf : PySem.W.isFn X.K (.ref f) = true) (F : FnR X.prog X.w X.K X.mg X.base CX k f sp) (hr : Room (k + 1) X.A) (hx : Passes CX X E)
    (ha : PE X a ta) (hb : PE X b tb) (hsl : ∀ (x : Addr) (i : Value), subscripted b true (.ref x) i = runValue (.builtin "lifetime.subscript" ⟨[.ref x, i], []⟩) := by intros; with_unfolding_all rfl) : PE X (.Subscript a b pos) (tOp (rItemOwn C sp E) ta tb) := by
  refine ⟨fun pins s σ H Q I h => ?_⟩
  refine PyProof.Rows.Subscript_ (binT ha hb I h fun v u s2 x y H2 I2 rx ry q => ?_)
  obtain ⟨a', dx, fs, rfl, ea, q⟩ := q
  cases (show v = Value.ref a' from rx)
  obtain ⟨mA, O, _⟩ := ins_get I2.hok ea
  obtain ⟨od, J, _⟩ := O.look
  obtain ⟨m, hF⟩ := I2.fr
  have hr2 : Room k X.A.in1 := hr.in1
  refine PySem.W.sub_K hF I2.ok.mod.kin J hs hfi hf ?_ (hsl _ _)
  refine wpAny_call (codeAny_mono (SlX.run_at (us := [.ref a', u]) (ws := [.ref a', y]) F hr2 I2.env0.in1 hx I2 (.cons rfl (.cons ry .nil)) q) fun r s' z => ?_)
  exact z
/-- x in o by the own __contains__, which gives True or False -/
def rInOwn (C : Addr) (sp : Sp) (E : XK) : R2 := fun x y H Q => ∃ a dx fs, y = .ref a ∧ H a = some (.ins C dx fs) ∧ sp [.ref a, x] H (fun z H' => ∃ c, z = .bl c ∧ Q (.bl c) H') E
def rNotInOwn (C : Addr) (sp : Sp) (E : XK) : R2 := fun x y H Q => ∃ a dx fs, y = .ref a ∧ H a = some (.ins C dx fs) ∧ sp [.ref a, x] H (fun z H' => ∃ c, z = .bl c ∧ Q (.bl (!c)) H') E
theorem op_inOwn (hs : PySem.W.findIn X.K (.ref C) "__contains__" = some (some (.ref f))) (hf : PySem.W.isFn X.K (.ref f) = true) (F : FnR X.prog X.w X.K X.mg X.base CX k f sp) (hr : Room k X.A) (hx : Passes CX X E) : OpR X (compareOp .In) (rInOwn C sp E) := by
  intro pins s σ H x y v u Q I rx ry h
  obtain ⟨a, dx, fs, rfl, ha, q⟩ := h
  cases (show u = Value.ref a from ry)
  obtain ⟨mA, O, _⟩ := ins_get I.hok ha
  obtain ⟨od, J, _⟩ := O.look
  obtain ⟨m, hF⟩ := I.fr
  refine PySem.W.in_K hF I.ok.mod.kin J hs hf ?_
  refine wpAny_mono (wpAny_call (run_fnR (us := [.ref a, v]) (vs := [.ref a, x]) F hr hx I (.cons rfl (.cons rx .nil)) q)) (fun w s' z => ?_) fun _ _ x => x
  obtain ⟨z', H', I', rz, c, rfl, qz⟩ := z
  cases (show w = Value.bool c from rz)
  exact PySem.wpAny_truthy_bool ⟨.bl c, H', I', rfl, qz⟩
theorem op_notInOwn (hs : PySem.W.findIn X.K (.ref C) "__contains__" = some (some (.ref f))) (hf : PySem.W.isFn X.K (.ref f) = true) (F : FnR X.prog X.w X.K X.mg X.base CX k f sp) (hr : Room k X.A) (hx : Passes CX X E) : OpR X (compareOp .NotIn) (rNotInOwn C sp E) := by
  intro pins s σ H x y v u Q I rx ry h
  obtain ⟨a, dx, fs, rfl, ha, q⟩ := h
  cases (show u = Value.ref a from ry)
  obtain ⟨mA, O, _⟩ := ins_get I.hok ha
  obtain ⟨od, J, _⟩ := O.look
  obtain ⟨m, hF⟩ := I.fr
  refine PySem.W.notIn_K hF I.ok.mod.kin J hs hf ?_
  refine wpAny_mono (wpAny_call (run_fnR (us := [.ref a, v]) (vs := [.ref a, x]) F hr hx I (.cons rfl (.cons rx .nil)) q)) (fun w s' z => ?_) fun _ _ x => x
  obtain ⟨z', H', I', rz, c, rfl, qz⟩ := z
  cases (show w = Value.bool c from rz)
  exact PySem.wpAny_truthy_bool ⟨.bl (!c), H', I', rfl, qz⟩
end
/-! ### what may change; dicts by names -/
/-- all objects but those of l stay -/
def Chg (l : List Addr) (H H' : Hp) : Prop := ∀ x o, x ∉ l → H x = some o → H' x = some o
theorem Chg.refl (l : List Addr) (H : Hp) : Chg l H H := fun _ _ _ e => e
theorem Chg.trans {l : List Addr} {H H1 H2 : Hp} (a : Chg l H H1) (b : Chg l H1 H2) : Chg l H H2 := fun x o n e => b x o n (a x o n e)
theorem Chg.of_same {l : List Addr} {H H1 : Hp} (a : Same H H1) : Chg l H H1 := fun x o _ e => a x o e
theorem Chg.more {l l' : List Addr} {H H1 : Hp} (a : Chg l H H1) (h : ∀ x, x ∈ l → x ∈ l') : Chg l' H H1 := fun x o n e => a x o (fun m => n (h x m)) e
theorem Chg.upd {l : List Addr} {H : Hp} {a : Addr} {o : HO} (m : a ∈ l) : Chg l H (upd H a o) := fun x u n e => by
  rw [upd_ne fun z => n (by rw [z]; exact m)]; exact e
theorem Chg.new {l : List Addr} {H : Hp} {a : Addr} {o : HO} (n : H a = none) : Chg l H (L2.upd H a o) := .of_same (same_new n)
theorem Chg.mask {l : List Addr} {H H' : Hp} (k : Chg l H H') : Same (mask l H) (mask l H') := fun a o e => by
  by_cases h : a ∈ l
  · rw [mask_in h] at e; cases e
  · rw [mask_out h] at e ⊢
    exact k a o h e
theorem Chg.of_mask {l : List Addr} {H H' : Hp} (s : Same (Qp.mask l H) (Qp.mask l H')) : Chg l H H' := fun a o n e => by
  have := s a o (by rw [mask_out n]; exact e)
  rw [mask_out n] at this
  exact this
theorem Keeps.chg {p q : Addr} {H H' : Hp} (k : Keeps p q H H') : Chg [p, q] H H' := fun x o n e => k x o (fun z => n (by rw [z]; exact List.mem_cons_self)) (fun z => n (by rw [z]; exact List.mem_cons_of_mem _ List.mem_cons_self)) e
theorem Keeps.chgL {p q : Addr} {l : List Addr} {H H' : Hp} (hp : p ∈ l) (hq : q ∈ l) (k : Keeps p q H H') : Chg l H H' := k.chg.more fun x m => by
  rcases List.mem_cons.mp m with rfl | m
  · exact hp
  · rw [List.mem_singleton.mp m]; exact hq
/-- what was free and stays so -/
theorem Chg.free {l : List Addr} {H H1 : Hp} {a : Addr} (k : Chg l H H1) (n : H1 a = none) (h : a ∉ l) : H a = none := by
  cases e : H a with
  | none => rfl
  | some o => rw [k a o h e] at n; cases n
/-- entries by names -/
def kvs {α : Type} (l : List (Str × α)) : List (Key × α) := l.map fun p => (Sum.inr p.1, p.2)
def look {α : Type} (l : List (Str × α)) (n : Str) : Option α := (l.find? fun p => decide (p.1 = n)).map (·.2)
def put {α : Type} (l : List (Str × α)) (n : Str) (v : α) : List (Str × α) := if (l.any fun p => decide (p.1 = n)) = true then l.map (fun p => if p.1 = n then (p.1, v) else p) else l ++ [(n, v)]
theorem look_nil {α : Type} {n : Str} : look ([] : List (Str × α)) n = none := rfl
theorem look_pos {α : Type} {p : Str × α} {r : List (Str × α)} {n : Str} (e : p.1 = n) : look (p :: r) n = some p.2 := by simp [look, List.find?_cons, e]
theorem look_neg {α : Type} {p : Str × α} {r : List (Str × α)} {n : Str} (e : ¬ p.1 = n) : look (p :: r) n = look r n := by simp [look, List.find?_cons, e]
theorem valV_kvs (n : Str) : ∀ l : List (Str × V), valV (kvs l) (Sum.inr n) = look l n
  | [] => rfl
  | p :: r => by
    have e : kvs (p :: r) = (Sum.inr p.1, p.2) :: kvs r := rfl
    rw [e]
    by_cases h : p.1 = n
    · rw [look_pos h, valV_pos (by rw [h])]
    · rw [look_neg h, valV_neg (fun z => h (Sum.inr.inj z)), valV_kvs n r]
theorem kvs_any (n : Str) : ∀ l : List (Str × V), ((kvs l).any fun kv => decide (kv.1 = Sum.inr n)) = l.any fun p => decide (p.1 = n)
  | [] => rfl
  | p :: r => by
    have e : kvs (p :: r) = (Sum.inr p.1, p.2) :: kvs r := rfl
    rw [e, List.any_cons, List.any_cons, kvs_any n r]
    congr 1
    by_cases h : p.1 = n
    · rw [decide_eq_true h, decide_eq_true (by rw [h])]
    · rw [decide_eq_false h, decide_eq_false fun z => h (Sum.inr.inj z)]
theorem putK_kvs (l : List (Str × V)) (n : Str) (v : V) : putK (kvs l) (Sum.inr n) v = kvs (put l n v) := by
  unfold putK put
  rw [kvs_any]
  split
  · unfold kvs
    rw [List.map_map, List.map_map]
    refine List.map_congr_left fun p _ => ?_
    show (if (Sum.inr p.1 : Key) = Sum.inr n then _ else _) = _
    by_cases h : p.1 = n
    · simp [h]
    · have h2 : ¬ ((Sum.inr p.1 : Key) = Sum.inr n) := fun z => h (Sum.inr.inj z)
      simp [h, h2]
  · unfold kvs
    rw [List.map_append]
    rfl
theorem kvs_len {α : Type} (l : List (Str × α)) : (kvs l).length = l.length := by unfold kvs; rw [List.length_map]
/-- what the entries hold -/
inductive CsR (K : PySem.W.Frag) (M : Hp) : List (Str × V) → List (Str × PyData) → Prop where
  | nil : CsR K M [] []
  | cons {n : Str} {v : V} {d : PyData} {l : List (Str × V)} {cs : List (Str × PyData)} (h : Dp K M v d) (t : CsR K M l cs) : CsR K M ((n, v) :: l) ((n, d) :: cs)
section
variable {K : PySem.W.Frag} {M : Hp}
theorem CsR.same {M' : Hp} (s : Same M M') : ∀ {l : List (Str × V)} {cs : List (Str × PyData)}, CsR K M l cs → CsR K M' l cs
  | _, _, .nil => .nil
  | _, _, .cons h t => .cons (dp_same s _ _ h) (t.same s)
theorem CsR.len : ∀ {l : List (Str × V)} {cs : List (Str × PyData)}, CsR K M l cs → l.length = cs.length
  | _, _, .nil => rfl
  | _, _, .cons _ t => by rw [List.length_cons, List.length_cons, t.len]
theorem CsR.at {n : Str} {d : PyData} : ∀ {l : List (Str × V)} {cs : List (Str × PyData)}, CsR K M l cs → look cs n = some d → ∃ v, look l n = some v ∧ Dp K M v d
  | _, _, .nil, e => by cases e
  | _, _, .cons (n := m) (v := v) (d := d') h t, e => by
    by_cases q : m = n
    · rw [look_pos (p := (m, d')) q] at e
      obtain rfl := Option.some.inj e
      exact ⟨v, look_pos (p := (m, v)) q, h⟩
    · rw [look_neg (p := (m, d')) q] at e
      obtain ⟨v', e', h'⟩ := t.at e
      exact ⟨v', by rw [look_neg (p := (m, v)) q]; exact e', h'⟩
theorem CsR.none {n : Str} : ∀ {l : List (Str × V)} {cs : List (Str × PyData)}, CsR K M l cs → look cs n = none → look l n = none
  | _, _, .nil, _ => rfl
  | _, _, .cons (n := m) (v := v) (d := d') h t, e => by
    by_cases q : m = n
    · rw [look_pos (p := (m, d')) q] at e
      cases e
    · rw [look_neg (p := (m, d')) q] at e
      rw [look_neg (p := (m, v)) q]
      exact t.none e
theorem CsR.any {n : Str} : ∀ {l : List (Str × V)} {cs : List (Str × PyData)}, CsR K M l cs → (l.any fun p => decide (p.1 = n)) = cs.any fun p => decide (p.1 = n)
  | _, _, .nil => rfl
  | _, _, .cons h t => by rw [List.any_cons, List.any_cons, t.any]
theorem CsR.map {n : Str} {v : V} {d : PyData} (hd : Dp K M v d) : ∀ {l : List (Str × V)} {cs : List (Str × PyData)}, CsR K M l cs → CsR K M (l.map fun p => if p.1 = n then (p.1, v) else p) (cs.map fun p => if p.1 = n then (p.1, d) else p)
  | _, _, .nil => .nil
  | _, _, .cons (n := m) (v := v') (d := d') h t => by
    rw [List.map_cons, List.map_cons]
    by_cases q : m = n
    · rw [if_pos (show (m, v').1 = n from q), if_pos (show (m, d').1 = n from q)]
      exact .cons hd (t.map hd)
    · rw [if_neg (show ¬ (m, v').1 = n from q), if_neg (show ¬ (m, d').1 = n from q)]
      exact .cons h (t.map hd)
theorem CsR.app : ∀ {l l' : List (Str × V)} {cs cs' : List (Str × PyData)}, CsR K M l cs → CsR K M l' cs' → CsR K M (l ++ l') (cs ++ cs')
  | _, _, _, _, .nil, h => h
  | _, _, _, _, .cons h t, r => .cons h (t.app r)
theorem CsR.put {n : Str} {v : V} {d : PyData} {l : List (Str × V)} {cs : List (Str × PyData)} (h : CsR K M l cs) (hd : Dp K M v d) : CsR K M (put l n v) (put cs n d) := by
  unfold Qp.put
  rw [h.any]
  split
  · exact h.map hd
  · exact h.app (.cons hd .nil)
end
theorem look_put {α : Type} (n m : Str) (v : α) : ∀ l : List (Str × α), look (put l n v) m = if m = n then some v else look l m := by
  have h1 : ∀ l : List (Str × α), (l.any fun p => decide (p.1 = n)) = true → look (l.map fun p => if p.1 = n then (p.1, v) else p) m = if m = n then some v else look l m := by
    intro l
    induction l with
    | nil => intro h; cases h
    | cons p r ih =>
      intro h
      rw [List.map_cons]
      by_cases q : p.1 = n
      · rw [if_pos q]
        by_cases e : p.1 = m
        · rw [look_pos (p := (p.1, v)) e, if_pos (e.symm.trans q)]
        · rw [look_neg (p := (p.1, v)) e, look_neg e]
          have hm : ¬ m = n := fun z => e (q.trans z.symm)
          rw [if_neg hm]
          by_cases a : (r.any fun p => decide (p.1 = n)) = true
          · rw [ih a, if_neg hm]
          · have : r.map (fun p => if p.1 = n then (p.1, v) else p) = r := by
              rw [Bool.not_eq_true, List.any_eq_false] at a
              conv => rhs; rw [← List.map_id r]
              refine List.map_congr_left fun x hx => ?_
              have := a x hx
              rw [if_neg (by simpa using this)]
              rfl
            rw [this]
      · rw [if_neg q]
        have a : (r.any fun p => decide (p.1 = n)) = true := by
          rw [List.any_cons, decide_eq_false q, Bool.false_or] at h
          exact h
        by_cases e : p.1 = m
        · rw [look_pos e, look_pos e, if_neg fun z => q (e.trans z)]
        · rw [look_neg e, look_neg e, ih a]
  intro l
  unfold put
  split
  · rename_i a; exact h1 l a
  · rename_i a
    rw [Bool.not_eq_true, List.any_eq_false] at a
    have h2 : ∀ l : List (Str × α), (∀ x ∈ l, ¬ x.1 = n) → look (l ++ [(n, v)]) m = if m = n then some v else look l m := by
      intro l
      induction l with
      | nil =>
        intro _
        by_cases e : m = n
        · rw [if_pos e]; exact look_pos (p := (n, v)) e.symm
        · rw [if_neg e]; exact look_neg (p := (n, v)) fun z => e z.symm
      | cons p r ih =>
        intro h
        rw [List.cons_append]
        by_cases e : p.1 = m
        · rw [look_pos e, look_pos e, if_neg fun z => h p List.mem_cons_self (e.trans z)]
        · rw [look_neg e, look_neg e, ih fun x hx => h x (List.mem_cons_of_mem _ hx)]
    exact h2 l fun x hx => by simpa using a x hx
theorem put_len {α : Type} {l : List (Str × α)} {n : Str} {v w : α} (h : look l n = some w) : (put l n v).length = l.length := by
  unfold put
  have a : (l.any fun p => decide (p.1 = n)) = true := by
    rw [List.any_eq_true]
    unfold look at h
    obtain ⟨p, hp, _⟩ := Option.map_eq_some_iff.mp h
    exact ⟨p, List.mem_of_find?_eq_some hp, by have := List.find?_some hp; simpa using this⟩
  rw [if_pos a, List.length_map]
/-- names in their order -/
def names {α : Type} (l : List (Str × α)) : List Str := l.map (·.1)
theorem put_names {α : Type} {l : List (Str × α)} {n : Str} {v w : α} (h : look l n = some w) : names (put l n v) = names l := by
  unfold put names
  have a : (l.any fun p => decide (p.1 = n)) = true := by
    rw [List.any_eq_true]
    unfold look at h
    obtain ⟨p, hp, _⟩ := Option.map_eq_some_iff.mp h
    exact ⟨p, List.mem_of_find?_eq_some hp, by have := List.find?_some hp; simpa using this⟩
  rw [if_pos a, List.map_map]
  refine List.map_congr_left fun p _ => ?_
  show (if p.1 = n then (p.1, v) else p).1 = p.1
  split <;> rfl
theorem look_mem {α : Type} {l : List (Str × α)} {n : Str} {v : α} (h : look l n = some v) : (n, v) ∈ l := by
  unfold look at h
  obtain ⟨p, hp, e⟩ := Option.map_eq_some_iff.mp h
  have h1 := List.mem_of_find?_eq_some hp
  have h2 : p.1 = n := by have := List.find?_some hp; simpa using this
  obtain ⟨a, b⟩ := p
  cases h2
  cases e
  exact h1
theorem look_some {α : Type} {n : Str} : ∀ {l : List (Str × α)}, n ∈ names l → ∃ v, look l n = some v
  | [], h => by cases h
  | p :: r, h => by
    by_cases e : p.1 = n
    · exact ⟨p.2, look_pos e⟩
    · rw [look_neg e]
      exact look_some (l := r) (by
        rcases List.mem_cons.mp h with q | q
        · exact absurd q.symm e
        · exact q)
theorem look_of_none {α : Type} {n : Str} : ∀ {l : List (Str × α)}, n ∉ names l → look l n = none
  | [], _ => rfl
  | p :: r, h => by
    rw [look_neg fun e => h (by rw [← e]; exact List.mem_cons_self)]
    exact look_of_none (l := r) fun m => h (List.mem_cons_of_mem _ m)
/-! ### for i, x in enumerate(t), t a tuple -/
theorem meets_enum_tup (l : Addr) (items : Array Value) :
    Meets (Builtin.«enumerate.__new__» ⟨[.type "enumerate", .ref l], []⟩) (fun _ R s => s.heap.IsTuple l items ∧
      R (.ok (.ret (.ref (s.heap.push { cls := .type "tuple_iterator", data := .fields #[.ref l, .int 0 0] }).objs.size)))
        { s with heap := (s.heap.push { cls := .type "tuple_iterator", data := .fields #[.ref l, .int 0 0] }).push { cls := .type "enumerate", data := .fields #[.none, .bool false, .ref s.heap.objs.size, rawInt 0, .none, .none] } }) :=
  .of_wp fun prog w A R s h => by
    obtain ⟨hp, g, d, tk, os⟩ := s; obtain ⟨hl, h⟩ := h
    have hsub := sub_enumerate
    wp_walk
    refine wpAny_stack_any fun st => wpAny_pure ?_
    split
    · rename_i c _ _ _ _ _
      cases (c == Value.type "enumerate")
      · wp_walk using wpAny_pyIter_tuple hl
        exact ⟨_, rfl, h⟩
      · wp_walk using wpAny_pyIter_tuple hl
        exact ⟨_, rfl, h⟩
    · wp_walk using wpAny_pyIter_tuple hl
      exact ⟨_, rfl, h⟩
theorem call_enum_tup {prog : Program} {w : World} {A : Around} {E : Value → Shared → Prop} {s : Shared} {l : Addr} {items : Array Value} {Q : Value → Shared → Prop} (hL : s.heap.IsTuple l items)
    (h : ∀ h', IsEnum h' (s.heap.objs.size + 1) s.heap.objs.size 0 .none → h'.IsTupleIter s.heap.objs.size l 0 → h'.objs.size = s.heap.objs.size + 2 →
      (∀ b o, s.heap.get? b = some o → h'.get? b = some o) → Q (.ref (s.heap.objs.size + 1)) { s with heap := h' }) :
    wpAny (model prog w) A (call (.type "enumerate") [.ref l]) Q E s := by
  refine callType_new F.called_enumerate (by decide) (F.typeCall_enumerate_1 _) (F.newCall_enumerate_1 _) (fun obj => F.args_object_init_2 obj _) F.entry_enumerate_new
    (meets_enum_tup l items) ⟨hL, ?_⟩
  have hz : (s.heap.push { cls := .type "tuple_iterator", data := .fields #[.ref l, .int 0 0] }).objs.size = s.heap.objs.size + 1 := Heap.size_push ..
  show _ ∧ _
  rw [hz]
  have he : IsEnum ((s.heap.push { cls := .type "tuple_iterator", data := .fields #[.ref l, .int 0 0] }).push
      { cls := .type "enumerate", data := .fields #[.none, .bool false, .ref s.heap.objs.size, rawInt 0, .none, .none] }) (s.heap.objs.size + 1) s.heap.objs.size 0 .none := by
    have := Heap.get?_push_size (s.heap.push { cls := .type "tuple_iterator", data := .fields #[.ref l, .int 0 0] })
      (o := { cls := .type "enumerate", data := .fields #[.none, .bool false, .ref s.heap.objs.size, rawInt 0, .none, .none] }) rfl
    rw [hz] at this; exact this
  refine ⟨⟨_, he, rfl⟩, h _ he ⟨_, Heap.get?_push_of_some _ (Heap.get?_push_size _ rfl), rfl, rfl⟩ (by rw [Heap.size_push, hz]) fun b o x => Heap.get?_push_of_some _ (Heap.get?_push_of_some _ x)⟩
theorem enum_endT {prog : Program} {w : World} {A : Around} {E : Value → Shared → Prop} {s : Shared} {e it l : Addr} {i : Nat} {items : Array Value} {old : Value} {Q : Option Value → Shared → Prop} (hh : A.in1.handled = none)
    (he : IsEnum s.heap e it i old) (hit : s.heap.IsTupleIter it l i) (hl : s.heap.IsTuple l items) (hx : items[i]? = none) (hQ : ∀ h', Heap.ExtBut it s.heap h' → Q none { s with heap := h' }) : wpAny (model prog w) A (pyNext (.ref e)) Q E s := by
  have hT : s.TypeIs (.ref e) "enumerate" := ⟨_, he, rfl⟩
  unfold pyNext
  refine wpAny_bind (wpAny_attempt (wpAny_callSpecial?_slot (name := Str.ofString "__next__") hT F.slot_enumerate_next
    (wpAny_call_entry F.slot_enumerate_next hT F.entry_enumerate_next ?_ (F.args_enumerate_next_1 _))))
  show wpAny _ _ (field (.ref e) 2 >>= _) _ _ _
  refine wpAny_bind (wpAny_field he rfl (x := .ref it) rfl ?_)
  refine wpAny_bind (wpAny_nextOf_tuple_end hh hit hl hx fun h' x he' hx' => ?_)
  obtain ⟨o, ho, hc⟩ := hx'
  refine wpAny_bind (wpAny_isInstance (T := "StopIteration") (b := true) ⟨o, ho, hc⟩ isSubtype_stop ?_)
  exact wpAny_pure (hQ _ he')
/-- the tuple at a, each item in a new pair -/
def IteT (K : PySem.W.Frag) (a : Addr) : It :=
  ⟨fun i H => ∃ (xs : List V) (x : V), SqT K H a xs ∧ xs[i]? = some x, fun i H v H' => ∃ T x, v = .ref T ∧ H T = none ∧ H' = upd H T (.tup [.int (i : Nat), x]) ∧ ∀ xs, SqT K H a xs → xs[i]? = some x, fun i H => ∃ xs : List V, SqT K H a xs ∧ xs.length ≤ i⟩
theorem turn_enumT {P : Program} {w : World} {K : PySem.W.Frag} {elts : List Expr} {kk : Nat} {tpos : Pos} (a e it : Addr) (hai : a ≠ it) (hae : e ≠ a) :
    Turn P w K (.Tuple elts kk tpos) (IteT K a) [e, it] e (fun i h => (∃ old, IsEnum h e it ((i : Nat) : Int) old) ∧ h.IsTupleIter it a i ∧ e ≠ it) where
  mem := by simp
  obj := fun i h st b hb => by
    obtain ⟨⟨old, he⟩, ⟨o, ho, hc, hd⟩, _⟩ := st
    have e' : b = e ∨ b = it := by simpa using hb
    rcases e' with z | z
    · rw [z]; exact ⟨_, he, fun v q => nomatch q⟩
    · rw [z]; exact ⟨o, ho, fun v q => by rw [hd] at q; cases q⟩
  keep := fun i h h' st k => let ⟨⟨old, he⟩, hi, hne⟩ := st; ⟨⟨old, k e (by simp) _ he⟩, hi.at fun o q => k it (by simp) o q, hne⟩
  item := by
    intro X hP hw hK hc i pins s σ H E I hf st hg
    subst hP hw hK
    obtain ⟨⟨old, he⟩, hit, hne⟩ := st
    obtain ⟨xs, x, hq, hx⟩ := hg
    obtain ⟨its, rv, p, hz⟩ := I.tuple hq
    obtain ⟨u, hu, ru⟩ := rv.get hx
    have hel : e < s.heap.objs.size := Heap.lt_size he
    have hil : it < s.heap.objs.size := by obtain ⟨_, q, _⟩ := hit; exact Heap.lt_size q
    have hh : X.A.in1.handled = none := I.ok.hd hc
    have hsz : i < its.toArray.size := by
      have := (List.getElem?_eq_some_iff.mp hu).1
      simpa using this
    refine wpAny_pyNext_enum_itemD (Draws.tuple (prog := X.prog) (w := X.w) (A := X.A.in1) hh it a hai its.toArray) he ⟨hit, p⟩ hsz hne (by simp [hne, hae]) fun y h' tk hy ho hst' hT hsz' hk => ?_
    have ey : y = u := by
      have h1 : its[i]? = some y := by simpa using hy
      rw [hu] at h1
      exact (Option.some.inj h1).symm
    subst ey
    refine ⟨_, rfl, wpAny_letOwnedTupleGo_enum (s := { s with heap := h', toks := tk + 1 }) ho fun h'' he' sb => ?_⟩
    have hT2 : h''.get? s.heap.objs.size = some { cls := .type "tuple", data := .seq #[.int i tk, y] } := (sb.2 _ (Nat.ne_of_gt hel)).trans hT
    have new : ObjOk X.prog X.w (upd H s.heap.objs.size (.tup [.int (i : Nat), x])) h'' s.heap.objs.size (.tup [.int (i : Nat), x]) :=
      ⟨by show 2 ≤ sizeLine; decide, [.int i tk, y], .cons ⟨_, rfl⟩ (.cons ru .nil), ⟨_, hT2, rfl, _, rfl⟩⟩
    have I1 : Inv X pins σ (upd H s.heap.objs.size (.tup [.int (i : Nat), x])) { s with heap := h'', toks := tk + 1 } :=
      I.turnedNew (ch := [e, it]) (fun b ob hb q => (sb.2 b (fun z => hb (by simp [z]))).trans (hk b ob (fun z => hb (by simp [z])) (fun z => hb (by simp [z])) q)) hf (Nat.le_refl _) new
    refine ⟨.ref s.heap.objs.size, _, I1, rfl, ⟨_, x, rfl, I.hok.fresh (Nat.le_refl _), rfl, fun ys hy' => by rw [I.tuple_inj hy' hq]; exact hx⟩, ⟨⟨y, ?_⟩, hst'.1.at fun o q => (sb.2 it (Ne.symm hne)).trans q, hne⟩, fun b hb => ?_⟩
    · have e1 : ((i + 1 : Nat) : Int) = (i : Int) + 1 := by omega
      rw [e1]; exact he'
    · have hb' : b < s.heap.objs.size := by
        have e' : b = e ∨ b = it := by simpa using hb
        rcases e' with z | z
        · rw [z]; exact hel
        · rw [z]; exact hil
      rw [upd_ne (Nat.ne_of_lt hb')]
      exact (hf b hb).1
  done := by
    intro X hP hw hK hc i pins s σ H E I hf st hg
    subst hP hw hK
    obtain ⟨⟨old, he⟩, hit, hne⟩ := st
    obtain ⟨xs, hq, hx⟩ := hg
    obtain ⟨its, rv, p, hz⟩ := I.tuple hq
    obtain ⟨f0, f1, f2, f3, f4, f5⟩ := hf it (by simp)
    have hl := rv.length
    have hh : X.A.in1.handled = none := I.ok.hd hc
    exact enum_endT hh he hit p (by simp; omega) fun h' eb => ⟨rfl, I.turned (t' := s.toks) (fun b o hb q => eb b o hb q) f0 f1 f3 f4 f5⟩
  self := fun A i s Q E st h => let ⟨⟨_, he⟩, _⟩ := st; wpAny_pyIter_enum he h
def iEnumT (K : PySem.W.Frag) (ta : TA) : TI := fun σ H R => ta σ H fun vs H1 => ∃ a xs, vs = [.ref a] ∧ SqT K H1 a xs ∧ R (IteT K a) H1
theorem pi_enumT {X : Cx} {e : Expr} {ta : TA} {p pos tpos : Pos} {elts : List Expr} {kk : Nat} (hg : Gl X "enumerate") (hm : X.mg "enumerate" = none) (ha : PA X [e] ta) (hs : starEach [e] X.env = [(false, eval e X.env)] := by rfl) :
    PI X (.Tuple elts kk tpos) (.Call (.Name "enumerate" p) [e] [] pos) (iEnumT X.K ta) := by
  refine ⟨fun pins s σ H R I h => ?_⟩
  refine PyProof.Rows.Call_ (ld_blt I hg hm PyProof.Rows.Boot.«enumerate» (PyProof.Rows.callWith_type1 (thn (ha.run pos pins s σ H _ I h) fun us s1 ⟨vs, H1, I1, r1, q1⟩ => ?_) hs rfl))
  obtain ⟨a, xs, ex, hq, q⟩ := q1
  subst ex
  cases r1 with
  | cons r rr =>
    cases rr
    cases r
    obtain ⟨its, rv, p', hz⟩ := I1.tuple hq
    have hal : a < s1.heap.objs.size := by obtain ⟨o, g, _⟩ := p'; exact Heap.lt_size g
    refine call_enum_tup p' fun h' he hit hsz hk => wpAny_pyIter_enum he ?_
    have I2 : Inv X pins σ H1 { s1 with heap := h' } := I1.kept (t' := s1.toks) hk
    refine ⟨s1.heap.objs.size + 1, [s1.heap.objs.size + 1, s1.heap.objs.size], _, _, H1, rfl, I2, turn_enumT a (s1.heap.objs.size + 1) s1.heap.objs.size (Nat.ne_of_lt hal) (Nat.ne_of_gt (Nat.lt_succ_of_lt hal)), ⟨⟨.none, he⟩, hit, Nat.succ_ne_self _⟩, fun b hb => ?_, q⟩
    have e' : b = s1.heap.objs.size + 1 ∨ b = s1.heap.objs.size := by simpa using hb
    have hle : s1.heap.objs.size ≤ b := by
      rcases e' with z | z
      · rw [z]; exact Nat.le_add_right _ _
      · rw [z]; exact Nat.le_refl _
    exact I1.fpOk hle (I1.hok.fresh hle)
/-- a loop over it -/
theorem for_enumT {K : PySem.W.Frag} {a : Addr} {xs : List V} {g : TG} {tb : TS} {D : Ends} {σ : L2.St} {H : Hp} (Pv : Nat → L2.St → Hp → Prop) (h0 : Pv 0 σ H) (hl : ∀ i σ H, i ≤ xs.length → Pv i σ H → SqT K H a xs)
    (hs : ∀ i x T σ H, xs[i]? = some x → H T = none → Pv i σ H → g (.ref T) σ (upd H T (.tup [.int (i : Nat), x])) fun σ2 H2 => tb { D with nx := Pv (i + 1), ct := Pv (i + 1), bk := D.nx } σ2 H2) (hd : ∀ σ H, Pv xs.length σ H → D.nx σ H) :
    ∃ W : Nat → Nat → L2.St → Hp → Prop, (∃ m, W 0 m σ H) ∧ ∀ i m σ H, W i m σ H →
      ((IteT K a).stop i H ∧ D.nx σ H) ∨ ((IteT K a).go i H ∧ ∃ N : L2.St → Hp → Prop, (∀ σ' H', N σ' H' → ∃ m', m' < m ∧ W (i + 1) m' σ' H') ∧ ∀ x H', (IteT K a).yld i H x H' → g x σ H' fun σ2 H2 => tb { D with nx := N, ct := N, bk := D.nx } σ2 H2) := by
  refine ⟨fun i m σ H => m = xs.length - i ∧ i ≤ xs.length ∧ Pv i σ H, ⟨xs.length, by simp, Nat.zero_le _, h0⟩, ?_⟩
  rintro i m σ H ⟨rfl, hi, p⟩
  have q := hl i σ H hi p
  by_cases hlt : i < xs.length
  · refine .inr ⟨⟨xs, xs[i], q, by simp [hlt]⟩, Pv (i + 1), fun σ' H' p' => ⟨xs.length - (i + 1), by omega, rfl, hlt, p'⟩, fun v H' y => ?_⟩
    obtain ⟨T, x, rfl, nT, rfl, y⟩ := y
    exact hs i x T σ _ (y xs q) nT p
  · have e : i = xs.length := by omega
    subst e
    exact .inl ⟨⟨xs, q, Nat.le_refl _⟩, hd σ H p⟩
/-! ### names -/
theorem low_ok : ∀ c, 97 ≤ c → c ≤ 122 → Unicode.isAlpha c = true ∧ Unicode.isLower c = true ∧ Unicode.isUpper c = false ∧ Unicode.isTitle c = false := by
  have h : ∀ k : Fin 26, Unicode.isAlpha (97 + k.val) = true ∧ Unicode.isLower (97 + k.val) = true ∧ Unicode.isUpper (97 + k.val) = false ∧ Unicode.isTitle (97 + k.val) = false := by decide +kernel
  intro c h1 h2
  have := h ⟨c - 97, by omega⟩
  rw [show 97 + (c - 97) = c by omega] at this
  exact this
/-- what is_name tells of a text -/
def nmS (z : Str) : Bool := !decide (8 < z.length) && (Txt.isascii z && (Txt.isalpha z && Txt.islower z))
def nmD : PyData → Bool
  | .str z => nmS z
  | _ => false
theorem IsWord.nm {z : Str} (h : IsWord z) : nmS z = true := by
  obtain ⟨h1, h2, h3⟩ := h
  have hm : ∀ c, c ∈ z.cps → 97 ≤ c ∧ c ≤ 122 := fun c hc => h3 c (Array.mem_toList_iff.mpr hc)
  have e1 : (!decide (8 < z.length)) = true := by simp; omega
  have e2 : Txt.isascii z = true := by
    unfold Txt.isascii
    rw [Array.all_eq_true_iff_forall_mem]
    intro c hc
    have := hm c hc
    exact decide_eq_true (by omega)
  have e3 : Txt.isalpha z = true := by
    unfold Txt.isalpha
    rw [Bool.and_eq_true]
    refine ⟨decide_eq_true (by omega), ?_⟩
    rw [Array.all_eq_true_iff_forall_mem]
    intro c hc
    exact (low_ok c (hm c hc).1 (hm c hc).2).1
  have e4 : Txt.islower z = true := by
    unfold Txt.islower
    rw [Bool.and_eq_true]
    have hz : 0 < z.cps.size := h1
    refine ⟨?_, ?_⟩
    · rw [← Array.any_toList, List.any_eq_true]
      exact ⟨z.cps[0], Array.mem_toList_iff.mpr (Array.getElem_mem hz), (low_ok _ (hm _ (Array.getElem_mem hz)).1 (hm _ (Array.getElem_mem hz)).2).2.1⟩
    · rw [Bool.not_eq_true', ← Array.any_toList, List.any_eq_false]
      intro c hc
      have hc := Array.mem_toList_iff.mp hc
      have := low_ok c (hm c hc).1 (hm c hc).2
      rw [this.2.2.1, this.2.2.2]
      simp
  unfold nmS
  rw [e1, e2, e3, e4]
  rfl
def spIsName (K : PySem.W.Frag) : Sp := fun vs H Q _ => ∃ (v : V) (d : PyData), vs = [v] ∧ Dp K H v d ∧ (∀ z, d = .str z → z.length ≤ 1000) ∧ Q (.bl (nmD d)) H
/-- never reached -/
theorem ps_never {X : Cx} {st : Stmt} : PS X st (fun _ _ _ => False) := ⟨fun _ _ _ _ _ _ h => h.elim⟩
section
variable {P : Program} {w : World} {K : PySem.W.Frag} {mg : Str → Option Value} {base : Heap}
theorem scIN : FnScope ["thing"] ["thing"] (defScope sIsName) := ⟨rfl, rfl, rfl, by decide +kernel, rfl, by decide +kernel, by decide +kernel⟩
theorem ok_isname {f : Addr} {fd : FuncData} {k : Nat} {tk : Tok} (F : Fun K "is_name" "is_name" sIsName f fd) (B : Bts mg) (mL : mg "LONGEST_NAME" = some (.int 8 tk)) : FnOk P w K mg base CX0 (k + 1) f fd ["thing"] (spIsName K) := by
  refine F.ok scIN (fun vs H Q E h => ?_) (fun cdv A outer s H vs Q E hr h => ?_)
  · obtain ⟨v, d, rfl, _⟩ := h
    rfl
  · obtain ⟨v, d, rfl, hv, hz, kk⟩ := h
    refine ⟨_, pss_cons (ps_if (PW.pt (pw_or (pt_not (pt_val (pe_callB call_isi (by rfl) B.isinstance (by decide +kernel) (pa_cons (pv 0) (pa_cons (pe_bltn (v := .ty "str") (by rfl) B.str (by decide +kernel) rfl) pa_nil)))))
          (pw_or1 (pt_cmpR op_gt (pe_callB call_len_str (by rfl) B.len PySem.boot_len (pa_cons (pv 0) pa_nil)) (pe_glob (v := .int 8) rfl mL ⟨tk, rfl⟩) (by rfl)))))
        (pss_one (ps_ret pe_bl)) pss_nil)
      (pss_one (ps_ret (pe_and (pe_bm0 PySem.F.plainAttrs_str PySem.F.slot_str_isascii PySem.F.type_str_isascii mt_isascii (pv 0))
        (pe_and (pe_bm0 PySem.F.plainAttrs_str PySem.F.slot_str_isalpha PySem.F.type_str_isalpha mt_isalpha (pv 0))
        (pe_one (pe_bm0 PySem.F.plainAttrs_str PySem.F.slot_str_islower PySem.F.type_str_islower mt_islower (pv 0))))))), ?_⟩
    by_cases hs : ∃ z, d = .str z
    · obtain ⟨z, rfl⟩ := hs
      have hl := hz z rfl
      cases hv
      refine ⟨_, rfl, _, _, _, _, true, rfl, .ty _, TyX.base (TyOf.str z), kit_ty (by decide +kernel), _, rfl, iteF ?_⟩
      refine ⟨_, rfl, z, rfl, len1000 hl, _, _, rfl, rfl, _, rfl, ite2 (fun h => ?_) (fun h => ?_)⟩
      · have h8 : 8 < z.length := by have := of_decide_eq_true h; omega
        have e : nmS z = false := by unfold nmS; rw [decide_eq_true h8]; rfl
        show Q (.bl false) H
        have kk : Q (.bl (nmS z)) H := kk
        rw [e] at kk
        exact kk
      · have h8 : ¬ 8 < z.length := fun q => h (decide_eq_true (by omega))
        have e : nmS z = (Txt.isascii z && (Txt.isalpha z && Txt.islower z)) := by unfold nmS; rw [decide_eq_false h8]; rfl
        have kk : Q (.bl (nmS z)) H := kk
        rw [e] at kk
        refine ⟨_, rfl, rfl, z, rfl, rfl, True.intro, _, rfl, ite2 (fun ha => ?_) (fun ha => ?_)⟩
        · rw [ha, Bool.true_and] at kk
          refine ⟨_, rfl, rfl, z, rfl, rfl, True.intro, _, rfl, ite2 (fun hb => ?_) (fun hb => ?_)⟩
          · rw [hb, Bool.true_and] at kk
            exact ⟨_, rfl, rfl, z, rfl, rfl, True.intro, kk⟩
          · rw [Bool.eq_false_iff.mpr hb, Bool.false_and] at kk
            exact kk
        · rw [Bool.eq_false_iff.mpr ha, Bool.false_and] at kk
          exact kk
    · have e : nmD d = false := by
        cases d with
        | str z => exact absurd ⟨z, rfl⟩ hs
        | _ => rfl
      have kt : kitB (tyName d) "str" = some false := by
        cases d with
        | str z => exact absurd ⟨z, rfl⟩ hs
        | none => exact (by decide +kernel : kitB "NoneType" "str" = some false)
        | bool b => exact (by decide +kernel : kitB "bool" "str" = some false)
        | int i => exact (by decide +kernel : kitB "int" "str" = some false)
        | list l => exact (by decide +kernel : kitB "list" "str" = some false)
        | tuple l => exact (by decide +kernel : kitB "tuple" "str" = some false)
        | dict l => cases hv
      rw [e] at kk
      exact ⟨_, rfl, _, _, _, _, false, rfl, .ty _, ty_of hv, kit_ty kt, _, rfl, iteT (iteT kk)⟩
/-- check_names(t): all are names -/
def spNames0 (K : PySem.W.Frag) : Sp := fun vs H Q _ => ∃ (t : Addr) (xs : List Str), vs = [.ref t] ∧ SqT K H t (xs.map V.str) ∧ (∀ x ∈ xs, IsWord x) ∧ Q .non H
theorem scCN : FnScope ["things", "thing"] ["things"] (defScope sNames) := ⟨rfl, rfl, rfl, by decide +kernel, rfl, by decide +kernel, by decide +kernel⟩
theorem ok_names0 {f fI : Addr} {fd fdI : FuncData} (F : Fun K "check_names" "check_names" sNames f fd) (GI : FnOk P w K mg base CX0 1 fI fdI ["thing"] (spIsName K)) (mI : mg "is_name" = some (.ref fI)) (kI : PySem.W.keepIn K (.ref fI) = true) (bI : Binds K fdI ["thing"] []) :
    FnOk P w K mg base CX0 2 f fd ["things"] (spNames0 K) := by
  refine F.ok scCN (fun vs H Q E h => ?_) (fun cdv A outer s H vs Q E hr h => ?_)
  · obtain ⟨t, xs, rfl, _⟩ := h
    rfl
  · obtain ⟨t, xs, rfl, ht, hw, kk⟩ := h
    refine ⟨_, pss_one (ps_for PassesOwn.never rfl (pi_tup (pv 0)) (pg_name (i := 1) scCN.nd rfl (.inl rfl))
      (pss_one (ps_if (pt_not (pt_val (pe_call GI hr (by rfl) mI kI bI .nil pass0 (pa_cons (pv 1) pa_nil)))) (pss_one ps_never) pss_nil))), ?_⟩
    refine ⟨_, rfl, t, rfl, ⟨_, ht⟩, for_tup (K := K) (a := t) (xs := xs.map V.str) (fun i σ H2 => ∃ y, σ = [some (.ref t), y] ∧ H2 = H) ⟨none, rfl, rfl⟩ (fun i σ H2 _ ⟨_, _, e⟩ => by rw [e]; exact ht) ?_ ?_⟩
    · rintro i x σ H2 hx ⟨y, rfl, rfl⟩
      rw [List.getElem?_map] at hx
      obtain ⟨z, hz, rfl⟩ := Option.map_eq_some_iff.mp hx
      have hwz := hw z (List.mem_of_getElem? hz)
      refine ⟨_, rfl, .str z, .str z, rfl, .str z, fun z' e => ?_, _, rfl, ?_⟩
      · cases e; have := hwz.2.1; omega
      · have e : nmD (.str z) = true := hwz.nm
        rw [e]
        exact iteF ⟨_, rfl, rfl⟩
    · rintro σ H2 ⟨y, rfl, rfl⟩
      exact kk
/-- check_unlike(t): all unlike -/
def spUnlike0 (K : PySem.W.Frag) : Sp := fun vs H Q _ => ∃ (t : Addr) (xs : List Str), vs = [.ref t] ∧ SqT K H t (xs.map V.str) ∧ xs.Nodup ∧ xs.length ≤ 1000 ∧ ∀ H', Same H H' → Q .non H'
theorem scCU : FnScope ["names", "at", "name"] ["names"] (defScope sUnlike) := ⟨rfl, rfl, rfl, by decide +kernel, rfl, by decide +kernel, by decide +kernel⟩
theorem ok_unlike0 {f : Addr} {fd : FuncData} {k : Nat} (F : Fun K "check_unlike" "check_unlike" sUnlike f fd) (me : mg "enumerate" = none) : FnOk P w K mg base CX0 (k + 1) f fd ["names"] (spUnlike0 K) := by
  refine F.ok scCU (fun vs H Q E h => ?_) (fun cdv A outer s H vs Q E hr h => ?_)
  · obtain ⟨t, xs, rfl, _⟩ := h
    rfl
  · obtain ⟨t, xs, rfl, ht, hn, hl, kk⟩ := h
    refine ⟨_, pss_one (ps_for PassesOwn.never rfl (pi_enumT (by rfl) me (pa_cons (pv 0) pa_nil)) (pg_tup rfl (pgs_cons (pg_name (i := 1) scCU.nd rfl (.inl rfl)) (pgs_cons (pg_name (i := 2) scCU.nd rfl (.inl rfl)) pgs_nil)))
      (pss_one (ps_if (pt_cmpR op_in_seq (pv 2) (pe_slice sl_tup (pv 0) po_none (po_some (pv 1))) (by rfl)) (pss_one ps_never) pss_nil))), ?_⟩
    refine ⟨_, rfl, t, _, rfl, ht, for_enumT (K := K) (a := t) (xs := xs.map V.str) (fun i σ H2 => ∃ y z, σ = [some (.ref t), y, z] ∧ Same H H2) ⟨none, none, rfl, Same.refl _⟩ (fun i σ H2 _ ⟨_, _, _, e⟩ => Same.seqT e ht) ?_ ?_⟩
    · rintro i x T σ H2 hx nT ⟨y, z, rfl, s2⟩
      rw [List.getElem?_map] at hx
      obtain ⟨u, hu, rfl⟩ := Option.map_eq_some_iff.mp hx
      have hi : i < xs.length := (List.getElem?_eq_some_iff.mp hu).1
      have s3 := s2.trans (same_new (o := .tup [.int (i : Nat), .str u]) nT)
      have ht3 := Same.seqT s3 ht
      refine ⟨T, [.int (i : Nat), .str u], rfl, SqT.of upd_same, rfl, .int (i : Nat), [.str u], rfl, .str u, [], rfl, rfl, ?_⟩
      refine ⟨_, rfl, _, rfl, _, rfl, i, rfl, t, _, rfl, ht3, ?_, fun p np => ?_⟩
      · rintro ⟨_, h2⟩
        rw [HT.sIx_nat, List.length_map] at h2
        omega
      · rw [cut_take]
        refine ⟨p, _, rfl, .inr (SqT.of upd_same), rfl, ?_, _, rfl, ?_⟩
        · rw [List.all_eq_true]
          intro v hv
          obtain ⟨w', _, rfl⟩ := List.mem_map.mp (List.mem_of_mem_take hv)
          rfl
        · have e : inV (.str u) ((xs.map V.str).take i) = false := by
            unfold inV
            rw [List.any_eq_false]
            intro v hv
            rw [← List.map_take] at hv
            obtain ⟨w', hw', rfl⟩ := List.mem_map.mp hv
            obtain ⟨j, hj⟩ := List.getElem?_of_mem hw'
            intro q
            have q' : w' = u := beq_iff_eq.mp q
            subst q'
            rw [List.getElem?_take] at hj
            split at hj
            · rename_i hji
              obtain ⟨h1, e1⟩ := List.getElem?_eq_some_iff.mp hj
              obtain ⟨h2, e2⟩ := List.getElem?_eq_some_iff.mp hu
              exact (List.pairwise_iff_getElem.mp hn) j i h1 h2 hji (e1.trans e2.symm)
            · cases hj
          rw [e]
          exact iteF ⟨_, _, rfl, s3.trans (same_new np)⟩
    · rintro σ H2 ⟨y, z, rfl, s2⟩
      exact kk H2 s2
end
/-! ### a static method called through its class; own == and str -/
structure SMet (K : PySem.W.Frag) (C : Addr) (m : Str) (p g : Addr) : Prop where
  at_ : PySem.W.findCls K (.ref C) (.type "type") m = some (.get (.builtin "staticmethod.__get__") (.ref p) .none (.ref C))
  rc : ∃ rest, PySem.W.recIn K p "staticmethod" = some (.ref g :: rest)
  kp : PySem.W.keepIn K (.ref g) = true
def tSMeth (C : Addr) (sp : Sp) (E : XK) (ta : TE) (t : TA) : TE := fun σ H Q => ta σ H fun x H1 => x = .ref C ∧ t σ H1 fun vs H2 => sp vs H2 Q E
section
variable {X : Cx} {CX : CXT} {k : Nat} {C p g : Addr} {sp : Sp} {E : XK} {o e : Expr} {es : List Expr} {m : Str} {pos apos : Pos} {ta : TE} {t : TA} {pl : Sem Bool}
theorem pe_smeth (he : PE X o ta) (r : ClX.CRead X.K C (.type "type")) (c : SMet X.K C m p g) (F : FnR X.prog X.w X.K X.mg X.base CX k g sp) (hr : Room k X.A) (hx : Passes CX X E) (ha : PA X (e :: es) t)
    (hst : starEach (e :: es) X.env = (false, eval e X.env) :: starEach es X.env := by rfl) (hpl : (backTo pos (starEach es X.env)).any (·.1) = false := by rfl)
    (ht : eval (.Call (.Attribute o m apos) (e :: es) [] pos) X.env = (do
      let ov ← eval o X.env
      standAt apos.atName
      let (f, first) ← holding [ov] (getMethod ov m pl)
      callWith pos f first (backTo pos (starEach (e :: es) X.env)) (backToKw pos (keywordEach [] X.env))) := by rfl) :
    PE X (.Call (.Attribute o m apos) (e :: es) [] pos) (tSMeth C sp E ta t) := by
  refine ⟨fun pins s σ H Q I h => ?_⟩
  refine PySem.W.methodCall_KW (pl := pl) (thn (he.run pins s σ H _ I h) fun u s1 ⟨x, H1, I1, rx, ex, q⟩ => ?_) ht
  subst ex
  obtain rfl : u = Value.ref C := rx
  obtain ⟨rest, hp⟩ := c.rc
  refine PySem.W.method_cls I1.kIn r.ga (PySem.W.cls_bind I1.kIn r.rd c.at_ (wpAny_call (PySem.W.sm_get I1.kIn hp (PySem.W.handed_on rfl ?_))))
  refine PySem.W.callWith_K (h₀ := X.base) (first := []) I.ok.mod.kin c.kp (thn (ha.run pos pins _ σ H1 _ (I1.tok _) q) fun us s2 ⟨vs, H2, I2, rv, q2⟩ => ⟨I2.kIn, ?_⟩) hst hpl
  exact wpAny_call (run_fnR F hr hx I2 rv q2)
/-- x == y by C's own __eq__, both of the class at C -/
def rEqOwn (C : Addr) (sp : Sp) (E : XK) : R2 := fun x y H Q => ∃ a dx fs b dy gs, x = .ref a ∧ y = .ref b ∧ H a = some (.ins C dx fs) ∧ H b = some (.ins C dy gs) ∧ sp [x, y] H Q E
theorem op_eqOwn (hs : PySem.W.findIn X.K (.ref C) "__eq__" = some (some (.ref g))) (hf : PySem.W.isFn X.K (.ref g) = true) (F : FnR X.prog X.w X.K X.mg X.base CX k g sp) (hr : Room k X.A) (hx : Passes CX X E) : OpR X (compareOp .Eq) (rEqOwn C sp E) := by
  intro pins s σ H x y v u Q I rx ry h
  obtain ⟨a, dx, fs, b, dy, gs, rfl, rfl, ha, hb, q⟩ := h
  cases (show v = Value.ref a from rx)
  cases (show u = Value.ref b from ry)
  obtain ⟨mA, O, _⟩ := ins_get I.hok ha
  obtain ⟨mB, O', _⟩ := ins_get I.hok hb
  obtain ⟨od, J, _⟩ := O.look
  obtain ⟨od', J', _⟩ := O'.look
  obtain ⟨m, hF⟩ := I.fr
  have hn : PySem.W.notFirst X.K C (.ref C) = true := by unfold PySem.W.notFirst; simp
  show wpAny _ _ (richCompare .Eq (.ref a) (.ref b)) _ _ _
  refine PySem.W.cmp_K (op := .Eq) (tb := .ref C) hr.units0 hF I.ok.mod.kin J J'.type hn hs hf ?_
  refine wpAny_mono (wpAny_call (run_fnR (us := [.ref a, .ref b]) (vs := [.ref a, .ref b]) F hr hx I (.cons rfl (.cons rfl .nil)) q)) (fun w s' z => ?_) fun _ _ x => x
  obtain ⟨z', H', I', rz, qz⟩ := z
  exact SlX.cmpback rz ⟨z', H', I', rz, qz⟩
/-- str(x) by C's own __str__ -/
def rStrOwn (C : Addr) (sp : Sp) (E : XK) : List V → Hp → VK → Prop := fun xs H Q => ∃ a dx fs, xs = [.ref a] ∧ H a = some (.ins C dx fs) ∧ sp [.ref a] H (fun z H' => ∃ x, z = .str x ∧ Q z H') E
theorem call_strOwn (hs : PySem.W.findIn X.K (.ref C) "__str__" = some (some (.ref g))) (hf : PySem.W.isFn X.K (.ref g) = true) (F : FnR X.prog X.w X.K X.mg X.base CX k g sp) (hr : Room (k + 2) X.A) (hx : Passes CX X E) : CallR X (.type "str") (rStrOwn C sp E) := by
  intro pins s σ H xs us Q I r h
  obtain ⟨a, dx, fs, rfl, ha, q⟩ := h
  obtain ⟨u, rfl, ru⟩ := r.one
  cases (show u = Value.ref a from ru)
  obtain ⟨mA, O, _⟩ := ins_get I.hok ha
  obtain ⟨od, J, _⟩ := O.look
  have hr2 : Room k X.A.in1.in1 := (show Room (k + 1) X.A.in1 from Room.in1 hr).in1
  refine PySem.W.kso_call hr2.units0 I.kIn J hs hf (wpAny_mono (wpAny_call (SlX.run_at (us := [.ref a]) (ws := [.ref a]) F hr2 I.env0.in1.in1 hx I (.cons rfl .nil) q)) (fun w s' z => ?_) fun _ _ x => x)
  obtain ⟨z', H', I', rz, x, ex, qz⟩ := z
  subst ex
  obtain ⟨t, rfl⟩ := (show ∃ t, w = Value.str x t from rz)
  exact ⟨.str x, H', I', ⟨t, rfl⟩, qz⟩
end
/-! ### things -/
/-- what the written part says of Thing -/
structure ThIn (K : PySem.W.Frag) (mg : Str → Option Value) (C : Addr) : Prop where
  m : mg "Thing" = some (.ref C)
  cls : Cls K C
  nk : NoAttr K C "kind"
  nn : NoAttr K C "name"
  np : NoAttr K C "parts"
  rd : ClX.CRead K C (.type "type")
  ca : PySem.W.findIn K (.ref C) "__class__" = some (some (.builtin "object.__class__"))
  cn : PySem.W.specialIn K (.builtin "object.__class__") "__get__" = some (some (.builtin "getset_descriptor.__get__"))
  ct : PySem.W.takesIn K (.builtin "object.__class__") = some true
  cm : PySem.W.mroIn K C (.type "object") = some true
/-- a thing at a -/
def ThingAt (K : PySem.W.Frag) (H : Hp) (C a : Addr) (kind name : Str) (parts : List Str) : Prop :=
  ∃ dx fs t, H a = some (.ins C dx fs) ∧ fs.lookup ("kind" : Str) = some (.str kind) ∧ fs.lookup ("name" : Str) = some (.str name) ∧ fs.lookup ("parts" : Str) = some (.ref t) ∧ SqT K H t (parts.map V.str)
theorem ThingAt.same {K : PySem.W.Frag} {H H' : Hp} {C a : Addr} {kind name : Str} {parts : List Str} (s : Same H H') (h : ThingAt K H C a kind name parts) : ThingAt K H' C a kind name parts := by
  obtain ⟨dx, fs, t, h1, h2, h3, h4, h5⟩ := h
  exact ⟨dx, fs, t, s _ _ h1, h2, h3, h4, Same.seqT s h5⟩
def spInit (K : PySem.W.Frag) (C : Addr) : Sp := fun vs H Q _ => ∃ (a dx : Addr) (kind name : Str) (t : Addr) (parts : List Str), vs = [.ref a, .str kind, .str name, .ref t] ∧ H a = some (.ins C dx []) ∧ SqT K H t (parts.map V.str) ∧ IsWord name ∧ (∀ x ∈ parts, IsWord x) ∧ parts.length ≤ 900 ∧
  ∀ H', (∀ b o, b ≠ a → H b = some o → H' b = some o) → ThingAt K H' C a kind name parts → Q .non H'
/-- Thing.feed(name) and the like -/
def spMk (K : PySem.W.Frag) (C : Addr) (kind : Str) : Sp := fun vs H Q _ => ∃ (name : Str), vs = [.str name] ∧ IsWord name ∧ ∀ a H', Same H H' → ThingAt K H' C a kind name [] → Q (.ref a) H'
def spFieldM (K : PySem.W.Frag) (C : Addr) : Sp := fun vs H Q _ => ∃ (name over : Str), vs = [.str name, .str over] ∧ IsWord name ∧ IsWord over ∧ ∀ a H', Same H H' → ThingAt K H' C a "field" name [over] → Q (.ref a) H'
def spTableM (K : PySem.W.Frag) (C : Addr) : Sp := fun vs H Q _ => ∃ (name : Str) (keys : List Str), vs = .str name :: keys.map V.str ∧ IsWord name ∧ (∀ x ∈ keys, IsWord x) ∧ keys.Nodup ∧ keys.length ≤ 4 ∧ ∀ a H', Same H H' → ThingAt K H' C a "table" name keys → Q (.ref a) H'
section
variable {P : Program} {w : World} {K : PySem.W.Frag} {mg : Str → Option Value} {base : Heap}
theorem scTI : FnScope ["self", "kind", "name", "parts"] ["self", "kind", "name", "parts"] (defScope (me 1)) := ⟨rfl, rfl, rfl, by decide +kernel, rfl, by decide +kernel, by decide +kernel⟩
theorem fs_look (kind name : Str) (t : Addr) : (putF "parts" (.ref t) (putF "name" (.str name) (putF "kind" (.str kind) []))).lookup ("kind" : Str) = some (.str kind) ∧ (putF "parts" (.ref t) (putF "name" (.str name) (putF "kind" (.str kind) []))).lookup ("name" : Str) = some (.str name) ∧
    (putF "parts" (.ref t) (putF "name" (.str name) (putF "kind" (.str kind) []))).lookup ("parts" : Str) = some (.ref t) := by
  refine ⟨?_, ?_, ?_⟩ <;> simp only [lookup_putF] <;> rfl
theorem ok_init {f fN C : Addr} {fd fdN : FuncData} (T : ThIn K mg C) (F : Fun K "__init__" "Thing.__init__" (me 1) f fd) (GN : FnOk P w K mg base CX0 2 fN fdN ["things"] (spNames0 K)) (mN : mg "check_names" = some (.ref fN)) (kN : PySem.W.keepIn K (.ref fN) = true) (bN : Binds K fdN ["things"] []) :
    FnOk P w K mg base CX0 3 f fd ["self", "kind", "name", "parts"] (spInit K C) := by
  refine F.ok scTI (fun vs H Q E h => ?_) (fun cdv A outer s H vs Q E hr h => ?_)
  · obtain ⟨a, dx, kind, name, t, parts, rfl, _⟩ := h
    rfl
  · obtain ⟨a, dx, kind, name, t, parts, rfl, ha, ht, hn, hp, hl, kk⟩ := h
    refine ⟨_, pss_cons (ps_expr (pe_call GN hr (by rfl) mN kN bN .nil pass0 (pa_cons (pe_tup (pa_cons (pv 2) (StX.pa_star (pv 3) pa_nil))) pa_nil)))
      (pss_cons (ps_fld (pv 0) (pv 1) rfl) (pss_cons (ps_fld (pv 0) (pv 2) rfl) (pss_one (ps_fld (pv 0) (pv 3) rfl)))), ?_⟩
    refine ⟨_, rfl, _, rfl, t, _, rfl, .inl ht, len1000 (by simp only [List.length_cons, List.length_append, List.length_map, List.length_nil]; omega), fun p np => ?_⟩
    have npa : p ≠ a := (ne_of_none ha np).symm
    refine ⟨p, name :: parts, rfl, ?_, fun x hx => ?_, ?_⟩
    · rw [List.map_cons]
      have : (V.str name :: (parts.map V.str ++ [])) = V.str name :: parts.map V.str := by rw [List.append_nil]
      rw [← this]
      exact SqT.of upd_same
    · rcases List.mem_cons.mp hx with rfl | hx
      · exact hn
      · exact hp x hx
    · have ha1 := same_new (o := .tup (V.str name :: (parts.map V.str ++ []))) np _ _ ha
      refine ⟨_, rfl, _, rfl, a, C, dx, _, rfl, ha1, T.cls, T.nk, by decide, ?_⟩
      refine ⟨_, rfl, _, rfl, a, C, dx, _, rfl, upd_same, T.cls, T.nn, by simp [putF], ?_⟩
      refine ⟨_, rfl, _, rfl, a, C, dx, _, rfl, upd_same, T.cls, T.np, ?_, ?_⟩
      · have h2 : ∀ fs : List (Str × V), ∀ f v, (putF f v fs).length ≤ fs.length + 1 := fun fs f v => by
          induction fs with
          | nil => simp [putF]
          | cons p r ih =>
            obtain ⟨g, x⟩ := p
            unfold putF
            split
            · simp
            · simp only [List.length_cons]; omega
        have := h2 (putF "kind" (.str kind) []) "name" (.str name)
        have := h2 [] "kind" (.str kind)
        simp only [List.length_nil] at this
        omega
      · have kp : ∀ b o, b ≠ a → H b = some o → (upd (upd (upd (upd H p (.tup (V.str name :: (parts.map V.str ++ [])))) a (.ins C dx (putF "kind" (.str kind) []))) a (.ins C dx (putF "name" (.str name) (putF "kind" (.str kind) [])))) a (.ins C dx (putF "parts" (.ref t) (putF "name" (.str name) (putF "kind" (.str kind) []))))) b = some o := fun b o nb e => by
          rw [upd_ne nb, upd_ne nb, upd_ne nb]
          exact same_new np _ _ e
        refine kk _ kp ⟨dx, _, t, upd_same, (fs_look kind name t).1, (fs_look kind name t).2.1, (fs_look kind name t).2.2, ?_⟩
        rcases ht with (h1 | ⟨o, h1⟩) | h3
        · refine .inl (.inl (kp _ _ (fun e => ?_) h1))
          rw [e, ha] at h1; cases h1
        · refine .inl (.inr ⟨o, kp _ _ (fun e => ?_) h1⟩)
          rw [e, ha] at h1; cases h1
        · exact .inr h3
/-- Thing(kind, name, parts) -/
theorem make_at {C t0 x dx : Addr} {H1 : Hp} {kind name : Str} {parts : List Str} {R : Hp → Prop} (ht : SqT K H1 t0 (parts.map V.str)) (hn : IsWord name) (hp : ∀ x ∈ parts, IsWord x) (hl : parts.length ≤ 900) (nx : H1 x = none) (ndx : H1 dx = none) (q : ∀ H', Same H1 H' → ThingAt K H' C x kind name parts → R H') :
    spInit K C (.ref x :: ([.str kind, .str name, .ref t0] ++ [])) (upd (upd H1 dx (.own x)) x (.ins C dx [])) (fun v H2 => v = .non ∧ R H2) E0 := by
  have s1 : Same H1 (upd (upd H1 dx (.own x)) x (.ins C dx [])) := fun b o e => by
    rw [upd_ne (ne_of_none e nx), upd_ne (ne_of_none e ndx)]; exact e
  exact ⟨x, dx, kind, name, t0, parts, rfl, upd_same, Same.seqT s1 ht, hn, hp, hl, fun H' kp th => ⟨rfl, q H' (fun b o e => kp b o (ne_of_none e nx) (s1 b o e)) th⟩⟩
theorem ok_mk {i : Nat} {f fI C : Addr} {fd fdI : FuncData} {m qual kind : Str} (T : ThIn K mg C) (M : Mk K C fI) (F : Fun K m qual (me i) f fd) (GI : FnOk P w K mg base CX0 3 fI fdI ["self", "kind", "name", "parts"] (spInit K C)) (bI : Binds K fdI ["self", "kind", "name", "parts"] [])
    (S : FnScope ["name"] ["name"] (defScope (me i))) (hg : ∀ cdv A outer s H E, Gl (cxOf CX0 P w K mg base ["name"] qual (defScope (me i)) f cdv A outer s H E).nox "Thing") (hv : Vis (defScope (me i)) "name")
    {p1 p2 p3 p4 p5 p6 : Pos} {j k : Nat} (hb : defBody (me i) = [.Return (some (.Call (.Name "Thing" p1) [.Constant (.str kind) j p2, .Name "name" p3, .Tuple [] k p4] [] p5)) p6]) : FnOk P w K mg base CX0 5 f fd ["name"] (spMk K C kind) := by
  refine F.ok S (fun vs H Q E h => ?_) (fun cdv A outer s H vs Q E hr h => ?_)
  · obtain ⟨name, rfl, _⟩ := h
    rfl
  · obtain ⟨name, rfl, hn, kk⟩ := h
    rw [hb]
    refine ⟨_, pss_one (ps_ret (pe_make M GI hr (hg _ _ _ _ _ _) T.m bI .nil pass0 (pa_cons pe_str (pa_cons (pe_var (i := 0) rfl hv (by decide) (by decide)) (pa_cons (pe_tup pa_nil) pa_nil))))), ?_⟩
    refine ⟨_, rfl, by show 0 ≤ sizeLine; decide, fun t0 nt => ?_⟩
    intro x dx nx ndx _
    exact make_at (parts := []) (SqT.of upd_same) hn (fun x hx => by cases hx) (by simp) nx ndx fun H' s th => kk x H' ((same_new nt).trans s) th
end
section
variable {P : Program} {w : World} {K : PySem.W.Frag} {mg : Str → Option Value} {base : Heap}
theorem scF2 : FnScope ["name", "over"] ["name", "over"] (defScope (me 6)) := ⟨rfl, rfl, rfl, by decide +kernel, rfl, by decide +kernel, by decide +kernel⟩
theorem ok_field {f fI C : Addr} {fd fdI : FuncData} (T : ThIn K mg C) (M : Mk K C fI) (F : Fun K "field" "Thing.field" (me 6) f fd) (GI : FnOk P w K mg base CX0 3 fI fdI ["self", "kind", "name", "parts"] (spInit K C)) (bI : Binds K fdI ["self", "kind", "name", "parts"] []) : FnOk P w K mg base CX0 5 f fd ["name", "over"] (spFieldM K C) := by
  refine F.ok scF2 (fun vs H Q E h => ?_) (fun cdv A outer s H vs Q E hr h => ?_)
  · obtain ⟨name, over, rfl, _⟩ := h
    rfl
  · obtain ⟨name, over, rfl, hn, ho, kk⟩ := h
    refine ⟨_, pss_one (ps_ret (pe_make M GI hr (by rfl) T.m bI .nil pass0 (pa_cons pe_str (pa_cons (pv 0) (pa_cons (pe_tup (pa_cons (pv 1) pa_nil)) pa_nil))))), ?_⟩
    refine ⟨_, rfl, _, rfl, by show 1 ≤ sizeLine; decide, fun t0 nt => ?_⟩
    intro x dx nx ndx _
    exact make_at (parts := [over]) (SqT.of upd_same) hn (fun x hx => by rw [List.mem_singleton.mp hx]; exact ho) (by simp) nx ndx fun H' s th => kk x H' ((same_new nt).trans s) th
theorem scTb : FnScope ["name", "keys", "made"] ([("name" : Str)] ++ [("keys" : Str)]) (defScope (me 4)) := ⟨rfl, rfl, rfl, by decide +kernel, rfl, by decide +kernel, by decide +kernel⟩
theorem ok_tableM {f fI fU C : Addr} {fd fdI fdU : FuncData} {tk : Tok} (T : ThIn K mg C) (M : Mk K C fI) (F : Fun K "table" "Thing.table" (me 4) f fd) (GI : FnOk P w K mg base CX0 3 fI fdI ["self", "kind", "name", "parts"] (spInit K C)) (bI : Binds K fdI ["self", "kind", "name", "parts"] [])
    (GU : FnOk P w K mg base CX0 2 fU fdU ["names"] (spUnlike0 K)) (mU : mg "check_unlike" = some (.ref fU)) (kU : PySem.W.keepIn K (.ref fU) = true) (bU : Binds K fdU ["names"] []) (mlen : mg "len" = none) (mM : mg "MOST_KEYS" = some (.int 4 tk)) : FnR P w K mg base CX0 5 f (spTableM K C) := by
  obtain ⟨oc, od, kV, doc, pm, an, cdv, ct, osl, rfl, lk, hcd⟩ := F.ex
  have G := StX.fn_star (CX := CX0) (P := P) (w := w) (mg := mg) (base := base) (k := 4) (ps := ["name"]) (pv := "keys") (N := ["name", "keys", "made"])
    (sp := fun vs H Q _ => ∃ (name : Str) (t : Addr) (keys : List Str), vs = [.str name, .ref t] ∧ SqT K H t (keys.map V.str) ∧ IsWord name ∧ (∀ x ∈ keys, IsWord x) ∧ keys.Nodup ∧ keys.length ≤ 4 ∧ ∀ a H', Same H H' → ThingAt K H' C a "table" name keys → Q (.ref a) H')
    lk hcd scTb StX.cxUp_none (StX.bind_star1 (B := fun us => bindArgs (PySem.W.fnOf "table" "Thing.table" (defArgs (me 4)) (defBody (me 4)) (defScope (me 4)) .none kV doc pm an cdv ct) ⟨us, []⟩) (p1 := "name") (pv := "keys") (fun a => rfl) (fun a r rs => rfl)) (fun A outer s H vs Q E hr h => ?_)
  · intro A outer s H us vs Q E hr e0 rv hsp
    obtain ⟨name, keys, rfl, hn, hk, hd, hl, kk⟩ := hsp
    refine G A outer s H us _ Q E hr e0 rv ⟨[.str name], keys.map V.str, rfl, rfl, by rw [List.length_map]; exact len1000 (by omega), fun p np => ⟨name, p, keys, rfl, SqT.of upd_same, hn, hk, hd, hl, fun a H' s th => kk a H' ((same_new np).trans s) th⟩⟩
  · obtain ⟨name, t, keys, rfl, ht, hn, hk, hd, hl, kk⟩ := h
    have hr2 : Room 2 _ := hr.mono (by decide)
    refine ⟨_, PSs.nox (pss_cons (ps_set (i := 2) scTb.nd rfl (.inl rfl) (pe_make M GI hr (by rfl) T.m bI .nil pass0 (pa_cons pe_str (pa_cons (pv 0) (pa_cons (pv 1) pa_nil)))))
      (pss_cons (ps_expr (pe_call GU hr2 (by rfl) mU kU bU .nil pass0 (pa_cons (pv 1) pa_nil)))
      (pss_cons (ps_if (pt_cmpR op_gt (pe_callB call_len_seq (by rfl) mlen PySem.boot_len (pa_cons (pv 1) pa_nil)) (pe_glob (v := .int 4) rfl mM ⟨tk, rfl⟩) (by rfl)) (pss_one ps_never) pss_nil)
      (pss_one (ps_ret (pv 2)))))), ?_⟩
    refine ⟨_, rfl, _, rfl, ?_⟩
    intro a dx nx ndx _
    refine make_at (parts := keys) ht hn hk (by omega) nx ndx fun H' s th => ?_
    refine ⟨_, rfl, t, keys, rfl, Same.seqT s ht, hd, by omega, fun H2 s2 => ?_⟩
    refine ⟨_, rfl, t, _, rfl, .inr (Same.seqT (s.trans s2) ht), _, _, rfl, rfl, _, rfl, ?_⟩
    rw [decide_eq_false (by rw [List.length_map]; omega)]
    exact iteF ⟨_, rfl, kk a H2 (s.trans s2) (th.same s2)⟩
/-! ### == and str of things -/
theorem eqv_strs (xs ys : List Str) : PyData.eqv (.tuple (xs.map .str)) (.tuple (ys.map .str)) = decide (xs = ys) := by
  show PyData.eqvAll (xs.map .str) (ys.map .str) = _
  induction xs generalizing ys with
  | nil => cases ys with
    | nil => simp [PyData.eqvAll]
    | cons y ys => simp [PyData.eqvAll]
  | cons x xs ih => cases ys with
    | nil => simp [PyData.eqvAll]
    | cons y ys =>
      simp only [List.map_cons, PyData.eqvAll, ih, PyData.eqv]
      by_cases h : x = y
      · subst h; simp
      · simp [h]
theorem word_str {x : Str} (h : IsWord x) : PyData.strOk x = true := by
  unfold PyData.strOk
  rw [Array.all_eq_true_iff_forall_mem]
  intro c hc
  have := (h.2.2 c (Array.mem_toList_iff.mpr hc)).2
  exact decide_eq_true (by omega)
theorem strs_dp {K : PySem.W.Frag} {H : Hp} : ∀ xs : List Str, DpAll K H (xs.map V.str) (xs.map PyData.str)
  | [] => .nil
  | _ :: r => .cons (.str _) (strs_dp r)
theorem strs_shaped {xs : List Str} (h : ∀ x ∈ xs, IsWord x) : SeqAt.shaped (.tuple (xs.map .str)) = true := by
  have h1 : PyData.canLayAll0 (xs.map .str) = true := by
    induction xs with
    | nil => rfl
    | cons x r ih =>
      simp only [List.map_cons, PyData.canLayAll0, PyData.canLay0, Bool.and_eq_true]
      exact ⟨word_str (h x List.mem_cons_self), ih fun y hy => h y (List.mem_cons_of_mem _ hy)⟩
  have h2 : PyData.depthAll (xs.map .str) ≤ 1 := by
    induction xs with
    | nil => simp [PyData.depthAll]
    | cons x r ih =>
      simp only [List.map_cons, PyData.depthAll, PyData.depth]
      have := ih (fun y hy => h y (List.mem_cons_of_mem _ hy)) (by
        simp only [List.map_cons, PyData.canLayAll0, Bool.and_eq_true] at h1
        exact h1.2)
      omega
  unfold SeqAt.shaped
  simp only [PyData.canLay0, h1, PyData.depth, Bool.true_and]
  exact decide_eq_true (by omega)
def spEq (K : PySem.W.Frag) (C : Addr) : Sp := fun vs H Q _ => ∃ (a b : Addr) (k n k' n' : Str) (p p' : List Str), vs = [.ref a, .ref b] ∧ ThingAt K H C a k n p ∧ ThingAt K H C b k' n' p' ∧ (∀ x ∈ p, IsWord x) ∧ (∀ x ∈ p', IsWord x) ∧ Q (.bl (decide (k = k' ∧ n = n' ∧ p = p'))) H
theorem scE : FnScope ["self", "other"] ["self", "other"] (defScope (me 9)) := ⟨rfl, rfl, rfl, by decide +kernel, rfl, by decide +kernel, by decide +kernel⟩
theorem ok_eq {f C : Addr} {fd : FuncData} {k : Nat} (T : ThIn K mg C) (F : Fun K "__eq__" "Thing.__eq__" (me 9) f fd) (mi : mg "isinstance" = none) : FnOk P w K mg base CX0 (k + 1) f fd ["self", "other"] (spEq K C) := by
  refine F.ok scE (fun vs H Q E h => ?_) (fun cdv A outer s H vs Q E hr h => ?_)
  · obtain ⟨a, b, k, n, k', n', p, p', rfl, _⟩ := h
    rfl
  · obtain ⟨a, b, k, n, k', n', p, p', rfl, ⟨dx, fs, t, a1, a2, a3, a4, a5⟩, ⟨dy, gs, u, b1, b2, b3, b4, b5⟩, hp, hp', kk⟩ := h
    refine ⟨_, pss_one (ps_ret (pe_and (pe_callB call_isi (by rfl) mi (by decide +kernel) (pa_cons (pv 1) (pa_cons (pe_glob (v := .ref C) rfl T.m rfl) pa_nil)))
      (pe_and (pe_cmpR op_eq (pe_fld (pv 0) rfl) (pe_fld (pv 1) rfl) (by rfl)) (pe_and (pe_cmpR op_eq (pe_fld (pv 0) rfl) (pe_fld (pv 1) rfl) (by rfl))
        (pe_one (pe_cmpR (op_eqD hr.units) (pe_fld (pv 0) rfl) (pe_fld (pv 1) rfl) (by rfl))))))), ?_⟩
    have kc : PySem.W.kitOne K (.ref C) (.ref C) = some true := by unfold PySem.W.kitOne; rw [if_pos (by simp)]
    refine ⟨_, rfl, _, _, _, _, true, rfl, .own C, TyX.base (TyOf.ins b1 T.cls T.ca T.cn T.ct T.cm), kc, _, rfl, iteT ?_⟩
    refine ⟨_, rfl, a, C, dx, fs, _, rfl, a1, T.cls, T.nk, a2, _, rfl, b, C, dy, gs, _, rfl, b1, T.cls, T.nk, b2, rfl, _, rfl, ite2 (fun h => ?_) (fun h => ?_)⟩
    · have e1 : k = k' := V.str.inj (of_decide_eq_true h)
      refine ⟨_, rfl, a, C, dx, fs, _, rfl, a1, T.cls, T.nn, a3, _, rfl, b, C, dy, gs, _, rfl, b1, T.cls, T.nn, b3, rfl, _, rfl, ite2 (fun h2 => ?_) (fun h2 => ?_)⟩
      · have e2 : n = n' := V.str.inj (of_decide_eq_true h2)
        refine ⟨_, rfl, a, C, dx, fs, _, rfl, a1, T.cls, T.np, a4, _, rfl, b, C, dy, gs, _, rfl, b1, T.cls, T.np, b4, ?_⟩
        refine ⟨.tuple (p.map .str), .tuple (p'.map .str), .tup a5 (strs_dp p), .tup b5 (strs_dp p'), strs_shaped hp, strs_shaped hp', ?_⟩
        rw [eqv_strs]
        have : decide (k = k' ∧ n = n' ∧ p = p') = decide (p = p') := by simp [e1, e2]
        rw [this] at kk
        exact kk
      · have : decide (k = k' ∧ n = n' ∧ p = p') = false := decide_eq_false fun e => h2 (decide_eq_true (by rw [e.2.1]))
        rw [this] at kk
        exact kk
    · have : decide (k = k' ∧ n = n' ∧ p = p') = false := decide_eq_false fun e => h (decide_eq_true (by rw [e.1]))
      rw [this] at kk
      exact kk
def spStr (K : PySem.W.Frag) (C : Addr) : Sp := fun vs H Q _ => ∃ (a : Addr) (k n : Str) (p : List Str), vs = [.ref a] ∧ ThingAt K H C a k n p ∧ k.length ≤ 100 ∧ n.length ≤ 100 ∧ (∀ x ∈ p, x.length ≤ 100) ∧ p.length ≤ 100 ∧ ∀ H', Same H H' → Q (.str (Str.join " " (k :: n :: p))) H'
theorem sum_le {B : Nat} : ∀ xs : List Str, (∀ x ∈ xs, x.length ≤ B) → (xs.map (·.length)).sum ≤ B * xs.length
  | [], _ => by simp
  | x :: r, h => by
    have h1 := h x List.mem_cons_self
    have h2 := sum_le r fun y hy => h y (List.mem_cons_of_mem _ hy)
    simp only [List.map_cons, List.sum_cons, List.length_cons, Nat.mul_succ]
    omega
theorem scS2 : FnScope ["self"] ["self"] (defScope (me 10)) := ⟨rfl, rfl, rfl, by decide +kernel, rfl, by decide +kernel, by decide +kernel⟩
theorem ok_str {f C : Addr} {fd : FuncData} {k : Nat} (T : ThIn K mg C) (F : Fun K "__str__" "Thing.__str__" (me 10) f fd) : FnOk P w K mg base CX0 (k + 1) f fd ["self"] (spStr K C) := by
  refine F.ok scS2 (fun vs H Q E h => ?_) (fun cdv A outer s H vs Q E hr h => ?_)
  · obtain ⟨a, k, n, p, rfl, _⟩ := h
    rfl
  · obtain ⟨a, k, n, p, rfl, ⟨dx, fs, t, a1, a2, a3, a4, a5⟩, hk, hn, hp, hl, kk⟩ := h
    refine ⟨_, pss_one (ps_ret (pe_join pe_str (pe_lst (pa_cons (pe_fld (pv 0) rfl) (pa_cons (pe_fld (pv 0) rfl) (StX.pa_star (pe_fld (pv 0) rfl) pa_nil)))))), ?_⟩
    refine ⟨⟨_, rfl⟩, _, rfl, a, C, dx, fs, _, rfl, a1, T.cls, T.nk, a2, _, rfl, a, C, dx, fs, _, rfl, a1, T.cls, T.nn, a3, _, rfl, a, C, dx, fs, _, rfl, a1, T.cls, T.np, a4, t, _, rfl, .inl a5, ?_, fun r nr => ?_⟩
    · simp only [List.length_cons, List.length_append, List.length_map, List.length_nil]
      exact len1000 (by omega)
    · have e : (V.str k :: V.str n :: (p.map V.str ++ [])) = (k :: n :: p).map V.str := by rw [List.append_nil]; rfl
      rw [e]
      refine ⟨_, r, k :: n :: p, rfl, rfl, .inl (SqL.of upd_same), ?_, ?_⟩
      · have := sum_le (B := 100) (k :: n :: p) fun x hx => by
          rcases List.mem_cons.mp hx with rfl | hx
          · exact hk
          · rcases List.mem_cons.mp hx with rfl | hx
            · exact hn
            · exact hp x hx
        simp only [List.length_cons] at this ⊢
        have l1 : (Str.ofString " ").length = 1 := by decide +kernel
        rw [l1]
        have line : (20000 : Nat) ≤ sizeLine := by decide
        omega
      · rw [show Txt.join _ (k :: n :: p) = Str.join _ (k :: n :: p) from StrLaws.glued_eq_join _ _]
        exact kk _ (same_new nr)
end
/-! ### the law's own makers -/
/-- the promises of Thing's methods -/
structure Tdefs (P : Program) (w : World) (K : PySem.W.Frag) (mg : Str → Option Value) (base : Heap) (C : Addr) : Prop where
  one : ∀ m ∈ [("feed" : Str), "dice", "source", "flag", "slot"], ∃ p g, SMet K C m p g ∧ FnR P w K mg base CX0 5 g (spMk K C m)
  field : ∃ p g, SMet K C "field" p g ∧ FnR P w K mg base CX0 5 g (spFieldM K C)
  table : ∃ p g, SMet K C "table" p g ∧ FnR P w K mg base CX0 5 g (spTableM K C)
/-! ### what the top says of Thing -/
def SmAll (K : PySem.W.Frag) (C : Addr) (m qual : Str) (i : Nat) : Prop := ∃ p g fd, SMet K C m p g ∧ Fun K m qual (me i) g fd
theorem sm_in {K : PySem.W.Frag} {C p g : Addr} {m qual : Str} {i : Nat} {rest : List Value} {oc : Value} {od an : Option Addr} {osl : Array (Option Value)} {kV doc pm cdv ct : Value}
    (at_ : PySem.W.findCls K (.ref C) (.type "type") m = some (.get (.builtin "staticmethod.__get__") (.ref p) .none (.ref C))) (rc : PySem.W.recIn K p "staticmethod" = some (.ref g :: rest)) (kp : PySem.W.keepIn K (.ref g) = true)
    (l : K.lookup g = some ⟨oc, od, .func (PySem.W.fnOf m qual (defArgs (me i)) (defBody (me i)) (defScope (me i)) .none kV doc pm an cdv ct), osl⟩) (c : PySem.W.codeIn K cdv qual = true) : SmAll K C m qual i :=
  ⟨p, g, _, ⟨at_, ⟨rest, rc⟩, kp⟩, fun_mk l c kp⟩
def MeAll (K : PySem.W.Frag) (C : Addr) (m qual : Str) (i : Nat) : Prop := ∃ g fd, PySem.W.findIn K (.ref C) m = some (some (.ref g)) ∧ PySem.W.isFn K (.ref g) = true ∧ Fun K m qual (me i) g fd
theorem me_in {K : PySem.W.Frag} {C g : Addr} {m qual : Str} {i : Nat} {oc : Value} {od an : Option Addr} {osl : Array (Option Value)} {kV doc pm cdv ct : Value}
    (at_ : PySem.W.findIn K (.ref C) m = some (some (.ref g))) (fn : PySem.W.isFn K (.ref g) = true) (kp : PySem.W.keepIn K (.ref g) = true)
    (l : K.lookup g = some ⟨oc, od, .func (PySem.W.fnOf m qual (defArgs (me i)) (defBody (me i)) (defScope (me i)) .none kV doc pm an cdv ct), osl⟩) (c : PySem.W.codeIn K cdv qual = true) : MeAll K C m qual i :=
  ⟨g, _, at_, fn, fun_mk l c kp⟩
theorem mg_int {K : PySem.W.Frag} {h : Heap} {mg : Str → Option Value} {n : Str} {i : Int} {tk : Tok} (X : K.In h) (G : h.Ns mainGlobals mg) (e : PySem.W.nsIn K mainGlobals n = some (some (.int i tk))) : ∃ tk, mg n = some (.int i tk) := ⟨tk, PySem.W.mg_of X G e⟩
structure ThAll (K : PySem.W.Frag) (mg : Str → Option Value) (C : Addr) : Prop where
  T : ThIn K mg C
  mkC : PySem.W.makesIn K C = true
  kpC : PySem.W.keepIn K (.ref C) = true
  ini : MeAll K C "__init__" "Thing.__init__" 1
  feed : SmAll K C "feed" "Thing.feed" 2
  dice : SmAll K C "dice" "Thing.dice" 3
  table : SmAll K C "table" "Thing.table" 4
  source : SmAll K C "source" "Thing.source" 5
  field : SmAll K C "field" "Thing.field" 6
  flag : SmAll K C "flag" "Thing.flag" 7
  slot : SmAll K C "slot" "Thing.slot" 8
  eq : MeAll K C "__eq__" "Thing.__eq__" 9
  str : MeAll K C "__str__" "Thing.__str__" 10
theorem th_in {K : PySem.W.Frag} {h : Heap} {mg : Str → Option Value} {C : Addr} (X : K.In h) (G : h.Ns mainGlobals mg) (a : PySem.W.nsIn K mainGlobals "Thing" = some (some (.ref C)))
    (pg : PySem.W.plainGet K C Str.empty = true) (hd : PySem.W.hasDictIn K C = true) (po : PySem.W.plainOver K C = true) (sa : PySem.W.findIn K (.ref C) "__setattr__" = some (some (.builtin "object.__setattr__")))
    (nk : PySem.W.findIn K (.ref C) "kind" = some none) (nn : PySem.W.findIn K (.ref C) "name" = some none) (np : PySem.W.findIn K (.ref C) "parts" = some none)
    (rd : PySem.W.readsIn K C (.type "type") = true) (ga : PySem.W.specialIn K (.ref C) "__getattribute__" = some (some (.builtin "type.__getattribute__")))
    (ca : PySem.W.findIn K (.ref C) "__class__" = some (some (.builtin "object.__class__"))) (cn : PySem.W.specialIn K (.builtin "object.__class__") "__get__" = some (some (.builtin "getset_descriptor.__get__"))) (ct : PySem.W.takesIn K (.builtin "object.__class__") = some true) (cm : PySem.W.mroIn K C (.type "object") = some true)
    (mk : PySem.W.makesIn K C = true) (kp : PySem.W.keepIn K (.ref C) = true)
    (ini : MeAll K C "__init__" "Thing.__init__" 1) (m1 : SmAll K C "feed" "Thing.feed" 2) (m2 : SmAll K C "dice" "Thing.dice" 3) (m3 : SmAll K C "table" "Thing.table" 4) (m4 : SmAll K C "source" "Thing.source" 5) (m5 : SmAll K C "field" "Thing.field" 6) (m6 : SmAll K C "flag" "Thing.flag" 7) (m7 : SmAll K C "slot" "Thing.slot" 8)
    (eq : MeAll K C "__eq__" "Thing.__eq__" 9) (str : MeAll K C "__str__" "Thing.__str__" 10) : ∃ C, ThAll K mg C :=
  ⟨C, ⟨PySem.W.mg_of X G a, ⟨pg, hd, po, sa⟩, nk, nn, np, ⟨rd, ga⟩, ca, cn, ct, cm⟩, mk, kp, ini, m1, m2, m3, m4, m5, m6, m7, eq, str⟩
section
variable {P : Program} {w : World} {K : PySem.W.Frag} {mg : Str → Option Value} {base : Heap}
theorem scMs (i : Nat) (h : i = 2 ∨ i = 3 ∨ i = 5 ∨ i = 7 ∨ i = 8) : FnScope ["name"] ["name"] (defScope (me i)) := by
  rcases h with rfl | rfl | rfl | rfl | rfl <;> exact ⟨rfl, rfl, rfl, by decide +kernel, rfl, by decide +kernel, by decide +kernel⟩
theorem th_raw {C f : Addr} {fd : FuncData} {m qual kind : Str} {i : Nat} (F : Fun K m qual (me i) f fd) (G : FnOk P w K mg base CX0 5 f fd ["name"] (spMk K C kind)) (hb : ∀ (kV doc pm : Value) (an : Option Addr) (cdv ct : Value) (us : List Value), us.length = 1 → bindArgs (PySem.W.fnOf m qual (defArgs (me i)) (defBody (me i)) (defScope (me i)) .none kV doc pm an cdv ct) ⟨us, []⟩ = pure ([("name" : Str)].zip us)) : FnR P w K mg base CX0 5 f (spMk K C kind) := by
  have := G.raw (F.binds (ps := ["name"]) hb) .nil
  intro A outer s H us vs Q E hr e0 r h
  exact this A outer s H us vs Q E hr e0 r (by show spMk K C kind (vs ++ []) H Q E; rw [List.append_nil]; exact h)
theorem t_defs {C fN fU : Addr} {fdN fdU : FuncData} {tk : Tok} (T : ThAll K mg C) (GN : FnOk P w K mg base CX0 2 fN fdN ["things"] (spNames0 K)) (mN : mg "check_names" = some (.ref fN)) (kN : PySem.W.keepIn K (.ref fN) = true) (bN : Binds K fdN ["things"] [])
    (GU : FnOk P w K mg base CX0 2 fU fdU ["names"] (spUnlike0 K)) (mU : mg "check_unlike" = some (.ref fU)) (kU : PySem.W.keepIn K (.ref fU) = true) (bU : Binds K fdU ["names"] []) (mlen : mg "len" = none) (mM : mg "MOST_KEYS" = some (.int 4 tk)) : Tdefs P w K mg base C := by
  obtain ⟨fI, fdI, aI, nI, FI⟩ := T.ini
  have bI : Binds K fdI ["self", "kind", "name", "parts"] [] := FI.binds (ps := ["self", "kind", "name", "parts"]) fun _ _ _ _ _ _ us hl => match us, hl with | [_, _, _, _], _ => rfl
  have GI := ok_init (base := base) (P := P) (w := w) T.T FI GN mN kN bN
  have M : Mk K C fI := ⟨T.mkC, aI, nI, T.kpC⟩
  refine ⟨fun m hm => ?_, ?_, ?_⟩
  · simp only [List.mem_cons, List.not_mem_nil, or_false] at hm
    rcases hm with rfl | rfl | rfl | rfl | rfl
    · obtain ⟨p, g, fd, s, F⟩ := T.feed
      exact ⟨p, g, s, th_raw F (ok_mk T.T M F GI bI (scMs 2 (by simp)) (fun _ _ _ _ _ _ => rfl) (.inl rfl) rfl) fun _ _ _ _ _ _ us hl => match us, hl with | [_], _ => rfl⟩
    · obtain ⟨p, g, fd, s, F⟩ := T.dice
      exact ⟨p, g, s, th_raw F (ok_mk T.T M F GI bI (scMs 3 (by simp)) (fun _ _ _ _ _ _ => rfl) (.inl rfl) rfl) fun _ _ _ _ _ _ us hl => match us, hl with | [_], _ => rfl⟩
    · obtain ⟨p, g, fd, s, F⟩ := T.source
      exact ⟨p, g, s, th_raw F (ok_mk T.T M F GI bI (scMs 5 (by simp)) (fun _ _ _ _ _ _ => rfl) (.inl rfl) rfl) fun _ _ _ _ _ _ us hl => match us, hl with | [_], _ => rfl⟩
    · obtain ⟨p, g, fd, s, F⟩ := T.flag
      exact ⟨p, g, s, th_raw F (ok_mk T.T M F GI bI (scMs 7 (by simp)) (fun _ _ _ _ _ _ => rfl) (.inl rfl) rfl) fun _ _ _ _ _ _ us hl => match us, hl with | [_], _ => rfl⟩
    · obtain ⟨p, g, fd, s, F⟩ := T.slot
      exact ⟨p, g, s, th_raw F (ok_mk T.T M F GI bI (scMs 8 (by simp)) (fun _ _ _ _ _ _ => rfl) (.inl rfl) rfl) fun _ _ _ _ _ _ us hl => match us, hl with | [_], _ => rfl⟩
  · obtain ⟨p, g, fd, s, F⟩ := T.field
    refine ⟨p, g, s, ?_⟩
    have := (ok_field (P := P) (w := w) (base := base) T.T M F GI bI).raw (F.binds (ps := ["name", "over"]) fun _ _ _ _ _ _ us hl => match us, hl with | [_, _], _ => rfl) .nil
    intro A outer s H us vs Q E hr e0 r h
    exact this A outer s H us vs Q E hr e0 r (by show spFieldM K C (vs ++ []) H Q E; rw [List.append_nil]; exact h)
  · obtain ⟨p, g, fd, s, F⟩ := T.table
    exact ⟨p, g, s, ok_tableM T.T M F GI bI GU mU kU bU mlen mM⟩
theorem fnR0 {f : Addr} {fd : FuncData} {ps : List Str} {k : Nat} {sp : Sp} (F : FnOk P w K mg base CX0 k f fd ps sp) (b : Binds K fd ps []) : FnR P w K mg base CX0 k f sp := by
  have := F.raw b .nil
  intro A outer s H us vs Q E hr e0 r h
  exact this A outer s H us vs Q E hr e0 r (by show sp (vs ++ []) H Q E; rw [List.append_nil]; exact h)
end
/-! ### deeds -/
/-- the dict PARTS, KINDS .. : what the written part holds of the words -/
structure PartsK (K : PySem.W.Frag) (w : World) (dP : Addr) (word : Str) (kinds : List Str) : Prop where
  has : ∃ r, PySem.W.nsIn K dP word = some (some r)
  ex : ∃ tP, KDct K w dP word (.ref tP) ∧ ∀ H, SqT K H tP (kinds.map V.str)
def longest : Int := 10 ^ 30
/-- what may stand where PARTS has this part -/
inductive GoodArg : Str → PyData → Prop where
  | length {n : Int} (h0 : 0 ≤ n) (h1 : n ≤ longest) : GoodArg "length" (.int n)
  | keys {xs : List Str} (h : ∀ x ∈ xs, IsWord x) (hl : xs.length ≤ 1000) : GoodArg "keys" (.tuple (xs.map .str))
  | name {part x : Str} (h1 : part ≠ "length") (h2 : part ≠ "keys") (h : IsWord x) : GoodArg part (.str x)
def isIntD : PyData → Bool
  | .int _ => true
  | _ => false
def spIsInt (K : PySem.W.Frag) : Sp := fun vs H Q _ => ∃ (v : V) (d : PyData), vs = [v] ∧ Dp K H v d ∧ Q (.bl (isIntD d)) H
def spIsLength : Sp := fun vs H Q _ => ∃ n : Int, vs = [.int n] ∧ 0 ≤ n ∧ n ≤ longest ∧ Q (.bl true) H
def spIsPart (K : PySem.W.Frag) : Sp := fun vs H Q _ => ∃ (part : Str) (v : V) (d : PyData), vs = [.str part, v] ∧ Dp K H v d ∧ GoodArg part d ∧ ∀ H', Same H H' → Q (.bl true) H'
/-- is_deed(deed): a deed -/
def spIsDeed (K : PySem.W.Frag) (w : World) (dP : Addr) : Sp := fun vs H Q _ => ∃ (a : Addr) (word : Str) (args : List V) (ds : List PyData) (kinds : List Str), vs = [.ref a] ∧ SqT K H a (.str word :: args) ∧ DpAll K H args ds ∧ PartsK K w dP word kinds ∧ args.length ≤ 100 ∧
  Paired GoodArg kinds ds ∧ ∀ H', Same H H' → Q (.bl true) H'
theorem bools_true : ∀ bs : List Bool, (∀ b ∈ bs, b = true) → bs.all id = true := fun bs h => List.all_eq_true.mpr fun b hb => h b hb
theorem map_true (n : Nat) : (List.replicate n true).all id = true := bools_true _ fun b hb => (List.mem_replicate.mp hb).2
section
variable {P : Program} {w : World} {K : PySem.W.Frag} {mg : Str → Option Value} {base : Heap}
theorem scII : FnScope ["thing"] ["thing"] (defScope sIsInt) := ⟨rfl, rfl, rfl, by decide +kernel, rfl, by decide +kernel, by decide +kernel⟩
theorem ok_isint {f : Addr} {fd : FuncData} {k : Nat} (F : Fun K "is_int" "is_int" sIsInt f fd) (B : Bts mg) : FnOk P w K mg base CX0 (k + 1) f fd ["thing"] (spIsInt K) := by
  refine F.ok scII (fun vs H Q E h => ?_) (fun cdv A outer s H vs Q E hr h => ?_)
  · obtain ⟨v, d, rfl, _⟩ := h
    rfl
  · obtain ⟨v, d, rfl, hv, kk⟩ := h
    refine ⟨_, pss_one (ps_ret (pe_and (pe_callB call_isi (by rfl) B.isinstance (by decide +kernel) (pa_cons (pv 0) (pa_cons (pe_bltn (v := .ty "int") (by rfl) B.int (by decide +kernel) rfl) pa_nil)))
      (pe_one (pe_not (pe_callB call_isi (by rfl) B.isinstance (by decide +kernel) (pa_cons (pv 0) (pa_cons (pe_bltn (v := .ty "bool") (by rfl) B.bool (by decide +kernel) rfl) pa_nil))))))), ?_⟩
    obtain ⟨a, b, h1, h2, h3⟩ : ∃ a b, kitB (tyName d) "int" = some a ∧ (a = true → kitB (tyName d) "bool" = some b) ∧ isIntD d = (a && !b) := by
      cases d with
      | none => exact ⟨false, false, (by decide +kernel : kitB "NoneType" "int" = some false), (fun h => nomatch h), rfl⟩
      | bool b => exact ⟨true, true, (by decide +kernel : kitB "bool" "int" = some true), (fun _ => (by decide +kernel : kitB "bool" "bool" = some true)), rfl⟩
      | int i => exact ⟨true, false, (by decide +kernel : kitB "int" "int" = some true), (fun _ => (by decide +kernel : kitB "int" "bool" = some false)), rfl⟩
      | str z => exact ⟨false, false, (by decide +kernel : kitB "str" "int" = some false), (fun h => nomatch h), rfl⟩
      | list l => exact ⟨false, false, (by decide +kernel : kitB "list" "int" = some false), (fun h => nomatch h), rfl⟩
      | tuple l => exact ⟨false, false, (by decide +kernel : kitB "tuple" "int" = some false), (fun h => nomatch h), rfl⟩
      | dict l => cases hv
    refine ⟨_, rfl, _, _, _, _, a, rfl, .ty _, ty_of hv, kit_ty h1, _, rfl, ?_⟩
    cases a with
    | false =>
      refine iteF ?_
      rw [Bool.false_and] at h3
      show Q (.bl false) H
      rw [← h3]; exact kk
    | true =>
      refine iteT ⟨_, rfl, _, _, _, _, b, rfl, .ty _, ty_of hv, kit_ty (h2 rfl), _, rfl, ?_⟩
      rw [Bool.true_and] at h3
      show Q (.bl (!b)) H
      rw [← h3]; exact kk
theorem scIL : FnScope ["given"] ["given"] (defScope sIsLength) := ⟨rfl, rfl, rfl, by decide +kernel, rfl, by decide +kernel, by decide +kernel⟩
theorem ok_islength {f fI : Addr} {fd fdI : FuncData} {tk : Tok} (F : Fun K "is_length" "is_length" sIsLength f fd) (GI : FnOk P w K mg base CX0 1 fI fdI ["thing"] (spIsInt K)) (mI : mg "is_int" = some (.ref fI)) (kI : PySem.W.keepIn K (.ref fI) = true) (bI : Binds K fdI ["thing"] [])
    (mL : mg "LONGEST_ROW" = some (.int longest tk)) : FnOk P w K mg base CX0 2 f fd ["given"] spIsLength := by
  refine F.ok scIL (fun vs H Q E h => ?_) (fun cdv A outer s H vs Q E hr h => ?_)
  · obtain ⟨n, rfl, _⟩ := h
    rfl
  · obtain ⟨n, rfl, h0, h1, kk⟩ := h
    refine ⟨_, pss_one (ps_ret (pe_and (pe_call GI hr (by rfl) mI kI bI .nil pass0 (pa_cons (pv 0) pa_nil)) (pe_one (pe_chain op_le op_le pe_int (pv 0) (pe_glob (v := .int longest) rfl mL ⟨tk, rfl⟩))))), ?_⟩
    refine ⟨_, rfl, .int n, .int n, rfl, .int n, _, rfl, iteT ?_⟩
    refine ⟨_, rfl, 0, n, rfl, rfl, _, rfl, ?_⟩
    rw [decide_eq_true h0]
    refine iteT ⟨n, longest, rfl, rfl, ?_⟩
    show Q (V.bl (decide (n ≤ longest))) H
    rw [decide_eq_true h1]
    exact kk
theorem scIP : FnScope ["part", "given", "key"] ["part", "given"] (defScope sIsPart) := ⟨rfl, rfl, rfl, by decide +kernel, rfl, by decide +kernel, by decide +kernel⟩
theorem ok_ispart {f fL fN : Addr} {fd fdL fdN : FuncData} (F : Fun K "_is_part" "_is_part" sIsPart f fd) (B : Bts mg) (mA : mg "all" = none) (GL : FnOk P w K mg base CX0 2 fL fdL ["given"] spIsLength) (mL : mg "is_length" = some (.ref fL)) (kL : PySem.W.keepIn K (.ref fL) = true) (bL : Binds K fdL ["given"] [])
    (GN : FnOk P w K mg base CX0 1 fN fdN ["thing"] (spIsName K)) (mN : mg "is_name" = some (.ref fN)) (kN : PySem.W.keepIn K (.ref fN) = true) (bN : Binds K fdN ["thing"] []) : FnOk P w K mg base CX0 3 f fd ["part", "given"] (spIsPart K) := by
  refine F.ok scIP (fun vs H Q E h => ?_) (fun cdv A outer s H vs Q E hr h => ?_)
  · obtain ⟨part, v, d, rfl, _⟩ := h
    rfl
  · obtain ⟨part, v, d, rfl, hv, hg, kk⟩ := h
    have hr1 : Room 1 _ := hr.mono (by decide)
    refine ⟨_, pss_cons (ps_if (pt_cmpR op_eq (pv 0) pe_str (nomark _)) (pss_one (ps_ret (pe_call GL hr (by rfl) mL kL bL .nil pass0 (pa_cons (pv 1) pa_nil)))) pss_nil)
      (pss_cons (ps_if (pt_cmpR op_eq (pv 0) pe_str (nomark _)) (pss_one (ps_ret (pe_and (pe_callB call_isi (by rfl) B.isinstance (by decide +kernel) (pa_cons (pv 1) (pa_cons (pe_bltn (v := .ty "tuple") (by rfl) B.tuple (by decide +kernel) rfl) pa_nil)))
        (pe_one (pe_callB (cr_all rfl) (by rfl) mA (by decide +kernel) (pa_cons (pe_lc (own := [("key", 2)]) (g := gName 2) (tt := tYes) rfl scIP.nd (pi_tup (pv 1)) (blkOk_by (N := ["part", "given", "key"]) (sc := defScope sIsPart) (by decide +kernel))
          (fun _ _ _ _ _ => pg_name (i := 2) scIP.nd rfl (.inl rfl)) (fun _ _ _ _ _ => pts_nil) (fun _ _ _ _ _ => pe_call GN hr1 (by rfl) mN kN bN .nil pass0 (pa_cons (pv 2) pa_nil))) pa_nil)))))) pss_nil)
      (pss_one (ps_ret (pe_call GN hr1 (by rfl) mN kN bN .nil pass0 (pa_cons (pv 1) pa_nil))))), ?_⟩
    cases hg with
    | @length n h0 h1 =>
      cases hv
      refine ⟨_, rfl, rfl, _, rfl, ?_⟩
      refine iteT ⟨_, rfl, n, rfl, h0, h1, kk H (Same.refl H)⟩
    | @keys xs hx hl =>
      obtain ⟨t, ys, rfl, ht, hys⟩ := dp_tup hv
      refine ⟨_, rfl, rfl, _, rfl, iteF ⟨_, rfl, rfl, _, rfl, iteT ?_⟩⟩
      refine ⟨_, rfl, _, _, _, _, true, rfl, .ty _, ty_of hv, kit_ty (by decide +kernel : kitB "tuple" "tuple" = some true), _, rfl, iteT ?_⟩
      refine ⟨_, rfl, t, rfl, ⟨_, ht⟩, fun D nD => ?_⟩
      have ly : ys.length = xs.length := by rw [dpAll_len hys, List.length_map]
      refine lc_tup (K := K) (a := t) (xs := ys) (fun i H2 => ∃ acc : List Bool, H2 D = some (.lst (acc.map V.bl)) ∧ acc.length = i ∧ (∀ b ∈ acc, b = true) ∧ Same H H2)
        ⟨[], upd_same, rfl, fun _ h => (by cases h), same_new nD⟩ (fun i H2 _ ⟨_, _, _, _, s⟩ => Same.seqT s ht) (fun i y H2 hy hI => ?_) (fun H2 hI => ?_)
      · obtain ⟨acc, eD, el, ha, s2⟩ := hI
        obtain ⟨d, ed, hd⟩ := dpAll_at hys hy
        rw [List.getElem?_map] at ed
        obtain ⟨x, ex, rfl⟩ := Option.map_eq_some_iff.mp ed
        have hwx := hx x (List.mem_of_getElem? ex)
        have hi : i < xs.length := (List.getElem?_eq_some_iff.mp ex).1
        cases hd
        refine ⟨rfl, ?_⟩
        refine ⟨_, rfl, .str x, .str x, rfl, .str x, fun z e => by cases e; have := hwx.2.1; omega, ?_⟩
        refine ⟨acc.map V.bl, eD, small1000 (by rw [List.length_map]; omega), acc ++ [nmD (.str x)], by rw [upd_same, List.map_append]; rfl, by rw [List.length_append, el]; rfl, fun b hb => ?_, fun b o e => ?_⟩
        · rcases List.mem_append.mp hb with hb | hb
          · exact ha b hb
          · rw [List.mem_singleton.mp hb]; exact hwx.nm
        · rw [upd_ne (ne_of_none e nD)]; exact s2 b o e
      · obtain ⟨acc, eD, el, ha, s2⟩ := hI
        refine ⟨D, acc, rfl, SqL.of eD, ?_⟩
        rw [bools_true acc ha]
        exact kk H2 s2
    | @name _ x h1 h2 hx =>
      cases hv
      refine ⟨_, rfl, rfl, _, rfl, ?_⟩
      rw [decide_eq_false fun e => h1 (V.str.inj e)]
      refine iteF ⟨_, rfl, rfl, _, rfl, ?_⟩
      rw [decide_eq_false fun e => h2 (V.str.inj e)]
      refine iteF ⟨_, rfl, .str x, .str x, rfl, .str x, fun z e => by cases e; have := hx.2.1; omega, ?_⟩
      have e : nmD (.str x) = true := hx.nm
      rw [e]
      exact kk H (Same.refl H)
end
theorem walk_zipT {K : PySem.W.Frag} {a b : Addr} {xs ys : List V} {n : Nat} (hn : n = min xs.length ys.length) : Walk (RZ.ItzT K a b) n (fun H => SqT K H a xs ∧ SqT K H b ys) (YPair (fun i => xs[i]?) (fun i => ys[i]?)) := by
  subst hn
  refine ⟨fun i _ hi q => ?_, fun _ q => ⟨xs, ys, q.1, q.2, by omega⟩, fun i H v H' _ q y => ?_⟩
  · have h1 : i < xs.length := by omega
    have h2 : i < ys.length := by omega
    exact ⟨xs, ys, xs[i], ys[i], q.1, q.2, by simp [h1], by simp [h2]⟩
  · obtain ⟨T, x, z, h1, h2, h3, h4, h5⟩ := y
    exact ⟨T, x, z, h1, h2, h3, h4 xs q.1, h5 ys q.2⟩
theorem paired_at {α β : Type} {R : α → β → Prop} : ∀ {xs : List α} {ys : List β} {i : Nat} {x : α} {y : β}, Paired R xs ys → xs[i]? = some x → ys[i]? = some y → R x y
  | _, _, _, _, _, .nil, e, _ => by simp at e
  | _, _, 0, _, _, .cons h _, e, e' => by
    obtain rfl := Option.some.inj e
    obtain rfl := Option.some.inj e'
    exact h
  | _, _, i + 1, _, _, .cons _ t, e, e' => paired_at (i := i) t e e'
theorem paired_len {α β : Type} {R : α → β → Prop} : ∀ {xs : List α} {ys : List β}, Paired R xs ys → xs.length = ys.length
  | _, _, .nil => rfl
  | _, _, .cons _ t => by rw [List.length_cons, List.length_cons, paired_len t]
section
variable {P : Program} {w : World} {K : PySem.W.Frag} {mg : Str → Option Value} {base : Heap}
theorem scID : FnScope ["deed", "parts", "part", "given"] ["deed"] (defScope sIsDeed) := ⟨rfl, rfl, rfl, by decide +kernel, rfl, by decide +kernel, by decide +kernel⟩
theorem ok_isdeed {f fP dP : Addr} {fd fdP : FuncData} {es : Array DictEntry} {n : Nat} (F : Fun K "is_deed" "is_deed" sIsDeed f fd) (B : Bts mg) (mA : mg "all" = none) (mZ : mg "zip" = none) (D : KDict K w dP es n) (mP : mg "PARTS" = some (.ref dP)) (GP : FnOk P w K mg base CX0 3 fP fdP ["part", "given"] (spIsPart K)) (mIP : mg "_is_part" = some (.ref fP)) (kP : PySem.W.keepIn K (.ref fP) = true) (bP : Binds K fdP ["part", "given"] []) :
    FnOk P w K mg base CX0 4 f fd ["deed"] (spIsDeed K w dP) := by
  refine F.ok scID (fun vs H Q E h => ?_) (fun cdv A outer s H vs Q E hr h => ?_)
  · obtain ⟨a, word, args, ds, kinds, rfl, _⟩ := h
    rfl
  · obtain ⟨a, word, args, ds, kinds, rfl, ht, hargs, hp, hl, hg, kk⟩ := h
    refine ⟨_, pss_cons (ps_if (PW.pt (pw_or (pt_not (pt_val (pe_callB call_isi (by rfl) B.isinstance (by decide +kernel) (pa_cons (pv 0) (pa_cons (pe_bltn (v := .ty "tuple") (by rfl) B.tuple (by decide +kernel) rfl) pa_nil))))) (pw_or1 (pt_not (pt_truth (pv 0) (by intro _; rfl))))))
        (pss_one (ps_ret pe_bl)) pss_nil)
      (pss_cons (ps_if (PW.pt (pw_or (pt_not (pt_val (pe_callB call_isi (by rfl) B.isinstance (by decide +kernel) (pa_cons (pe_ix ix_tup (pv 0) pe_int (fun _ _ => rfl)) (pa_cons (pe_bltn (v := .ty "str") (by rfl) B.str (by decide +kernel) rfl) pa_nil)))))
          (pw_or1 (pt_cmpR (op_notIn_kd D) (pe_ix ix_tup (pv 0) pe_int (fun _ _ => rfl)) (pe_glob (v := .ref dP) rfl mP rfl) (by rfl)))))
        (pss_one (ps_ret pe_bl)) pss_nil)
      (pss_cons (ps_set (i := 1) scID.nd rfl (.inl rfl) (pe_ix ix_kdict (pe_glob (v := .ref dP) rfl mP rfl) (pe_ix ix_tup (pv 0) pe_int (fun _ _ => rfl)) (fun _ _ => rfl)))
      (pss_cons (ps_if (pt_cmpR op_ne (pe_callB call_len_seq (by rfl) B.len PySem.boot_len (pa_cons (pv 0) pa_nil)) (pe_op op_add (pe_callB call_len_seq (by rfl) B.len PySem.boot_len (pa_cons (pv 1) pa_nil)) pe_int) (nomark _)) (pss_one (ps_ret pe_bl)) pss_nil)
      (pss_one (ps_ret (pe_callB (cr_all rfl) (by rfl) mA (by decide +kernel) (pa_cons (pe_lc (own := [("part", 2), ("given", 3)]) (g := gTup K 2 (gCons (gName 2) (gCons (gName 3) gNil))) (tt := tYes) rfl scID.nd
          (RZ.pi_zipA (by rfl) mZ (pa_cons (pv 1) (pa_cons (pe_slice sl_tup (pv 0) (po_some pe_int) po_none) pa_nil))) (blkOk_by (N := ["deed", "parts", "part", "given"]) (sc := defScope sIsDeed) (by decide +kernel))
          (fun _ _ _ _ _ => pg_tup rfl (pgs_cons (pg_name (i := 2) scID.nd rfl (.inl rfl)) (pgs_cons (pg_name (i := 3) scID.nd rfl (.inl rfl)) pgs_nil))) (fun _ _ _ _ _ => pts_nil)
          (fun _ _ _ _ _ => pe_call GP hr (by rfl) mIP kP bP .nil pass0 (pa_cons (pv 2) (pa_cons (pv 3) pa_nil)))) pa_nil))))))), ?_⟩
    have hv : Dp K H (.ref a) (.tuple (.str word :: ds)) := .tup ht (.cons (.str word) hargs)
    obtain ⟨r, hr0⟩ := hp.has
    obtain ⟨tP, hk, hT⟩ := hp.ex
    have lk : kinds.length = args.length := by rw [paired_len hg, dpAll_len hargs]
    refine ⟨_, rfl, _, _, _, _, true, rfl, .ty _, ty_of hv, kit_ty (by decide +kernel : kitB "tuple" "tuple" = some true), _, rfl, iteF ?_⟩
    refine ⟨_, rfl, true, .inr (.inl ⟨_, ht, rfl⟩), iteF ?_⟩
    have h0 : atI (V.str word :: args) 0 = some (.str word) := atI_nat (j := 0) rfl
    refine ⟨_, rfl, a, _, 0, _, rfl, rfl, ht, h0, _, _, _, _, true, rfl, .ty _, TyX.base (TyOf.str word), kit_ty (by decide +kernel), _, rfl, iteF ?_⟩
    refine ⟨_, rfl, a, _, 0, _, rfl, rfl, ht, h0, word, some r, rfl, rfl, hr0, _, rfl, iteF ?_⟩
    refine ⟨_, rfl, a, _, 0, _, rfl, rfl, ht, h0, dP, word, .ref tP, rfl, rfl, hk, ?_⟩
    refine ⟨_, rfl, a, _, rfl, .inr ht, _, rfl, tP, _, rfl, .inr (hT H), _, _, rfl, rfl, rfl, _, rfl, ?_⟩
    have e1 : ((V.str word :: args).length : Int) = (((kinds.map V.str).length : Nat) : Int) + 1 := by rw [List.length_map, List.length_cons, lk]; omega
    rw [e1]
    refine ite2 (fun hne => by simp at hne) (fun _ => ?_)
    refine ⟨_, rfl, _, rfl, 1, rfl, a, _, rfl, ht, ?_, fun c nc => ?_⟩
    · rintro ⟨h2, _⟩
      rw [show HT.sIx (V.str word :: args).length 0 (some 1) = min 1 (V.str word :: args).length from HT.sIx_nat _ 0 1, List.length_cons] at h2
      omega
    · rw [cut_tail]
      have sc := same_new (o := .tup args) nc
      have hT1 := hT (upd H c (.tup args))
      have hc1 : SqT K (upd H c (.tup args)) c args := SqT.of upd_same
      have ha1 := dpAll_same sc _ _ hargs
      generalize upd H c (.tup args) = H1 at *
      refine ⟨tP, c, _, _, rfl, .inr ⟨hT1, hc1, fun D nD => ?_⟩⟩
      have ly : (kinds.map V.str).length = kinds.length := List.length_map _
      refine lc_it (walk_zipT (n := args.length) (by rw [List.length_map, lk, Nat.min_self])) (fun i H2 => ∃ acc : List Bool, H2 D = some (.lst (acc.map V.bl)) ∧ acc.length = i ∧ (∀ b ∈ acc, b = true) ∧ Same H1 H2)
        ⟨[], upd_same, rfl, fun _ h => (by cases h), same_new nD⟩ (fun i H2 _ ⟨_, _, _, _, s⟩ => ⟨hT H2, Same.seqT s hc1⟩) (fun i x H2 H3 hi hI hy => ?_) (fun H2 hI => ?_)
      · obtain ⟨acc, eD, el, hac, s2⟩ := hI
        obtain ⟨T, x1, x2, rfl, nT, rfl, hx1, hx2⟩ := hy
        replace hx1 : (kinds.map V.str)[i]? = some x1 := hx1
        replace hx2 : args[i]? = some x2 := hx2
        rw [List.getElem?_map] at hx1
        obtain ⟨part, ep, rfl⟩ := Option.map_eq_some_iff.mp hx1
        have s3 := s2.trans (same_new (o := .tup [.str part, x2]) nT)
        obtain ⟨d, ed, hd⟩ := dpAll_at (dpAll_same s3 _ _ ha1) hx2
        have hga := paired_at hg ep ed
        have eT : (upd H2 T (.tup [.str part, x2])) T = some (.tup [.str part, x2]) := upd_same
        have eD3 : (upd H2 T (.tup [.str part, x2])) D = some (.lst (acc.map V.bl)) := same_new nT _ _ eD
        generalize upd H2 T (.tup [.str part, x2]) = H3 at *
        refine ⟨T, _, rfl, SqT.of eT, rfl, .str part, [x2], rfl, x2, [], rfl, rfl, rfl, ?_⟩
        refine ⟨_, rfl, _, rfl, part, x2, d, rfl, hd, hga, fun H4 s4 => ?_⟩
        refine ⟨acc.map V.bl, s4 _ _ eD3, small1000 (by rw [List.length_map]; omega), acc ++ [true], by rw [upd_same, List.map_append]; rfl, by rw [List.length_append, el]; rfl, fun b hb => ?_, fun b o e => ?_⟩
        · rcases List.mem_append.mp hb with hb | hb
          · exact hac b hb
          · exact List.mem_singleton.mp hb
        · rw [upd_ne (ne_of_none e nD)]; exact s4 _ _ (s3 b o e)
      · obtain ⟨acc, eD, el, hac, s2⟩ := hI
        refine ⟨D, acc, rfl, SqL.of eD, ?_⟩
        rw [bools_true acc hac]
        exact kk H2 (sc.trans s2)
end
/-! ### check_deed without a fault -/
def kindsS : List Str := ["feed", "dice", "table", "source", "field", "flag", "slot"]
structure KindsK (K : PySem.W.Frag) (C : Addr) : Prop where
  ex : ∃ kt, ClX.CVal K C (.type "type") "KINDS" (.ref kt) (.ref kt) ∧ ∀ H, SqT K H kt (kindsS.map V.str)
/-- the things by their names: kind and parts -/
abbrev Ths := List (Str × Str × List Str)
inductive ThL (K : PySem.W.Frag) (H : Hp) (C : Addr) : List (Str × V) → Ths → Prop where
  | nil : ThL K H C [] []
  | cons {n kind : Str} {parts : List Str} {a : Addr} {l : List (Str × V)} {th : Ths} (h : ThingAt K H C a kind n parts) (t : ThL K H C l th) : ThL K H C ((n, .ref a) :: l) ((n, kind, parts) :: th)
theorem ThL.same {K : PySem.W.Frag} {H H' : Hp} {C : Addr} (s : Same H H') : ∀ {l : List (Str × V)} {th : Ths}, ThL K H C l th → ThL K H' C l th
  | _, _, .nil => .nil
  | _, _, .cons h t => .cons (h.same s) (t.same s)
theorem ThL.at {K : PySem.W.Frag} {H : Hp} {C : Addr} {n kind : Str} {parts : List Str} : ∀ {l : List (Str × V)} {th : Ths}, ThL K H C l th → look th n = some (kind, parts) → ∃ a, look l n = some (.ref a) ∧ ThingAt K H C a kind n parts
  | _, _, .nil, e => by cases e
  | _, _, .cons (n := m) (kind := k) (parts := p) (a := a) h t, e => by
    by_cases q : m = n
    · rw [look_pos (p := (m, k, p)) q] at e
      cases Option.some.inj e
      subst q
      exact ⟨a, look_pos (p := (m, V.ref a)) rfl, h⟩
    · rw [look_neg (p := (m, k, p)) q] at e
      obtain ⟨b, e', h'⟩ := t.at e
      exact ⟨b, by rw [look_neg (p := (m, V.ref a)) q]; exact e', h'⟩
theorem ThL.len {K : PySem.W.Frag} {H : Hp} {C : Addr} : ∀ {l : List (Str × V)} {th : Ths}, ThL K H C l th → l.length = th.length
  | _, _, .nil => rfl
  | _, _, .cons _ t => by rw [List.length_cons, List.length_cons, t.len]
/-- a part of a deed that check_deed lets pass; x0: the deed's first name -/
inductive CheckArg (th : Ths) (x0 : PyData) : Str → PyData → Prop where
  | key {k x kind : Str} {parts : List Str} (e0 : x0 = .str x) (e : look th x = some (kind, parts)) (h : k ∈ parts) : CheckArg th x0 "key" (.str k)
  | thing {x kind : Str} {parts : List Str} (e : look th x = some (kind, parts)) : CheckArg th x0 "thing" (.str x)
  | kind {x part : Str} {parts : List Str} (m : part ∈ kindsS) (e : look th x = some (part, parts)) : CheckArg th x0 part (.str x)
  | other {part : Str} {d : PyData} (h1 : part ≠ "key") (h2 : part ≠ "thing") (h3 : part ∉ kindsS) : CheckArg th x0 part d
def spCheck (K : PySem.W.Frag) (w : World) (C dP : Addr) : Sp := fun vs H Q _ => ∃ (bn a : Addr) (tl : List (Str × V)) (th : Ths) (word : Str) (args : List V) (ds : List PyData) (kinds : List Str), vs = [.ref bn, .ref a] ∧ H bn = some (.dK (kvs tl)) ∧ ThL K H C tl th ∧
  SqT K H a (.str word :: args) ∧ DpAll K H args ds ∧ PartsK K w dP word kinds ∧ Paired (CheckArg th (ds.headD .none)) kinds ds ∧ ∀ H', Same H H' → Q .non H'
theorem inV_str {x : Str} {xs : List Str} : inV (.str x) (xs.map V.str) = decide (x ∈ xs) := by
  unfold inV
  by_cases h : x ∈ xs
  · rw [decide_eq_true h, List.any_eq_true]
    exact ⟨.str x, List.mem_map.mpr ⟨x, h, rfl⟩, by show (x == x) = true; simp⟩
  · rw [decide_eq_false h, List.any_eq_false]
    intro v hv
    obtain ⟨y, hy, rfl⟩ := List.mem_map.mp hv
    intro q
    have q' : y = x := beq_iff_eq.mp q
    exact h (q' ▸ hy)
theorem flat_strs (xs : List Str) : (xs.map V.str).all flatV = true := by
  rw [List.all_eq_true]
  intro v hv
  obtain ⟨y, _, rfl⟩ := List.mem_map.mp hv
  rfl
section
variable {P : Program} {w : World} {K : PySem.W.Frag} {mg : Str → Option Value} {base : Heap}
theorem scCD : FnScope ["by_name", "deed", "part", "given"] ["by_name", "deed"] (defScope sCheckDeed) := ⟨rfl, rfl, rfl, by decide +kernel, rfl, by decide +kernel, by decide +kernel⟩
theorem ok_check {f C dP : Addr} {fd : FuncData} (F : Fun K "check_deed" "check_deed" sCheckDeed f fd) (mZ : mg "zip" = none) (mP : mg "PARTS" = some (.ref dP)) (T : ThIn K mg C) (G : KindsK K C) :
    FnOk P w K mg base CX0 1 f fd ["by_name", "deed"] (spCheck K w C dP) := by
  refine F.ok scCD (fun vs H Q E h => ?_) (fun cdv A outer s H vs Q E hr h => ?_)
  · obtain ⟨bn, a, tl, th, word, args, ds, kinds, rfl, _⟩ := h
    rfl
  · obtain ⟨bn, a, tl, th, word, args, ds, kinds, rfl, hbn, hth, ht, hargs, hp, hg, kk⟩ := h
    have hu := hu_of hr
    obtain ⟨tP, hk, hT⟩ := hp.ex
    obtain ⟨kt, hcv, hks⟩ := G.ex
    refine ⟨_, pss_one (ps_for PassesOwn.never rfl (RZ.pi_zipA (by rfl) mZ (pa_cons (pe_ix ix_kdict (pe_glob (v := .ref dP) rfl mP rfl) (pe_ix ix_tup (pv 1) pe_int (fun _ _ => rfl)) (fun _ _ => rfl)) (pa_cons (pe_slice sl_tup (pv 1) (po_some pe_int) po_none) pa_nil)))
        (pg_tup rfl (pgs_cons (pg_name (i := 2) scCD.nd rfl (.inl rfl)) (pgs_cons (pg_name (i := 3) scCD.nd rfl (.inl rfl)) pgs_nil)))
      (pss_cons (ps_if (PW.pt (pw_and (pt_cmpR op_eq (pv 2) pe_str (nomark _)) (pw_and1 (pt_cmpR op_notIn_seq (pv 3) (pe_fld (pe_dget hu (pv 0) (pe_ix ix_tup (pv 1) pe_int (fun _ _ => rfl)) (fun _ _ => rfl)) rfl) (by rfl))))) (pss_one ps_never) pss_nil)
      (pss_cons (ps_if (PW.pt (pw_and (pt_cmpR op_eq (pv 2) pe_str (nomark _)) (pw_and1 (pt_cmp (pc_dnotin hu (pv 3) (pv 0)))))) (pss_one ps_never) pss_nil)
      (pss_one (ps_if (PW.pt (pw_and (pt_cmpR op_in_seq (pv 2) (ClX.pe_cval (pe_glob (v := .ref C) rfl T.m rfl) rfl) (by rfl)) (pw_and1 (PW.pt (pw_or (pt_cmp (pc_dnotin hu (pv 3) (pv 0))) (pw_or1 (pt_cmpR op_ne (pe_fld (pe_dget hu (pv 0) (pv 3) (fun _ _ => rfl)) rfl) (pv 2) (nomark _))))))))
        (pss_one ps_never) pss_nil))))), ?_⟩
    have lk : kinds.length = args.length := by rw [paired_len hg, dpAll_len hargs]
    have h0 : atI (V.str word :: args) 0 = some (.str word) := atI_nat (j := 0) rfl
    refine ⟨_, rfl, a, _, 0, _, rfl, rfl, ht, h0, dP, word, .ref tP, rfl, rfl, hk, ?_⟩
    refine ⟨_, rfl, 1, rfl, a, _, rfl, ht, ?_, fun c nc => ?_⟩
    · rintro ⟨h2, _⟩
      rw [show HT.sIx (V.str word :: args).length 0 (some 1) = min 1 (V.str word :: args).length from HT.sIx_nat _ 0 1, List.length_cons] at h2
      omega
    rw [cut_tail]
    have sc := same_new (o := .tup args) nc
    have hc1 : SqT K (upd H c (.tup args)) c args := SqT.of upd_same
    have ha1 := dpAll_same sc _ _ hargs
    have hth1 := hth.same sc
    have hbn1 := sc _ _ hbn
    have ht1 := Same.seqT sc ht
    generalize upd H c (.tup args) = H1 at *
    refine ⟨tP, c, _, _, rfl, .inr ⟨hT H1, hc1, ?_⟩⟩
    refine for_it (walk_zipT (n := args.length) (by rw [List.length_map, lk, Nat.min_self])) (fun i σ H2 => ∃ y2 y3 : Option V, σ = [some (.ref bn), some (.ref a), y2, y3] ∧ Same H1 H2)
      ⟨none, none, rfl, Same.refl _⟩ (fun i σ H2 _ ⟨_, _, _, s⟩ => ⟨hT H2, Same.seqT s hc1⟩) (fun i x σ H2 H3 hi hI hy => ?_) (fun σ H2 hI => ?_)
    · obtain ⟨y2, y3, rfl, s2⟩ := hI
      obtain ⟨T', x1, x2, rfl, nT, rfl, hx1, hx2⟩ := hy
      replace hx1 : (kinds.map V.str)[i]? = some x1 := hx1
      replace hx2 : args[i]? = some x2 := hx2
      rw [List.getElem?_map] at hx1
      obtain ⟨part, ep, rfl⟩ := Option.map_eq_some_iff.mp hx1
      have s3 := s2.trans (same_new (o := .tup [.str part, x2]) nT)
      obtain ⟨d, ed, hd⟩ := dpAll_at (dpAll_same s3 _ _ ha1) hx2
      have hga := paired_at hg ep ed
      have eT : (upd H2 T' (.tup [.str part, x2])) T' = some (.tup [.str part, x2]) := upd_same
      have hth3 := hth1.same s3
      have hbn3 := s3 _ _ hbn1
      have ht3 := Same.seqT s3 ht1
      have hargs3 := dpAll_same s3 _ _ ha1
      generalize upd H2 T' (.tup [.str part, x2]) = H3 at *
      refine ⟨T', _, rfl, SqT.of eT, rfl, .str part, [x2], rfl, x2, [], rfl, rfl, ?_⟩
      have hget : ∀ {x kind : Str} {parts : List Str}, look th x = some (kind, parts) → ∃ b, ThingAt K H3 C b kind x parts ∧ DGet H3 bn (.str x) (some (.ref b)) := fun {x kind parts} e => by
        obtain ⟨b, e1, e2⟩ := hth3.at e
        refine ⟨b, e2, ?_⟩
        have := DGet.k (k := Sum.inr x) hbn3
        rw [valV_kvs, e1] at this
        exact this
      cases hga with
      | @key k x kind parts e0 e hm =>
        obtain ⟨b, ⟨dx, fs, t, b1, b2, b3, b4, b5⟩, g⟩ := hget e
        cases hd
        have hx0 : ∃ r, args = V.str x :: r := by
          cases ds with
          | nil => cases (show PyData.none = PyData.str x from e0)
          | cons d' r' =>
            obtain ⟨v', r, rfl, h', _⟩ := dpAll_cons hargs3
            have e' : d' = PyData.str x := e0
            subst e'
            cases h'
            exact ⟨r, rfl⟩
        obtain ⟨r, rfl⟩ := hx0
        refine ⟨_, rfl, rfl, _, rfl, iteT ?_⟩
        refine ⟨_, rfl, _, rfl, _, rfl, a, _, 1, _, rfl, rfl, ht3, atI_nat (j := 1) rfl, bn, _, rfl, g, b, C, dx, fs, _, rfl, b1, T.cls, T.np, b4, t, _, rfl, .inr b5, rfl, flat_strs parts, _, rfl, ?_⟩
        rw [inV_str, decide_eq_true hm]
        refine iteF ⟨_, rfl, rfl, _, rfl, iteF ?_⟩
        refine ⟨_, rfl, C, _, _, _, rfl, T.rd, hcv, kt, _, rfl, .inr (hks H3), rfl, flat_strs kindsS, _, rfl, ?_⟩
        rw [inV_str, show decide (("key" : Str) ∈ kindsS) = false by decide +kernel]
        exact iteF ⟨_, _, rfl, s3⟩
      | @thing x kind parts e =>
        obtain ⟨b, hb, g⟩ := hget e
        cases hd
        refine ⟨_, rfl, rfl, _, rfl, iteF ⟨_, rfl, rfl, _, rfl, iteT ?_⟩⟩
        refine ⟨_, rfl, _, rfl, bn, _, rfl, g, _, rfl, iteF ?_⟩
        refine ⟨_, rfl, C, _, _, _, rfl, T.rd, hcv, kt, _, rfl, .inr (hks H3), rfl, flat_strs kindsS, _, rfl, ?_⟩
        rw [inV_str, show decide (("thing" : Str) ∈ kindsS) = false by decide +kernel]
        exact iteF ⟨_, _, rfl, s3⟩
      | @kind x part parts m e =>
        obtain ⟨b, ⟨dx, fs, t, b1, b2, b3, b4, b5⟩, g⟩ := hget e
        cases hd
        have n1 : part ≠ "key" := fun q => by rw [q] at m; exact absurd m (by decide +kernel)
        have n2 : part ≠ "thing" := fun q => by rw [q] at m; exact absurd m (by decide +kernel)
        refine ⟨_, rfl, rfl, _, rfl, ?_⟩
        rw [decide_eq_false fun e => n1 (V.str.inj e)]
        refine iteF ⟨_, rfl, rfl, _, rfl, ?_⟩
        rw [decide_eq_false fun e => n2 (V.str.inj e)]
        refine iteF ⟨_, rfl, C, _, _, _, rfl, T.rd, hcv, kt, _, rfl, .inr (hks H3), rfl, flat_strs kindsS, _, rfl, ?_⟩
        rw [inV_str, decide_eq_true m]
        refine iteT ⟨_, rfl, _, rfl, bn, _, rfl, g, _, rfl, iteF ?_⟩
        refine ⟨_, rfl, _, rfl, bn, _, rfl, g, b, C, dx, fs, _, rfl, b1, T.cls, T.nk, b2, _, rfl, rfl, _, rfl, ?_⟩
        rw [decide_eq_true rfl]
        exact iteF ⟨_, _, rfl, s3⟩
      | other h1 h2 h3 =>
        refine ⟨_, rfl, rfl, _, rfl, ?_⟩
        rw [decide_eq_false fun e => h1 (V.str.inj e)]
        refine iteF ⟨_, rfl, rfl, _, rfl, ?_⟩
        rw [decide_eq_false fun e => h2 (V.str.inj e)]
        refine iteF ⟨_, rfl, C, _, _, _, rfl, T.rd, hcv, kt, _, rfl, .inr (hks H3), rfl, flat_strs kindsS, _, rfl, ?_⟩
        rw [inV_str, decide_eq_false h3]
        exact iteF ⟨_, _, rfl, s3⟩
    · obtain ⟨y2, y3, rfl, s2⟩ := hI
      exact kk H2 (sc.trans s2)
end
/-! ### State: made -/
def stF (bn ct : Addr) (f sd sr : Nat) : List (Str × V) := [("by_name", .ref bn), ("contents", .ref ct), ("fetchings", .int (f : Int)), ("seedings", .int (sd : Int)), ("serials", .int (sr : Int))]
theorem stF_made (bn ct : Addr) : putF "serials" (.int 0) (putF "seedings" (.int 0) (putF "fetchings" (.int 0) (putF "contents" (.ref ct) (putF "by_name" (.ref bn) [])))) = stF bn ct 0 0 0 := rfl
theorem stF_fet (bn ct : Addr) (f sd sr g : Nat) : putF "fetchings" (.int (g : Int)) (stF bn ct f sd sr) = stF bn ct g sd sr := rfl
theorem stF_see (bn ct : Addr) (f sd sr g : Nat) : putF "seedings" (.int (g : Int)) (stF bn ct f sd sr) = stF bn ct f g sr := rfl
theorem stF_ser (bn ct : Addr) (f sd sr g : Nat) : putF "serials" (.int (g : Int)) (stF bn ct f sd sr) = stF bn ct f sd g := rfl
theorem stF_bn (bn ct : Addr) (f sd sr : Nat) : (stF bn ct f sd sr).lookup ("by_name" : Str) = some (.ref bn) := rfl
theorem stF_ct (bn ct : Addr) (f sd sr : Nat) : (stF bn ct f sd sr).lookup ("contents" : Str) = some (.ref ct) := rfl
theorem stF_f (bn ct : Addr) (f sd sr : Nat) : (stF bn ct f sd sr).lookup ("fetchings" : Str) = some (.int (f : Int)) := rfl
theorem stF_sd (bn ct : Addr) (f sd sr : Nat) : (stF bn ct f sd sr).lookup ("seedings" : Str) = some (.int (sd : Int)) := rfl
theorem stF_sr (bn ct : Addr) (f sd sr : Nat) : (stF bn ct f sd sr).lookup ("serials" : Str) = some (.int (sr : Int)) := rfl
theorem stF_len (bn ct : Addr) (f sd sr : Nat) : (stF bn ct f sd sr).length < 1000 := by show 5 < 1000; decide
structure StIn (K : PySem.W.Frag) (mg : Str → Option Value) (CS : Addr) : Prop where
  m : mg "State" = some (.ref CS)
  cls : Cls K CS
  nb : NoAttr K CS "by_name"
  nc : NoAttr K CS "contents"
  nf : NoAttr K CS "fetchings"
  ns : NoAttr K CS "seedings"
  nr : NoAttr K CS "serials"
/-- the content of a thing at first -/
def firstD (kind : Str) : PyData :=
  if kind = "feed" then .tuple [.int 0, .int 0, .int 0] else if kind = "dice" then .tuple [.int 0, .int 0] else if kind = "table" then .tuple [] else if kind = "source" then .int 0 else if kind = "flag" then .bool false else .none
def firsts (th : Ths) : List (Str × PyData) := th.map fun t => (t.1, firstD t.2.1)
structure FirstK (K : PySem.W.Frag) (w : World) (dA : Addr) : Prop where
  at_ : ∀ kind ∈ kindsS, ∃ v, KDct K w dA kind v ∧ ∀ H, Dp K H v (firstD kind)
theorem ThL.names {K : PySem.W.Frag} {H : Hp} {C : Addr} : ∀ {l : List (Str × V)} {th : Ths}, ThL K H C l th → Qp.names l = Qp.names th
  | _, _, .nil => rfl
  | _, _, .cons _ t => by
    show _ :: _ = _ :: _
    rw [show List.map _ _ = _ from t.names]
    rfl
theorem ThL.get {K : PySem.W.Frag} {H : Hp} {C : Addr} : ∀ {l : List (Str × V)} {th : Ths} {i : Nat} {v : V}, ThL K H C l th → (l.map (·.2))[i]? = some v → ∃ n kind parts a, v = .ref a ∧ l[i]? = some (n, .ref a) ∧ th[i]? = some (n, kind, parts) ∧ ThingAt K H C a kind n parts
  | _, _, _, _, .nil, e => by simp at e
  | _, _, 0, _, .cons h _, e => by
    obtain rfl := Option.some.inj e
    exact ⟨_, _, _, _, rfl, rfl, rfl, h⟩
  | _, _, i + 1, _, .cons _ t, e => t.get (i := i) e
/-- a new name is put at the end -/
theorem put_new {α : Type} {l : List (Str × α)} {n : Str} {v : α} (h : n ∉ names l) : put l n v = l ++ [(n, v)] := by
  unfold put
  rw [if_neg]
  intro q
  obtain ⟨p, hp, e⟩ := List.any_eq_true.mp q
  exact h (List.mem_map.mpr ⟨p, hp, of_decide_eq_true e⟩)
theorem nodup_take {α : Type} {l : List (Str × α)} {n : Str} {v : α} {i : Nat} (h : (names l).Nodup) (e : l[i]? = some (n, v)) : n ∉ names (l.take i) := by
  intro m
  obtain ⟨p, hp, ep⟩ := List.mem_map.mp m
  obtain ⟨j, hj⟩ := List.getElem?_of_mem hp
  rw [List.getElem?_take] at hj
  split at hj
  · rename_i hji
    obtain ⟨h1, e1⟩ := List.getElem?_eq_some_iff.mp hj
    obtain ⟨h2, e2⟩ := List.getElem?_eq_some_iff.mp e
    have hl : (names l).length = l.length := List.length_map _
    have := (List.pairwise_iff_getElem.mp h) j i (by rw [hl]; exact h1) (by rw [hl]; exact h2) hji
    apply this
    unfold names
    rw [List.getElem_map, List.getElem_map, e1, e2]
    exact ep
  · cases hj
theorem seqT_mask {K : PySem.W.Frag} {H : Hp} {l : List Addr} {a : Addr} {xs : List V} (h : SqT K H a xs) (n : ∀ b ∈ l, ¬ Rd H b (.tup xs)) : SqT K (mask l H) a xs := by
  rcases h with h | h
  · have na : a ∉ l := fun m => n a m h
    refine .inl ?_
    rcases h with h | ⟨o, h⟩
    · exact .inl (by rw [mask_out na]; exact h)
    · exact .inr ⟨o, by rw [mask_out na]; exact h⟩
  · exact .inr h
theorem rd_ins {H : Hp} {s C dx : Addr} {fs : List (Str × V)} {xs : List V} (hs : H s = some (.ins C dx fs)) : ¬ Rd H s (.tup xs) := by
  rintro (h | ⟨o, h⟩) <;> rw [hs] at h <;> cases h
theorem ThingAt.maskS {K : PySem.W.Frag} {H : Hp} {C CS s ds a : Addr} {kind n : Str} {parts : List Str} (hs : H s = some (.ins CS ds [])) (h : ThingAt K H C a kind n parts) : ThingAt K (mask [s] H) C a kind n parts := by
  obtain ⟨dx, fs, t, h1, h2, h3, h4, h5⟩ := h
  have na : a ∉ [s] := fun m => by
    rw [List.mem_singleton.mp m, hs] at h1
    cases h1
    cases h2
  exact ⟨dx, fs, t, by rw [mask_out na]; exact h1, h2, h3, h4, seqT_mask h5 fun b hb => by rw [List.mem_singleton.mp hb]; exact rd_ins hs⟩
theorem ThL.maskS {K : PySem.W.Frag} {H : Hp} {C CS s ds : Addr} (hs : H s = some (.ins CS ds [])) : ∀ {l : List (Str × V)} {th : Ths}, ThL K H C l th → ThL K (mask [s] H) C l th
  | _, _, .nil => .nil
  | _, _, .cons h t => .cons (h.maskS hs) (t.maskS hs)
def spSInit (K : PySem.W.Frag) (C CS : Addr) : Sp := fun vs H Q _ => ∃ (s ds t : Addr) (tl : List (Str × V)) (th : Ths), vs = [.ref s, .ref t] ∧ H s = some (.ins CS ds []) ∧ SqT K H t (tl.map (·.2)) ∧ ThL K H C tl th ∧ (names th).Nodup ∧ th.length ≤ 100 ∧ (∀ t ∈ th, t.2.1 ∈ kindsS) ∧
  ∀ (H' : Hp) (bn ct : Addr) (l : List (Str × V)), (∀ b o, b ≠ s → H b = some o → H' b = some o) → H bn = none → H ct = none → bn ≠ ct → H' s = some (.ins CS ds (stF bn ct 0 0 0)) → H' bn = some (.dK (kvs tl)) → H' ct = some (.dK (kvs l)) → (∀ M, CsR K M l (firsts th)) → Q .non H'
section
variable {P : Program} {w : World} {K : PySem.W.Frag} {mg : Str → Option Value} {base : Heap}
theorem scSI : FnScope ["self", "things", "thing"] ["self", "things"] (defScope (st 0)) := ⟨rfl, rfl, rfl, by decide +kernel, rfl, by decide +kernel, by decide +kernel⟩
theorem ok_sinit {f C CS dA : Addr} {fd : FuncData} {k : Nat} (F : Fun K "__init__" "State.__init__" (st 0) f fd) (T : ThIn K mg C) (S : StIn K mg CS) (mA : mg "AT_FIRST" = some (.ref dA)) (G : FirstK K w dA) : FnOk P w K mg base CX0 (k + 1) f fd ["self", "things"] (spSInit K C CS) := by
  refine F.ok scSI (fun vs H Q E h => ?_) (fun cdv A outer s0 H vs Q E hr h => ?_)
  · obtain ⟨s, ds, t, tl, th, rfl, _⟩ := h
    rfl
  · obtain ⟨s, ds, t, tl, th, rfl, hs, ht, hth, hnd, hl, hk, kk⟩ := h
    refine ⟨_, pss_cons (ps_fld (pv 0) (pe_dc (own := [("thing", 2)]) (g := gName 2) (tt := tYes) (tk := tFld K (tVar 2) "name") (tv := tVar 2) rfl scSI.nd (pi_tup (pv 1)) (blkOk_by (N := ["self", "things", "thing"]) (sc := defScope (st 0)) (by decide +kernel))
          (fun _ _ _ _ _ => pg_name (i := 2) scSI.nd rfl (.inl rfl)) (fun _ _ _ _ _ => pts_nil) (fun _ _ _ _ _ => pe_fld (pv 2) rfl) (fun _ _ _ _ _ => pv 2)) rfl)
      (pss_cons (ps_fld (pv 0) (pe_dc (own := [("thing", 2)]) (g := gName 2) (tt := tYes) (tk := tFld K (tVar 2) "name") (tv := tOp (rIxD K w) (tC (.ref dA)) (tFld K (tVar 2) "kind")) rfl scSI.nd (pi_tup (pv 1)) (blkOk_by (N := ["self", "things", "thing"]) (sc := defScope (st 0)) (by decide +kernel))
          (fun _ _ _ _ _ => pg_name (i := 2) scSI.nd rfl (.inl rfl)) (fun _ _ _ _ _ => pts_nil) (fun _ _ _ _ _ => pe_fld (pv 2) rfl) (fun _ _ _ _ _ => pe_ix ix_kdict (pe_glob (v := .ref dA) (by rfl) mA rfl) (pe_fld (pv 2) rfl) (fun _ _ => rfl))) rfl)
      (pss_cons (ps_fld (pv 0) pe_int rfl) (pss_cons (ps_fld (pv 0) pe_int rfl) (pss_one (ps_fld (pv 0) pe_int rfl))))), ?_⟩
    -- by_name
    have lt : (tl.map (·.2)).length = tl.length := List.length_map _
    have ltl : tl.length = th.length := hth.len
    have htn : (names tl).Nodup := by rw [hth.names]; exact hnd
    refine ⟨_, rfl, t, rfl, ⟨_, ht⟩, fun bn nbn => ?_⟩
    refine dc_tup (K := K) (a := t) (xs := tl.map (·.2)) (fun i H2 => H2 bn = some (.dK (kvs (tl.take i))) ∧ Same H H2) ⟨upd_same, same_new nbn⟩ (fun i H2 _ hI => Same.seqT hI.2 ht) (fun i x H2 hx hI => ?_) (fun H2 hI => ?_)
    · obtain ⟨eD, s2⟩ := hI
      obtain ⟨n, kind, parts, a, rfl, e1, e2, th1⟩ := hth.get hx
      obtain ⟨dx, fs, t1, b1, b2, b3, b4, b5⟩ := th1.same s2
      have hi : i < tl.length := (List.getElem?_eq_some_iff.mp e1).1
      refine ⟨rfl, ?_⟩
      refine ⟨_, rfl, a, C, dx, fs, _, rfl, b1, T.cls, T.nn, b3, _, rfl, _, .inr n, rfl, eD, small1000 (by rw [kvs_len, List.length_take]; omega), ?_, fun b o e => ?_⟩
      · rw [upd_same, putK_kvs, put_new (nodup_take htn e1), List.take_add_one, e1]
        rfl
      · rw [upd_ne (ne_of_none e nbn)]; exact s2 b o e
    obtain ⟨eb, s2⟩ := hI
    rw [lt, List.take_length] at eb
    have hs2 := s2 _ _ hs
    refine ⟨_, rfl, s, CS, ds, [], rfl, hs2, S.cls, S.nb, by decide, ?_⟩
    have nsb : bn ≠ s := (ne_of_none hs nbn).symm
    have eb3 : (upd H2 s (.ins CS ds (putF "by_name" (.ref bn) []))) bn = some (.dK (kvs tl)) := by rw [upd_ne nsb]; exact eb
    have es3 : (upd H2 s (.ins CS ds (putF "by_name" (.ref bn) []))) s = some (.ins CS ds (putF "by_name" (.ref bn) [])) := upd_same
    have c3 : Chg [s] H (upd H2 s (.ins CS ds (putF "by_name" (.ref bn) []))) := (Chg.of_same s2).trans (.upd List.mem_cons_self)
    generalize upd H2 s (.ins CS ds (putF "by_name" (.ref bn) [])) = H3 at *
    have keep : ∀ {b : Addr} {o : HO}, b ≠ s → H b = some o → H3 b = some o := fun {b o} nb e => c3 b o (fun m => nb (List.mem_singleton.mp m)) e
    -- contents
    have htM : SqT K (mask [s] H) t (tl.map (·.2)) := seqT_mask ht fun b hb => by rw [List.mem_singleton.mp hb]; exact rd_ins hs
    have hthM := hth.maskS hs
    have ht3 : SqT K H3 t (tl.map (·.2)) := Same.seqT (c3.mask.trans (mask_sub _ _)) htM
    have hth3 : ThL K H3 C tl th := hthM.same (c3.mask.trans (mask_sub _ _))
    refine ⟨_, rfl, t, rfl, ⟨_, ht3⟩, fun ct nct => ?_⟩
    refine dc_tup (K := K) (a := t) (xs := tl.map (·.2)) (fun i H4 => (∃ l : List (Str × V), H4 ct = some (.dK (kvs l)) ∧ names l = names (th.take i) ∧ ∀ M, CsR K M l (firsts (th.take i))) ∧ Same H3 H4) ⟨⟨[], upd_same, rfl, fun M => .nil⟩, same_new nct⟩ (fun i H4 _ hI => Same.seqT hI.2 ht3) (fun i x H4 hx hI => ?_) (fun H4 hI => ?_)
    · obtain ⟨⟨l, eD, en, hl3⟩, s4⟩ := hI
      obtain ⟨n, kind, parts, a, rfl, e1, e2, th1⟩ := hth3.get hx
      obtain ⟨dx, fs, t1, b1, b2, b3, b4, b5⟩ := th1.same s4
      have hi : i < th.length := (List.getElem?_eq_some_iff.mp e2).1
      obtain ⟨v, hv, hd⟩ := G.at_ kind (hk _ (List.mem_of_getElem? e2))
      have ll : l.length ≤ 100 := by
        have := congrArg List.length en
        simp only [names, List.length_map, List.length_take] at this
        omega
      refine ⟨rfl, ?_⟩
      refine ⟨_, rfl, a, C, dx, fs, _, rfl, b1, T.cls, T.nn, b3, ?_⟩
      refine ⟨_, rfl, a, C, dx, fs, _, rfl, b1, T.cls, T.nk, b2, dA, kind, v, rfl, rfl, hv, ?_⟩
      refine ⟨_, .inr n, rfl, eD, small1000 (by rw [kvs_len]; omega), ⟨l ++ [(n, v)], ?_, ?_, fun M => ?_⟩, fun b o e => ?_⟩
      · rw [upd_same, putK_kvs, put_new (by rw [en]; exact nodup_take hnd e2)]
      · rw [List.take_add_one, e2]
        show List.map _ _ = List.map _ _
        rw [List.map_append, List.map_append, show List.map (fun x => x.1) l = names l from rfl, en]
        rfl
      · rw [List.take_add_one, e2]
        show CsR K M _ (List.map _ _)
        rw [List.map_append]
        exact (hl3 M).app (.cons (hd M) .nil)
      · rw [upd_ne (ne_of_none e nct)]; exact s4 b o e
    obtain ⟨⟨l, ec, en, hl3⟩, s4⟩ := hI
    rw [show (tl.map (·.2)).length = th.length by rw [lt, ltl], List.take_length] at hl3
    have es4 := s4 _ _ es3
    have ncs : ct ≠ s := (ne_of_none es3 nct).symm
    have nbc : bn ≠ ct := ne_of_none eb3 nct
    have nctH : H ct = none := c3.free nct fun m => ncs (List.mem_singleton.mp m)
    refine ⟨_, rfl, s, CS, ds, _, rfl, es4, S.cls, S.nc, by show 1 < 1000; decide, ?_⟩
    refine ⟨_, rfl, s, CS, ds, _, rfl, upd_same, S.cls, S.nf, by show 2 < 1000; decide, ?_⟩
    refine ⟨_, rfl, s, CS, ds, _, rfl, upd_same, S.cls, S.ns, by show 3 < 1000; decide, ?_⟩
    refine ⟨_, rfl, s, CS, ds, _, rfl, upd_same, S.cls, S.nr, by show 4 < 1000; decide, ?_⟩
    refine kk _ bn ct l (fun b o nb e => ?_) nbn nctH nbc ?_ ?_ ?_ hl3
    · rw [upd_ne nb, upd_ne nb, upd_ne nb, upd_ne nb]
      exact s4 _ _ (keep nb e)
    · rw [upd_same, stF_made]
    · rw [upd_ne nsb, upd_ne nsb, upd_ne nsb, upd_ne nsb]
      exact s4 _ _ eb3
    · rw [upd_ne ncs, upd_ne ncs, upd_ne ncs, upd_ne ncs]
      exact ec
end
/-! ### World: made -/
def spUnlikeL : Sp := fun vs H Q _ => ∃ (t : Addr) (xs : List Str), vs = [.ref t] ∧ H t = some (.lst (xs.map V.str)) ∧ xs.Nodup ∧ xs.length ≤ 1000 ∧ ∀ H', Same H H' → Q .non H'
/-- a field stands behind what it is over -/
def FieldsOk (th : Ths) : Prop := ∀ (i : Nat) (n : Str) (parts : List Str), th[i]? = some (n, ("field" : Str), parts) → ∃ over rest, parts = over :: rest ∧ ∃ (j : Nat) (k : Str) (ps : List Str), j < i ∧ th[j]? = some (over, k, ps) ∧ (k = "source" ∨ k = "field")
def spFields (K : PySem.W.Frag) (C : Addr) : Sp := fun vs H Q _ => ∃ (t : Addr) (tl : List (Str × V)) (th : Ths), vs = [.ref t] ∧ SqT K H t (tl.map (·.2)) ∧ ThL K H C tl th ∧ FieldsOk th ∧ th.length ≤ 100 ∧ ∀ H', Same H H' → Q .non H'
theorem not_inV {u : Str} {xs : List Str} {i : Nat} (hn : xs.Nodup) (hu : xs[i]? = some u) : inV (.str u) ((xs.map V.str).take i) = false := by
  rw [← List.map_take, inV_str, decide_eq_false]
  intro hm
  obtain ⟨j, hj⟩ := List.getElem?_of_mem hm
  rw [List.getElem?_take] at hj
  split at hj
  · rename_i hji
    obtain ⟨h1, e1⟩ := List.getElem?_eq_some_iff.mp hj
    obtain ⟨h2, e2⟩ := List.getElem?_eq_some_iff.mp hu
    exact (List.pairwise_iff_getElem.mp hn) j i h1 h2 hji (e1.trans e2.symm)
  · cases hj
section
variable {P : Program} {w : World} {K : PySem.W.Frag} {mg : Str → Option Value} {base : Heap}
theorem ok_unlikeL {f : Addr} {fd : FuncData} {k : Nat} (F : Fun K "check_unlike" "check_unlike" sUnlike f fd) (me : mg "enumerate" = none) : FnOk P w K mg base CX0 (k + 1) f fd ["names"] spUnlikeL := by
  refine F.ok scCU (fun vs H Q E h => ?_) (fun cdv A outer s H vs Q E hr h => ?_)
  · obtain ⟨t, xs, rfl, _⟩ := h
    rfl
  · obtain ⟨t, xs, rfl, ht, hn, hl, kk⟩ := h
    refine ⟨_, pss_one (ps_for PassesOwn.never rfl (pi_enum (by rfl) me (pa_cons (pv 0) pa_nil)) (pg_tup rfl (pgs_cons (pg_name (i := 1) scCU.nd rfl (.inl rfl)) (pgs_cons (pg_name (i := 2) scCU.nd rfl (.inl rfl)) pgs_nil)))
      (pss_one (ps_if (pt_cmpR op_in_seq (pv 2) (pe_slice sl_list (pv 0) po_none (po_some (pv 1))) (by rfl)) (pss_one ps_never) pss_nil))), ?_⟩
    refine ⟨_, rfl, t, _, rfl, SqL.of ht, ?_⟩
    refine for_it (walk_enum (a := t) (xs := xs.map V.str)) (fun i σ H2 => ∃ y z, σ = [some (.ref t), y, z] ∧ Same H H2) ⟨none, none, rfl, Same.refl _⟩ (fun i σ H2 _ ⟨_, _, _, e⟩ => SqL.of (e _ _ ht)) ?_ ?_
    · rintro i x σ H2 H3 hi ⟨y, z, rfl, s2⟩ ⟨T, x1, x2, rfl, nT, rfl, hx1, hx2⟩
      replace hx1 : some (V.int (i : Nat)) = some x1 := hx1
      cases hx1
      replace hx2 : (xs.map V.str)[i]? = some x2 := hx2
      rw [List.getElem?_map] at hx2
      obtain ⟨u, hu, rfl⟩ := Option.map_eq_some_iff.mp hx2
      have s3 := s2.trans (same_new (o := .tup [.int (i : Nat), .str u]) nT)
      refine ⟨T, [.int (i : Nat), .str u], rfl, SqT.of upd_same, rfl, .int (i : Nat), [.str u], rfl, .str u, [], rfl, rfl, ?_⟩
      refine ⟨_, rfl, _, rfl, _, rfl, i, rfl, t, _, rfl, SqL.of (s3 _ _ ht), fun p np => ?_⟩
      rw [cut_take]
      refine ⟨p, _, rfl, .inl (SqL.of upd_same), rfl, ?_, _, rfl, ?_⟩
      · rw [← List.map_take]; exact flat_strs _
      · show (if (inV (.str u) ((xs.map V.str).take i)) = true then _ else _)
        rw [not_inV hn hu]
        exact iteF ⟨_, _, rfl, s3.trans (same_new np)⟩
    · rintro σ H2 ⟨y, z, rfl, s2⟩
      exact kk H2 s2
theorem scCF : FnScope ["things", "at", "thing", "below", "other"] ["things"] (defScope sFields) := ⟨rfl, rfl, rfl, by decide +kernel, rfl, by decide +kernel, by decide +kernel⟩
theorem ok_fields {f C : Addr} {fd : FuncData} {k : Nat} (F : Fun K "_check_fields" "_check_fields" sFields f fd) (me : mg "enumerate" = none) (T : ThIn K mg C) : FnOk P w K mg base CX0 (k + 1) f fd ["things"] (spFields K C) := by
  refine F.ok scCF (fun vs H Q E h => ?_) (fun cdv A outer s H vs Q E hr h => ?_)
  · obtain ⟨t, tl, th, rfl, _⟩ := h
    rfl
  · obtain ⟨t, tl, th, rfl, ht, hth, hf, hl, kk⟩ := h
    refine ⟨_, pss_one (ps_for PassesOwn.never rfl (pi_enumT (by rfl) me (pa_cons (pv 0) pa_nil)) (pg_tup rfl (pgs_cons (pg_name (i := 1) scCF.nd rfl (.inl rfl)) (pgs_cons (pg_name (i := 2) scCF.nd rfl (.inl rfl)) pgs_nil)))
      (pss_cons (ps_setLc (i := 3) (own := [("other", 4)]) (g := gName 4) (te := tFld K (tVar 4) "name") (tt := tTest (tOp (rIn K false) (tFld K (tVar 4) "kind") (tTup (tCons (tC (.str "source")) (tCons (tC (.str "field")) tNil))))) rfl scCF.nd rfl rfl (sw_true rfl rfl rfl (by decide +kernel)) (pi_tup (pe_slice sl_tup (pv 0) po_none (po_some (pv 1)))) (blkOk_by (N := ["things", "at", "thing", "below", "other"]) (sc := defScope sFields) (by decide +kernel))
          (fun _ _ _ _ _ => pg_name (i := 4) scCF.nd rfl (.inl rfl)) (fun _ _ _ _ _ => pts_one (pt_cmpR op_in_seq (pe_fld (pv 4) rfl) (pe_tup (pa_cons pe_str (pa_cons pe_str pa_nil))) (by rfl))) (fun _ _ _ _ _ => pe_fld (pv 4) rfl))
      (pss_one (ps_if (PW.pt (pw_and (pt_cmpR op_eq (pe_fld (pv 2) rfl) pe_str (nomark _)) (pw_and1 (pt_cmpR op_notIn_seq (pe_ix ix_tup (pe_fld (pv 2) rfl) pe_int (fun _ _ => rfl)) (pv 3) (by rfl))))) (pss_one ps_never) pss_nil)))), ?_⟩
    have ltl : tl.length = th.length := hth.len
    refine ⟨_, rfl, t, _, rfl, ht, for_enumT (K := K) (a := t) (xs := tl.map (·.2)) (fun i σ H2 => ∃ y z b, σ = [some (.ref t), y, z, b, none] ∧ Same H H2) ⟨none, none, none, rfl, Same.refl _⟩ (fun i σ H2 _ ⟨_, _, _, _, e⟩ => Same.seqT e ht) ?_ ?_⟩
    · rintro i x T' σ H2 hx nT ⟨y, z, b, rfl, s2⟩
      obtain ⟨n, kind, parts, a, rfl, e1, e2, th1⟩ := hth.get hx
      have hi : i < th.length := (List.getElem?_eq_some_iff.mp e2).1
      have s3 := s2.trans (same_new (o := .tup [.int (i : Nat), .ref a]) nT)
      have ht3 := Same.seqT s3 ht
      have eT : (upd H2 T' (.tup [.int (i : Nat), .ref a])) T' = some (.tup [.int (i : Nat), .ref a]) := upd_same
      have hth3 := hth.same s3
      generalize upd H2 T' (.tup [.int (i : Nat), .ref a]) = H3 at *
      refine ⟨T', _, rfl, SqT.of eT, rfl, .int (i : Nat), [.ref a], rfl, .ref a, [], rfl, rfl, ?_⟩
      refine ⟨_, rfl, _, rfl, i, rfl, t, _, rfl, ht3, ?_, fun c nc => ?_⟩
      · rintro ⟨_, h2⟩
        rw [HT.sIx_nat, List.length_map] at h2
        omega
      rw [cut_take]
      have s4 := s3.trans (same_new (o := .tup ((tl.map (·.2)).take i)) nc)
      have ec : SqT K (upd H3 c (.tup ((tl.map (·.2)).take i))) c ((tl.map (·.2)).take i) := SqT.of upd_same
      have hth4 := hth3.same (same_new (o := .tup ((tl.map (·.2)).take i)) nc)
      generalize upd H3 c (.tup ((tl.map (·.2)).take i)) = H4 at *
      refine ⟨c, rfl, ⟨_, ec⟩, fun D nD => ?_⟩
      refine lc_tup (K := K) (a := c) (xs := (tl.map (·.2)).take i) (fun m H5 => ∃ ys : List Str, H5 D = some (.lst (ys.map V.str)) ∧ ys.length ≤ m ∧ (∀ (j : Nat) (n k : Str) (ps : List Str), j < m → th[j]? = some (n, k, ps) → (k = "source" ∨ k = "field") → n ∈ ys) ∧ Same H4 H5)
        ⟨[], upd_same, Nat.le_refl _, fun j n k ps h => absurd h (by omega), same_new nD⟩ (fun m H5 _ ⟨_, _, _, _, s⟩ => Same.seqT s ec) (fun m x H5 hx5 hI => ?_) (fun H5 hI => ?_)
      · obtain ⟨ys, eD, el, hin, s5⟩ := hI
        rw [List.getElem?_take] at hx5
        split at hx5
        · rename_i hmi
          obtain ⟨n2, k2, p2, a2, rfl, f1, f2, th2⟩ := hth4.get hx5
          obtain ⟨dx, fs, t1, b1, b2, b3, b4, b5⟩ := th2.same s5
          refine ⟨rfl, ?_⟩
          refine ⟨_, rfl, a2, C, dx, fs, _, rfl, b1, T.cls, T.nk, b2, by show 2 ≤ sizeLine; decide, fun p np => ?_⟩
          have s6 := s5.trans (same_new (o := .tup [.str "source", .str "field"]) np)
          have b1' := same_new (o := .tup [.str "source", .str "field"]) np _ _ b1
          have eD' := same_new (o := .tup [.str "source", .str "field"]) np _ _ eD
          refine ⟨p, _, rfl, .inr (SqT.of upd_same), rfl, rfl, _, rfl, ?_⟩
          have ein : inV (.str k2) [V.str "source", V.str "field"] = decide (k2 ∈ [("source" : Str), "field"]) := inV_str (xs := [("source" : Str), "field"])
          show (if inV (.str k2) [V.str "source", V.str "field"] = true then _ else _)
          rw [ein]
          generalize upd H5 p (.tup [.str "source", .str "field"]) = H6 at *
          refine ite2 (fun hk => ?_) (fun hk => ?_)
          · refine ⟨_, rfl, a2, C, dx, fs, _, rfl, b1', T.cls, T.nn, b3, ys.map V.str, eD', small1000 (by rw [List.length_map]; omega), ys ++ [n2], by rw [upd_same, List.map_append]; rfl, by rw [List.length_append]; show ys.length + 1 ≤ m + 1; omega, fun j n k ps hj ej hk2 => ?_, fun b o e => ?_⟩
            · by_cases q : j = m
              · subst q
                rw [f2] at ej
                cases Option.some.inj ej
                exact List.mem_append_right _ List.mem_cons_self
              · exact List.mem_append_left _ (hin j n k ps (by omega) ej hk2)
            · rw [upd_ne (ne_of_none e nD)]; exact s6 b o e
          · refine ⟨ys, eD', by omega, fun j n k ps hj ej hk2 => ?_, s6⟩
            by_cases q : j = m
            · subst q
              rw [f2] at ej
              cases Option.some.inj ej
              exact absurd (decide_eq_true (by rcases hk2 with q | q <;> rw [q] <;> decide +kernel)) hk
            · exact hin j n k ps (by omega) ej hk2
        · cases hx5
      obtain ⟨ys, eD, el, hin, s5⟩ := hI
      rw [List.length_take, Nat.min_eq_left (by rw [List.length_map]; omega)] at hin
      have thi : ThingAt K H5 C a kind n parts := by
        obtain ⟨n', kind', parts', a', q1, q2, q3, q4⟩ := (hth4.same s5).get hx
        rw [e2] at q3
        cases Option.some.inj q3
        cases q1
        exact q4
      obtain ⟨dx, fs, t1, b1, b2, b3, b4, b5⟩ := thi
      refine ⟨_, rfl, a, C, dx, fs, _, rfl, b1, T.cls, T.nk, b2, rfl, _, rfl, ite2 (fun hk => ?_) (fun _ => ?_)⟩
      · have ek : kind = "field" := V.str.inj (of_decide_eq_true hk)
        subst ek
        obtain ⟨over, rest, rfl, j, k, ps, hj, ej, hk2⟩ := hf i n parts e2
        refine ⟨_, rfl, a, C, dx, fs, _, rfl, b1, T.cls, T.np, b4, t1, _, 0, _, rfl, rfl, b5, atI_nat (j := 0) rfl, _, rfl, D, _, rfl, .inl (SqL.of eD), rfl, flat_strs ys, _, rfl, ?_⟩
        show (if (!inV (.str over) (ys.map V.str)) = true then _ else _)
        rw [inV_str, decide_eq_true (hin j over k ps hj ej hk2)]
        exact iteF ⟨_, _, _, rfl, s4.trans s5⟩
      · exact ⟨_, _, _, rfl, s4.trans s5⟩
    · rintro σ H2 ⟨y, z, b, rfl, s2⟩
      exact kk H2 s2
end
def woF (t s : Addr) (log : V) : List (Str × V) := [("things", .ref t), ("_state", .ref s), ("_log", log)]
theorem woF_made (t s : Addr) (log : V) : putF "_log" log (putF "_state" (.ref s) (putF "things" (.ref t) [])) = woF t s log := rfl
theorem woF_t (t s : Addr) (log : V) : (woF t s log).lookup ("things" : Str) = some (.ref t) := rfl
theorem woF_s (t s : Addr) (log : V) : (woF t s log).lookup ("_state" : Str) = some (.ref s) := rfl
theorem woF_l (t s : Addr) (log : V) : (woF t s log).lookup ("_log" : Str) = some log := rfl
structure WoIn (K : PySem.W.Frag) (mg : Str → Option Value) (CW : Addr) : Prop where
  m : mg "World" = some (.ref CW)
  cls : Cls K CW
  nt : NoAttr K CW "things"
  ns : NoAttr K CW "_state"
  nl : NoAttr K CW "_log"
/-- a world by a model -/
structure Ws where
  th : Ths
  cs : List (Str × PyData)
  ft : Nat
  sd : Nat
  sr : Nat
/-- the state at s, the dict of its contents at ct; L: what may change -/
structure StAt (K : PySem.W.Frag) (L : List Addr) (H : Hp) (C CS s ct : Addr) (W : Ws) : Prop where
  sL : s ∈ L
  cL : ct ∈ L
  ex : ∃ (ds bn : Addr) (tl l : List (Str × V)), H s = some (.ins CS ds (stF bn ct W.ft W.sd W.sr)) ∧ mask L H bn = some (.dK (kvs tl)) ∧ ThL K (mask L H) C tl W.th ∧ H ct = some (.dK (kvs l)) ∧ CsR K (mask L H) l W.cs
/-- the world at w, unwatched -/
def WoAt (K : PySem.W.Frag) (L : List Addr) (H : Hp) (CW w s : Addr) (vs : List V) : Prop := ∃ dw t, mask L H w = some (.ins CW dw (woF t s .non)) ∧ SqT K (mask L H) t vs
def spWInit (K : PySem.W.Frag) (C CS CW : Addr) : Sp := fun vs H Q _ => ∃ (w dw : Addr) (L : List Addr) (tl : List (Str × V)) (th : Ths), vs = .ref w :: tl.map (·.2) ∧ H w = some (.ins CW dw []) ∧ w ∉ L ∧ Alive L H ∧ ThL K (mask L H) C tl th ∧ (names th).Nodup ∧ th.length ≤ 8 ∧ (∀ t ∈ th, t.2.1 ∈ kindsS) ∧ FieldsOk th ∧
  ∀ (H' : Hp) (s ct : Addr), (∀ b o, b ≠ w → H b = some o → H' b = some o) → H s = none → H ct = none → WoAt K (s :: ct :: L) H' CW w s (tl.map (·.2)) → StAt K (s :: ct :: L) H' C CS s ct ⟨th, firsts th, 0, 0, 0⟩ → Q .non H'
section
variable {P : Program} {w : World} {K : PySem.W.Frag} {mg : Str → Option Value} {base : Heap}
theorem scWI : FnScope ["self", "things", "thing"] ([("self" : Str)] ++ [("things" : Str)]) (defScope (wo 0)) := ⟨rfl, rfl, rfl, by decide +kernel, rfl, by decide +kernel, by decide +kernel⟩
theorem ok_winit {f fU fF fS C CS CW : Addr} {fd fdU fdF fdS : FuncData} {tk : Tok} (F : Fun K "__init__" "World.__init__" (wo 0) f fd) (T : ThIn K mg C) (S : StIn K mg CS) (W : WoIn K mg CW) (MS : Mk K CS fS) (GS : FnOk P w K mg base CX0 2 fS fdS ["self", "things"] (spSInit K C CS)) (bS : Binds K fdS ["self", "things"] [])
    (GU : FnOk P w K mg base CX0 3 fU fdU ["names"] spUnlikeL) (mU : mg "check_unlike" = some (.ref fU)) (kU : PySem.W.keepIn K (.ref fU) = true) (bU : Binds K fdU ["names"] [])
    (GF : FnOk P w K mg base CX0 3 fF fdF ["things"] (spFields K C)) (mF : mg "_check_fields" = some (.ref fF)) (kF : PySem.W.keepIn K (.ref fF) = true) (bF : Binds K fdF ["things"] []) (mlen : mg "len" = none) (mM : mg "MOST_THINGS" = some (.int 8 tk)) : FnR P w K mg base CX0 4 f (spWInit K C CS CW) := by
  obtain ⟨oc, od, kV, doc, pm, an, cdv, ct, osl, rfl, lk, hcd⟩ := F.ex
  have G := StX.fn_star (CX := CX0) (P := P) (w := w) (mg := mg) (base := base) (k := 3) (ps := ["self"]) (pv := "things") (N := ["self", "things", "thing"]) (sp := fun vs H Q _ => ∃ (w dw t : Addr) (L : List Addr) (tl : List (Str × V)) (th : Ths), vs = [.ref w, .ref t] ∧ H w = some (.ins CW dw []) ∧ SqT K (mask L H) t (tl.map (·.2)) ∧ w ∉ L ∧ Alive L H ∧ ThL K (mask L H) C tl th ∧ (names th).Nodup ∧ th.length ≤ 8 ∧ (∀ t ∈ th, t.2.1 ∈ kindsS) ∧ FieldsOk th ∧
      ∀ (H' : Hp) (s ct : Addr), (∀ b o, b ≠ w → H b = some o → H' b = some o) → H s = none → H ct = none → WoAt K (s :: ct :: L) H' CW w s (tl.map (·.2)) → StAt K (s :: ct :: L) H' C CS s ct ⟨th, firsts th, 0, 0, 0⟩ → Q .non H') lk hcd scWI StX.cxUp_none (StX.bind_star1 (B := fun us => bindArgs (PySem.W.fnOf "__init__" "World.__init__" (defArgs (wo 0)) (defBody (wo 0)) (defScope (wo 0)) .none kV doc pm an cdv ct) ⟨us, []⟩) (p1 := "self") (pv := "things") (fun a => rfl) (fun a r rs => rfl)) ?_
  · refine G.imp fun vs H Q E h => ?_
    obtain ⟨w, dw, L, tl, th, rfl, hw, hwL, al, hth, hnd, hl, hk, hf, kk⟩ := h
    refine ⟨[.ref w], tl.map (·.2), rfl, rfl, by rw [List.length_map, hth.len]; exact len1000 (by omega), fun p np => ⟨w, dw, p, L, tl, th, rfl, ?_, SqT.of (mask_upd (al.not np)), hwL, al.same (same_new np), hth.same (mask_same (same_new np)), hnd, hl, hk, hf, fun H' s ct h1 h2 h3 h4 h5 => kk H' s ct (fun b o nb e => h1 b o nb (same_new np _ _ e)) ?_ ?_ h4 h5⟩⟩
    · exact same_new np _ _ hw
    · by_cases q : s = p
      · rw [q] at h2; rw [upd_same] at h2; cases h2
      · rw [upd_ne q] at h2; exact h2
    · by_cases q : ct = p
      · rw [q] at h3; rw [upd_same] at h3; cases h3
      · rw [upd_ne q] at h3; exact h3
  · intro A outer s0 H vs Q E hr h
    obtain ⟨w, dw, t, L, tl, th, rfl, hw, htM, hwL, al, hthM, hnd, hl, hk, hf, kk⟩ := h
    have hr3 : Room 3 _ := hr
    refine ⟨_, pss_cons (ps_expr (pe_call GU hr (by rfl) mU kU bU .nil pass0 (pa_cons (pe_lc (own := [("thing", 2)]) (g := gName 2) (tt := tYes) (te := tFld K (tVar 2) "name") rfl scWI.nd (pi_tup (pv 1)) (blkOk_by (N := ["self", "things", "thing"]) (sc := defScope (wo 0)) (by decide +kernel))
          (fun _ _ _ _ _ => pg_name (i := 2) scWI.nd rfl (.inl rfl)) (fun _ _ _ _ _ => pts_nil) (fun _ _ _ _ _ => pe_fld (pv 2) rfl)) pa_nil)))
      (pss_cons (ps_expr (pe_call GF hr (by rfl) mF kF bF .nil pass0 (pa_cons (pv 1) pa_nil)))
      (pss_cons (ps_if (pt_cmpR op_gt (pe_callB call_len_seq (by rfl) mlen PySem.boot_len (pa_cons (pv 1) pa_nil)) (pe_glob (v := .int 8) rfl mM ⟨tk, rfl⟩) (nomark _)) (pss_one ps_never) pss_nil)
      (pss_cons (ps_fld (pv 0) (pv 1) rfl)
      (pss_cons (ps_fld (pv 0) (pe_make MS GS hr (by rfl) S.m bS .nil pass0 (pa_cons (pv 1) pa_nil)) rfl)
      (pss_one (ps_fld (pv 0) pe_non rfl)))))), ?_⟩
    have ht : SqT K H t (tl.map (·.2)) := Same.seqT (mask_sub _ _) htM
    have hth : ThL K H C tl th := hthM.same (mask_sub _ _)
    have ltl : tl.length = th.length := hth.len
    have lt : (tl.map (·.2)).length = th.length := by rw [List.length_map, ltl]
    refine ⟨_, rfl, t, rfl, ⟨_, ht⟩, fun D nD => ?_⟩
    refine lc_tup (K := K) (a := t) (xs := tl.map (·.2)) (fun i H2 => H2 D = some (.lst (((names th).take i).map V.str)) ∧ Same H H2) ⟨upd_same, same_new nD⟩ (fun i H2 _ hI => Same.seqT hI.2 ht) (fun i x H2 hx hI => ?_) (fun H2 hI => ?_)
    · obtain ⟨eD, s2⟩ := hI
      obtain ⟨n, kind, parts, a, rfl, e1, e2, th1⟩ := hth.get hx
      obtain ⟨dx, fs, t1, b1, b2, b3, b4, b5⟩ := th1.same s2
      have hi : i < th.length := (List.getElem?_eq_some_iff.mp e2).1
      refine ⟨rfl, ?_⟩
      refine ⟨_, rfl, a, C, dx, fs, _, rfl, b1, T.cls, T.nn, b3, _, eD, small1000 (by rw [List.length_map, List.length_take]; omega), ?_, fun b o e => ?_⟩
      · have en : (names th)[i]? = some n := by
          unfold names
          rw [List.getElem?_map, e2]
          rfl
        rw [upd_same, List.take_add_one, en, List.map_append]
        rfl
      · rw [upd_ne (ne_of_none e nD)]; exact s2 b o e
    obtain ⟨eD, s2⟩ := hI
    have ln : (names th).length = th.length := List.length_map _
    rw [lt, ← ln, List.take_length] at eD
    refine ⟨D, names th, rfl, eD, hnd, by rw [ln]; omega, fun H3 s3 => ?_⟩
    refine ⟨_, rfl, t, tl, th, rfl, Same.seqT (s2.trans s3) ht, hth.same (s2.trans s3), hf, by omega, fun H4 s4 => ?_⟩
    have s14 := (s2.trans s3).trans s4
    refine ⟨_, rfl, t, _, rfl, .inr (Same.seqT s14 ht), _, _, rfl, rfl, _, rfl, ?_⟩
    rw [decide_eq_false (by rw [lt]; omega)]
    refine iteF ?_
    have hw4 := s14 _ _ hw
    refine ⟨_, rfl, _, rfl, w, CW, dw, [], rfl, hw4, W.cls, W.nt, by decide, ?_⟩
    -- self._state = State(things)
    have c5 : Chg [w] H (upd H4 w (.ins CW dw (putF "things" (.ref t) []))) := (Chg.of_same s14).trans (.upd List.mem_cons_self)
    have hw5 : (upd H4 w (.ins CW dw (putF "things" (.ref t) []))) w = some (.ins CW dw (putF "things" (.ref t) [])) := upd_same
    generalize upd H4 w (.ins CW dw (putF "things" (.ref t) [])) = H5 at *
    -- what stays: behind the mask of w and L
    have hwm : mask L H w = some (.ins CW dw []) := by rw [mask_out hwL]; exact hw
    have htW : SqT K (mask [w] (mask L H)) t (tl.map (·.2)) := seqT_mask htM fun b hb => by rw [List.mem_singleton.mp hb]; exact rd_ins hwm
    have hthW : ThL K (mask [w] (mask L H)) C tl th := hthM.maskS hwm
    have alW : Alive L H5 := fun b hb => by
      obtain ⟨o, e⟩ := al b hb
      exact ⟨o, c5 b o (fun m => hwL (by rw [← List.mem_singleton.mp m]; exact hb)) e⟩
    have sub5 : Same (mask [w] (mask L H)) H5 := fun b o e => by
      by_cases q : b ∈ [w]
      · rw [mask_in q] at e; cases e
      · rw [mask_out q] at e
        exact c5 b o q (mask_sub _ _ _ _ e)
    refine ⟨_, rfl, fun s ds ns nds nes => ?_⟩
    have s6 : Same H5 (upd (upd H5 ds (.own s)) s (.ins CS ds [])) := fun b o e => by
      rw [upd_ne (ne_of_none e ns), upd_ne (ne_of_none e nds)]; exact e
    refine ⟨s, ds, t, tl, th, rfl, upd_same, Same.seqT (sub5.trans s6) htW, hthW.same (sub5.trans s6), hnd, by omega, hk, fun H7 bn ct l k7 nbn nct nbc e7s e7b e7c hcs => ⟨rfl, ?_⟩⟩
    have nws : w ≠ s := ne_of_none hw5 ns
    have keep7 : ∀ b o, H5 b = some o → H7 b = some o := fun b o e => k7 b o (ne_of_none e ns) (s6 b o e)
    have hw7 := keep7 _ _ hw5
    refine ⟨_, rfl, w, CW, dw, _, rfl, hw7, W.cls, W.ns, by show 1 < 1000; decide, ?_⟩
    refine ⟨_, rfl, w, CW, dw, _, rfl, upd_same, W.cls, W.nl, by show 2 < 1000; decide, ?_⟩
    have free6 : ∀ {b : Addr}, (upd (upd H5 ds (.own s)) s (.ins CS ds [])) b = none → H5 b = none := fun {b} e => by
      by_cases q1 : b = s
      · rw [q1, upd_same] at e; cases e
      · rw [upd_ne q1] at e
        by_cases q2 : b = ds
        · rw [q2, upd_same] at e; cases e
        · rw [upd_ne q2] at e; exact e
    have nbn5 := free6 nbn
    have nct5 := free6 nct
    have nwc : w ≠ ct := ne_of_none hw5 nct5
    have nwb : w ≠ bn := ne_of_none hw5 nbn5
    have nsb : s ≠ bn := fun q => by rw [q, e7b] at e7s; cases e7s
    have nsc : s ≠ ct := fun q => by rw [q, e7c] at e7s; cases e7s
    have freeH : ∀ {b : Addr}, b ≠ w → H5 b = none → H b = none := fun {b} nb e => c5.free e fun m => nb (List.mem_singleton.mp m)
    have bnL : bn ∉ s :: ct :: L := fun m => by
      rcases List.mem_cons.mp m with q | m
      · exact nsb q.symm
      · rcases List.mem_cons.mp m with q | m
        · exact nbc q
        · exact alW.not nbn5 m
    have wL : w ∉ s :: ct :: L := fun m => by
      rcases List.mem_cons.mp m with q | m
      · exact nws q
      · rcases List.mem_cons.mp m with q | m
        · exact nwc q
        · exact hwL m
    -- the last heap
    have fin : ∀ {b : Addr} {o : HO}, b ≠ w → H7 b = some o → (upd (upd H7 w (.ins CW dw (putF "_state" (.ref s) (putF "things" (.ref t) [])))) w (.ins CW dw (putF "_log" .non (putF "_state" (.ref s) (putF "things" (.ref t) []))))) b = some o := fun {b o} nb e => by
      rw [upd_ne nb, upd_ne nb]; exact e
    have hwF : (upd (upd H7 w (.ins CW dw (putF "_state" (.ref s) (putF "things" (.ref t) [])))) w (.ins CW dw (putF "_log" .non (putF "_state" (.ref s) (putF "things" (.ref t) []))))) w = some (.ins CW dw (woF t s .non)) := by rw [upd_same, woF_made]
    generalize upd (upd H7 w (.ins CW dw (putF "_state" (.ref s) (putF "things" (.ref t) [])))) w (.ins CW dw (putF "_log" .non (putF "_state" (.ref s) (putF "things" (.ref t) [])))) = H9 at *
    have sub9 : Same (mask [w] (mask L H)) (mask (s :: ct :: L) H9) := fun b o e => by
      have e5 := sub5 b o e
      have nbw : b ≠ w := fun q => by rw [q, mask_in List.mem_cons_self] at e; cases e
      have nbL : b ∉ L := fun m => by
        rw [mask_out fun m2 => nbw (List.mem_singleton.mp m2), mask_in m] at e; cases e
      rw [mask_out fun m => by
        rcases List.mem_cons.mp m with q | m
        · exact ne_of_none e5 ns q
        · rcases List.mem_cons.mp m with q | m
          · exact ne_of_none e5 nct5 q
          · exact nbL m]
      exact fin nbw (keep7 b o e5)
    refine kk H9 s ct (fun b o nb e => fin nb (keep7 b o (c5 b o (fun m => nb (List.mem_singleton.mp m)) e))) (freeH nws.symm ns) (freeH nwc.symm nct5) ⟨dw, t, by rw [mask_out wL]; exact hwF, Same.seqT sub9 htW⟩ ⟨List.mem_cons_self, List.mem_cons_of_mem _ List.mem_cons_self, ds, bn, tl, l, fin nws.symm e7s, by rw [mask_out bnL]; exact fin nwb.symm e7b, hthW.same sub9, fin nwc.symm e7c, hcs _⟩
end
/-! ### what actions see of a state -/
section
variable {K : PySem.W.Frag} {L : List Addr} {H H' : Hp} {C CS s ct : Addr} {W : Ws}
theorem StAt.keep (h : StAt K L H C CS s ct W) (c : Same (mask L H) (mask L H')) (es : ∀ o, H s = some o → H' s = some o) (ec : ∀ o, H ct = some o → H' ct = some o) : StAt K L H' C CS s ct W := by
  obtain ⟨sL, cL, ds, bn, tl, l, h1, h2, h3, h4, h5⟩ := h
  exact ⟨sL, cL, ds, bn, tl, l, es _ h1, c _ _ h2, h3.same c, ec _ h4, h5.same c⟩
theorem StAt.same (h : StAt K L H C CS s ct W) (c : Same H H') : StAt K L H' C CS s ct W := h.keep (mask_same c) (fun o e => c _ _ e) fun o e => c _ _ e
theorem StAt.pool {p q : Addr} {n : Nat} (h : StAt K L H C CS s ct W) (P : PoolAt H p q n) (k : Keeps p q H H') (hp : p ∈ L) (hq : q ∈ L) : StAt K L H' C CS s ct W := by
  obtain ⟨_, cs, b, c, e1, e2, _⟩ := P
  have h' := h
  obtain ⟨sL, cL, ds, bn, tl, l, h1, h2, h3, h4, h5⟩ := h'
  have n1 : s ≠ p := fun z => by rw [z, e1] at h1; cases h1
  have n2 : s ≠ q := fun z => by rw [z, e2] at h1; cases h1
  have n3 : ct ≠ p := fun z => by rw [z, e1] at h4; cases h4
  have n4 : ct ≠ q := fun z => by rw [z, e2] at h4; cases h4
  exact h.keep (k.maskL hp hq) (fun o e => k _ _ n1 n2 e) fun o e => k _ _ n3 n4 e
theorem StAt.ne (h : StAt K L H C CS s ct W) : s ≠ ct := by
  obtain ⟨sL, cL, ds, bn, tl, l, h1, h2, h3, h4, h5⟩ := h
  intro z
  rw [z, h4] at h1
  cases h1
/-- the contents, read -/
theorem StAt.get {x : Str} {d : PyData} (h : StAt K L H C CS s ct W) (e : look W.cs x = some d) : ∃ v, DGet H ct (.str x) (some v) ∧ Dp K (mask L H) v d := by
  obtain ⟨sL, cL, ds, bn, tl, l, h1, h2, h3, h4, h5⟩ := h
  obtain ⟨v, e1, hd⟩ := h5.at e
  refine ⟨v, ?_, hd⟩
  have := DGet.k (k := Sum.inr x) h4
  rw [valV_kvs, e1] at this
  exact this
/-- one content, stored -/
theorem StAt.put {x : Str} {v : V} {d : PyData} (h : StAt K L H C CS s ct W) (hl : W.cs.length ≤ 100) (hd : Dp K (mask L H) v d) : ∃ H4, DPut H ct (.str x) v H4 ∧ (∃ o, H4 = upd H ct o) ∧ StAt K L H4 C CS s ct { W with cs := put W.cs x d } := by
  have hne := h.ne
  obtain ⟨sL, cL, ds, bn, tl, l, h1, h2, h3, h4, h5⟩ := h
  refine ⟨_, DPut.k (k := Sum.inr x) h4 (small1000 (by rw [kvs_len, h5.len]; omega)), ⟨_, rfl⟩, sL, cL, ds, bn, tl, Qp.put l x v, ?_, ?_, ?_, ?_, ?_⟩
  · rw [upd_ne hne]; exact h1
  · exact mask_at cL _ _ h2
  · exact h3.same (mask_at cL)
  · rw [upd_same, putK_kvs]
  · exact (h5.same (mask_at cL)).put (hd |> dp_same (mask_at cL) _ _)
theorem StAt.self (h : StAt K L H C CS s ct W) : ∃ ds bn, H s = some (.ins CS ds (stF bn ct W.ft W.sd W.sr)) := by
  obtain ⟨sL, cL, ds, bn, tl, l, h1, h2, h3, h4, h5⟩ := h
  exact ⟨ds, bn, h1⟩
/-- counters stored -/
theorem StAt.count {ds bn : Addr} {f sd sr : Nat} (h : StAt K L H C CS s ct W) (e : H s = some (.ins CS ds (stF bn ct W.ft W.sd W.sr))) : StAt K L (upd H s (.ins CS ds (stF bn ct f sd sr))) C CS s ct { W with ft := f, sd := sd, sr := sr } := by
  have hne := h.ne
  obtain ⟨sL, cL, ds', bn', tl, l, h1, h2, h3, h4, h5⟩ := h
  rw [h1] at e
  injection e with e
  injection e with e1 e2 e3
  injection e3 with e4 _
  injection e4 with _ e5
  injection e5 with e5
  subst e2 e5
  exact ⟨sL, cL, ds', bn', tl, l, upd_same, mask_at sL _ _ h2, h3.same (mask_at sL), by rw [upd_ne hne.symm]; exact h4, h5.same (mask_at sL)⟩
end
/-- what an action changes -/
theorem chg_ct {s ct : Addr} {H : Hp} {o : HO} : Chg [s, ct] H (upd H ct o) := .upd (List.mem_cons_of_mem _ List.mem_cons_self)
theorem chg_s {s ct : Addr} {H : Hp} {o : HO} : Chg [s, ct] H (upd H s o) := .upd List.mem_cons_self
theorem Chg.inL {s ct : Addr} {L : List Addr} {H H' : Hp} (c : Chg [s, ct] H H') (sL : s ∈ L) (cL : ct ∈ L) : Chg L H H' := c.more fun x m => by
  rcases List.mem_cons.mp m with rfl | m
  · exact sL
  · rw [List.mem_singleton.mp m]; exact cL
/-- an action's promise: from a world's model, what it is and gives next, and what it returns -/
def spAct (K : PySem.W.Frag) (C CS : Addr) (R : Ws → List PyData → Ws → PyData → Prop) : Sp := fun vs H Q _ => ∃ (L : List Addr) (s ct : Addr) (W W' : Ws) (args : List V) (ds : List PyData) (d : PyData), vs = .ref s :: args ∧ StAt K L H C CS s ct W ∧ W.cs.length ≤ 100 ∧ Alive L H ∧ DpAll K (mask L H) args ds ∧ R W ds W' d ∧
  ∀ v H', Chg [s, ct] H H' → StAt K L H' C CS s ct W' → Dp K (mask L H') v d → Q v H'
def pair (a b : Int) : PyData := .tuple [.int a, .int b]
def rRoll : Ws → List PyData → Ws → PyData → Prop := fun W ds W' d => ∃ x a b, ds = [.str x] ∧ look W.cs x = some (pair a b) ∧ W' = { W with cs := put W.cs x (pair a (b + 1)) } ∧ d = pair a b
def rSeed : Ws → List PyData → Ws → PyData → Prop := fun W ds W' d => ∃ x, ds = [.str x] ∧ W' = { W with cs := put W.cs x (pair (W.sd + 1) 0), sd := W.sd + 1 } ∧ d = .none
theorem dp_pair {K : PySem.W.Frag} {M : Hp} {v : V} {a b : Int} (h : Dp K M v (pair a b)) : ∃ t, v = .ref t ∧ SqT K M t [.int a, .int b] := by
  obtain ⟨t, xs, rfl, ht, hx⟩ := dp_tup h
  obtain ⟨v1, r, rfl, h1, hx⟩ := dpAll_cons hx
  obtain ⟨v2, r, rfl, h2, hx⟩ := dpAll_cons hx
  obtain rfl := dpAll_nil hx
  cases h1
  cases h2
  exact ⟨t, rfl, ht⟩
/-- a new pair -/
theorem new_pair {K : PySem.W.Frag} {L : List Addr} {H : Hp} {t : Addr} {a b : Int} (al : Alive L H) (nt : H t = none) : Dp K (mask L (upd H t (.tup [.int a, .int b]))) (.ref t) (pair a b) :=
  .tup (SqT.of (mask_upd (al.not nt))) (.cons (.int a) (.cons (.int b) .nil))
theorem Alive.upd {l : List Addr} {H : Hp} {a : Addr} {o : HO} (h : Alive l H) : Alive l (L2.upd H a o) := fun x m => by
  by_cases q : x = a
  · exact ⟨o, by rw [q, upd_same]⟩
  · rw [upd_ne q]; exact h x m
theorem args1 {K : PySem.W.Frag} {M : Hp} {args : List V} {x : Str} (h : DpAll K M args [.str x]) : args = [.str x] := by
  obtain ⟨v, r, rfl, h1, h2⟩ := dpAll_cons h
  obtain rfl := dpAll_nil h2
  cases h1
  rfl
/-! ### done, World.do, world[name] -/
/-- what the written part says of a deed's word -/
structure ActK (P : Program) (w : World) (K : PySem.W.Frag) (mg : Str → Option Value) (base : Heap) (C CS dP dA : Addr) (word : Str) (kinds : List Str) (R : Ws → List PyData → Ws → PyData → Prop) : Prop where
  parts : PartsK K w dP word kinds
  ex : ∃ f, KDct K w dA word (.ref f) ∧ FnR P w K mg base CX0 8 f (spAct K C CS R) ∧ PySem.W.keepIn K (.ref f) = true
def spDone (P : Program) (w : World) (K : PySem.W.Frag) (mg : Str → Option Value) (base : Heap) (dA : Addr) : Sp := fun vs H Q E => ∃ (s a : Addr) (word : Str) (args : List V) (f : Addr) (sp : Sp), vs = [.ref s, .ref a] ∧ SqT K H a (.str word :: args) ∧ KDct K w dA word (.ref f) ∧ FnR P w K mg base CX0 8 f sp ∧ PySem.W.keepIn K (.ref f) = true ∧ ∀ H1, Same H H1 → sp (.ref s :: args) H1 Q E0
/-- world.do(deed), the world unwatched -/
def spDo (P : Program) (w : World) (K : PySem.W.Frag) (mg : Str → Option Value) (base : Heap) (C CS CW dP dA : Addr) : Sp := fun vs H Q _ => ∃ (wo s ct a : Addr) (L : List Addr) (tvs : List V) (W W' : Ws) (word : Str) (args : List V) (ds : List PyData) (kinds : List Str) (R : Ws → List PyData → Ws → PyData → Prop) (d : PyData), vs = [.ref wo, .ref a] ∧
  WoAt K L H CW wo s tvs ∧ StAt K L H C CS s ct W ∧ SqT K (mask L H) a (.str word :: args) ∧ DpAll K (mask L H) args ds ∧ args.length ≤ 100 ∧ ActK P w K mg base C CS dP dA word kinds R ∧ Paired GoodArg kinds ds ∧ Paired (CheckArg W.th (ds.headD .none)) kinds ds ∧
  W.cs.length ≤ 100 ∧ Alive L H ∧ R W ds W' d ∧ ∀ v H', Chg [s, ct] H H' → StAt K L H' C CS s ct W' → Dp K (mask L H') v d → Q v H'
def spCont (K : PySem.W.Frag) (C CS CW : Addr) : Sp := fun vs H Q _ => ∃ (wo s ct : Addr) (L : List Addr) (tvs : List V) (W : Ws) (x : Str), vs = [.ref wo, .str x] ∧ WoAt K L H CW wo s tvs ∧ StAt K L H C CS s ct W ∧ Q (.bl (look W.cs x).isSome) H
def spItem (K : PySem.W.Frag) (C CS CW : Addr) : Sp := fun vs H Q _ => ∃ (wo s ct : Addr) (L : List Addr) (tvs : List V) (W : Ws) (x : Str) (d : PyData), vs = [.ref wo, .str x] ∧ WoAt K L H CW wo s tvs ∧ StAt K L H C CS s ct W ∧ look W.cs x = some d ∧ ∀ v, Dp K (mask L H) v d → Q v H
theorem WoAt.of {K : PySem.W.Frag} {L : List Addr} {H : Hp} {CW wo s : Addr} {tvs : List V} (h : WoAt K L H CW wo s tvs) : ∃ dw t, H wo = some (.ins CW dw (woF t s .non)) := by
  obtain ⟨dw, t, h1, _⟩ := h
  exact ⟨dw, t, mask_sub _ _ _ _ h1⟩
theorem WoAt.keep {K : PySem.W.Frag} {L : List Addr} {H H' : Hp} {CW wo s : Addr} {tvs : List V} (h : WoAt K L H CW wo s tvs) (c : Same (mask L H) (mask L H')) : WoAt K L H' CW wo s tvs := by
  obtain ⟨dw, t, h1, h2⟩ := h
  exact ⟨dw, t, c _ _ h1, Same.seqT c h2⟩
theorem StAt.dict {K : PySem.W.Frag} {L : List Addr} {H : Hp} {C CS s ct : Addr} {W : Ws} (h : StAt K L H C CS s ct W) : ∃ (ds bn : Addr) (tl : List (Str × V)), H s = some (.ins CS ds (stF bn ct W.ft W.sd W.sr)) ∧ H bn = some (.dK (kvs tl)) ∧ ThL K H C tl W.th := by
  obtain ⟨sL, cL, ds, bn, tl, l, h1, h2, h3, h4, h5⟩ := h
  exact ⟨ds, bn, tl, h1, mask_sub _ _ _ _ h2, h3.same (mask_sub _ _)⟩
theorem StAt.noneAt {K : PySem.W.Frag} {L : List Addr} {H : Hp} {C CS s ct : Addr} {W : Ws} (h : StAt K L H C CS s ct W) (x : Str) : ∃ o : Option V, DGet H ct (.str x) o ∧ o.isSome = (look W.cs x).isSome := by
  obtain ⟨sL, cL, ds, bn, tl, l, h1, h2, h3, h4, h5⟩ := h
  refine ⟨look l x, ?_, ?_⟩
  · have := DGet.k (k := Sum.inr x) h4
    rw [valV_kvs] at this
    exact this
  · cases e : look W.cs x with
    | none => rw [h5.none e]; rfl
    | some d =>
      obtain ⟨v, e1, _⟩ := h5.at e
      rw [e1]
      rfl
section
variable {P : Program} {w : World} {K : PySem.W.Frag} {mg : Str → Option Value} {base : Heap}
theorem scDn : FnScope ["state", "deed", "action", "rest"] ["state", "deed"] (defScope sDone) := ⟨rfl, rfl, rfl, by decide +kernel, rfl, by decide +kernel, by decide +kernel⟩
theorem ok_done {f dA : Addr} {fd : FuncData} (F : Fun K "done" "done" sDone f fd) (mA : mg "ACTIONS" = some (.ref dA)) : FnOk P w K mg base CX0 9 f fd ["state", "deed"] (spDone P w K mg base dA) := by
  refine F.ok scDn (fun vs H Q E h => ?_) (fun cdv A outer s0 H vs Q E hr h => ?_)
  · obtain ⟨s, a, word, args, f, sp, rfl, _⟩ := h
    rfl
  · obtain ⟨s, a, word, args, fa, sp, rfl, ht, hk, hF, hkp, kk⟩ := h
    refine ⟨_, pss_cons (ps_set (i := 2) scDn.nd rfl (.inl rfl) (pe_ix ix_kdict (pe_glob (v := .ref dA) rfl mA rfl) (pe_ix ix_tup (pv 1) pe_int (fun _ _ => rfl)) (fun _ _ => rfl)))
      (pss_cons (ps_set (i := 3) scDn.nd rfl (.inl rfl) (pe_slice sl_tup (pv 1) (po_some pe_int) po_none))
      (pss_one (ps_ret (pe_callLS (i := 2) (E := E0) hr rfl (.inl rfl) pass0 (pa_cons (pv 0) (StX.pa_star (pv 3) pa_nil)))))), ?_⟩
    refine ⟨_, rfl, a, _, 0, _, rfl, rfl, ht, atI_nat (j := 0) rfl, dA, word, .ref fa, rfl, rfl, hk, ?_⟩
    refine ⟨_, rfl, 1, rfl, a, _, rfl, ht, ?_, fun c nc => ?_⟩
    · rintro ⟨h2, _⟩
      rw [show HT.sIx (V.str word :: args).length 0 (some 1) = min 1 (V.str word :: args).length from HT.sIx_nat _ 0 1, List.length_cons] at h2
      omega
    rw [cut_tail]
    refine ⟨fa, sp, rfl, hF, hkp, _, rfl, _, rfl, c, args, rfl, .inl (SqT.of upd_same), ?_⟩
    show sp (V.ref s :: (args ++ [])) _ Q E0
    rw [List.append_nil]
    exact kk _ (same_new nc)
theorem scDo : FnScope ["self", "deed", "answer"] ["self", "deed"] (defScope (wo 1)) := ⟨rfl, rfl, rfl, by decide +kernel, rfl, by decide +kernel, by decide +kernel⟩
theorem ok_do {f fD fC fN C CS CW dP dA : Addr} {fd fdD fdC fdN : FuncData} (F : Fun K "do" "World.do" (wo 1) f fd) (S : StIn K mg CS) (W : WoIn K mg CW) (GD : FnOk P w K mg base CX0 9 fD fdD ["deed"] (spIsDeed K w dP)) (mD : mg "is_deed" = some (.ref fD)) (kD : PySem.W.keepIn K (.ref fD) = true) (bD : Binds K fdD ["deed"] [])
    (GC : FnOk P w K mg base CX0 9 fC fdC ["by_name", "deed"] (spCheck K w C dP)) (mC : mg "check_deed" = some (.ref fC)) (kC : PySem.W.keepIn K (.ref fC) = true) (bC : Binds K fdC ["by_name", "deed"] [])
    (GN : FnOk P w K mg base CX0 9 fN fdN ["state", "deed"] (spDone P w K mg base dA)) (mN : mg "done" = some (.ref fN)) (kN : PySem.W.keepIn K (.ref fN) = true) (bN : Binds K fdN ["state", "deed"] []) : FnOk P w K mg base CX0 10 f fd ["self", "deed"] (spDo P w K mg base C CS CW dP dA) := by
  refine F.ok scDo (fun vs H Q E h => ?_) (fun cdv A outer s0 H vs Q E hr h => ?_)
  · obtain ⟨wo', s, ct, a, L, tvs, W, W', word, args, ds, kinds, R, d, rfl, _⟩ := h
    rfl
  · obtain ⟨wo', s, ct, a, L, tvs, W1, W', word, args, ds, kinds, R, d, rfl, hW, hS, ht, hargs, hal, hA, hg, hc, hl, al, hR, kk⟩ := h
    refine ⟨_, pss_cons (ps_if (pt_not (pt_val (pe_call GD hr (by rfl) mD kD bD .nil pass0 (pa_cons (pv 1) pa_nil)))) (pss_one ps_never) pss_nil)
      (pss_cons (ps_expr (pe_call GC hr (by rfl) mC kC bC .nil pass0 (pa_cons (pe_fld (pe_fld (pv 0) rfl) rfl) (pa_cons (pv 1) pa_nil))))
      (pss_cons (ps_set (i := 2) scDo.nd rfl (.inl rfl) (pe_call GN hr (by rfl) mN kN bN .nil pass0 (pa_cons (pe_fld (pv 0) rfl) (pa_cons (pv 1) pa_nil))))
      (pss_cons (ps_if (pt_cmpR op_notN (pe_fld (pv 0) rfl) pe_non (nomark _)) (pss_one ps_never) pss_nil)
      (pss_one (ps_ret (pv 2)))))), ?_⟩
    obtain ⟨fa, hk, hF, hkp⟩ := hA.ex
    refine ⟨_, rfl, a, word, args, ds, kinds, rfl, Same.seqT (mask_sub _ _) ht, dpAll_same (mask_sub _ _) _ _ hargs, hA.parts, hal, hg, fun H1 s1 => ?_⟩
    refine ⟨_, rfl, iteF ?_⟩
    have hW1 := hW.keep (mask_same s1)
    have hS1 := hS.same s1
    have ht1 := Same.seqT (mask_same s1) ht
    have ha1 := dpAll_same (mask_same s1) _ _ hargs
    obtain ⟨dw, t, ew⟩ := hW1.of
    obtain ⟨ds0, bn, tl, es, ebn, hth⟩ := hS1.dict
    refine ⟨_, rfl, wo', CW, dw, _, _, rfl, ew, W.cls, W.ns, woF_s .., s, CS, ds0, _, _, rfl, es, S.cls, S.nb, stF_bn .., _, rfl, ?_⟩
    refine ⟨bn, a, tl, W1.th, word, args, ds, kinds, rfl, ebn, hth, Same.seqT (mask_sub _ _) ht1, dpAll_same (mask_sub _ _) _ _ ha1, hA.parts, hc, fun H2 s2 => ?_⟩
    have hW2 := hW1.keep (mask_same s2)
    have hS2 := hS1.same s2
    have ht2 := Same.seqT (mask_same s2) ht1
    have ha2 := dpAll_same (mask_same s2) _ _ ha1
    refine ⟨_, rfl, wo', CW, dw, _, _, rfl, s2 _ _ ew, W.cls, W.ns, woF_s .., _, rfl, ?_⟩
    refine ⟨s, a, word, args, fa, _, rfl, Same.seqT (mask_sub _ _) ht2, hk, hF, hkp, fun H3 s3 => ?_⟩
    refine ⟨L, s, ct, W1, W', args, ds, d, rfl, hS2.same s3, hl, al.same ((s1.trans s2).trans s3), dpAll_same (mask_same s3) _ _ ha2, hR, fun v H4 c4 hS4 hd4 => ?_⟩
    have hW4 := (hW2.keep (mask_same s3)).keep (c4.inL hS.sL hS.cL).mask
    obtain ⟨dw4, t4, ew4⟩ := hW4.of
    refine ⟨_, rfl, wo', CW, dw4, _, _, rfl, ew4, W.cls, W.nl, woF_l .., rfl, _, rfl, iteF ?_⟩
    exact ⟨_, rfl, kk v H4 ((Chg.of_same ((s1.trans s2).trans s3)).trans c4) hS4 hd4⟩
theorem scCo : FnScope ["self", "name"] ["self", "name"] (defScope (wo 6)) := ⟨rfl, rfl, rfl, by decide +kernel, rfl, by decide +kernel, by decide +kernel⟩
theorem ok_cont {f C CS CW : Addr} {fd : FuncData} {k : Nat} (F : Fun K "__contains__" "World.__contains__" (wo 6) f fd) (S : StIn K mg CS) (W : WoIn K mg CW) (B : Bts mg) : FnOk P w K mg base CX0 (k + 1) f fd ["self", "name"] (spCont K C CS CW) := by
  refine F.ok scCo (fun vs H Q E h => ?_) (fun cdv A outer s0 H vs Q E hr h => ?_)
  · obtain ⟨wo', s, ct, L, tvs, W, x, rfl, _⟩ := h
    rfl
  · obtain ⟨wo', s, ct, L, tvs, W1, x, rfl, hW, hS, kk⟩ := h
    have hu := hu_of hr
    refine ⟨_, pss_one (ps_ret (pe_and (pe_callB call_isi (by rfl) B.isinstance (by decide +kernel) (pa_cons (pv 1) (pa_cons (pe_bltn (v := .ty "str") (by rfl) B.str (by decide +kernel) rfl) pa_nil))) (pe_one (pe_cmp (pc_din hu (pv 1) (pe_fld (pe_fld (pv 0) rfl) rfl)) rfl)))), ?_⟩
    obtain ⟨dw, t, ew⟩ := hW.of
    obtain ⟨ds0, bn, es⟩ := hS.self
    obtain ⟨o, g, eo⟩ := hS.noneAt x
    refine ⟨_, rfl, _, _, _, _, true, rfl, .ty _, TyX.base (TyOf.str x), kit_ty (by decide +kernel), _, rfl, iteT ?_⟩
    refine ⟨_, rfl, _, rfl, wo', CW, dw, _, _, rfl, ew, W.cls, W.ns, woF_s .., s, CS, ds0, _, _, rfl, es, S.cls, S.nc, stF_ct .., ct, o, rfl, g, ?_⟩
    rw [eo]
    exact kk
theorem scIt : FnScope ["self", "name"] ["self", "name"] (defScope (wo 4)) := ⟨rfl, rfl, rfl, by decide +kernel, rfl, by decide +kernel, by decide +kernel⟩
theorem ok_item {f fC C CS CW : Addr} {fd : FuncData} {k : Nat} (F : Fun K "__getitem__" "World.__getitem__" (wo 4) f fd) (S : StIn K mg CS) (W : WoIn K mg CW) (hs : PySem.W.findIn K (.ref CW) "__contains__" = some (some (.ref fC))) (hf : PySem.W.isFn K (.ref fC) = true) (GC : FnR P w K mg base CX0 k fC (spCont K C CS CW)) :
    FnOk P w K mg base CX0 (k + 1) f fd ["self", "name"] (spItem K C CS CW) := by
  refine F.ok scIt (fun vs H Q E h => ?_) (fun cdv A outer s0 H vs Q E hr h => ?_)
  · obtain ⟨wo', s, ct, L, tvs, W, x, d, rfl, _⟩ := h
    rfl
  · obtain ⟨wo', s, ct, L, tvs, W1, x, d, rfl, hW, hS, e, kk⟩ := h
    have hu := hu_of hr
    refine ⟨_, pss_cons (ps_if (pt_cmpR (op_notInOwn hs hf GC hr pass0) (pv 1) (pv 0) (by rfl)) (pss_one ps_never) pss_nil)
      (pss_one (ps_ret (pe_dget hu (pe_fld (pe_fld (pv 0) rfl) rfl) (pv 1) (fun _ _ => rfl)))), ?_⟩
    obtain ⟨dw, t, ew⟩ := hW.of
    obtain ⟨ds0, bn, es⟩ := hS.self
    obtain ⟨v, g, hd⟩ := hS.get e
    refine ⟨_, rfl, _, rfl, wo', dw, _, rfl, ew, wo', s, ct, L, tvs, W1, x, rfl, hW, hS, _, rfl, _, rfl, ?_⟩
    rw [e]
    refine iteF ⟨_, rfl, wo', CW, dw, _, _, rfl, ew, W.cls, W.ns, woF_s .., s, CS, ds0, _, _, rfl, es, S.cls, S.nc, stF_ct .., _, rfl, ct, v, rfl, g, kk v hd⟩
end
/-! ### _law_names -/
theorem abc_is (k : Nat) (h : k < 26) : abc.cps.toList[k]? = some (97 + k) := by
  have all : ∀ k : Fin 26, abc.cps.toList[k.val]? = some (97 + k.val) := by decide +kernel
  exact all ⟨k, h⟩
theorem cps_app (a b : Str) : (a ++ b).cps.toList = a.cps.toList ++ b.cps.toList := by
  show (a.cps ++ b.cps).toList = _
  rw [Array.toList_append]
/-- the sign that tells a name from the others -/
def signOf (fr : Bool) (z : Str) : Option Nat := if fr = true then z.cps.toList.head? else z.cps.toList.getLast?
theorem sign_front (c : Nat) (w : Str) : signOf true ((⟨#[c]⟩ : Str) ++ w) = some c := by
  unfold signOf
  rw [if_pos rfl, cps_app]
  rfl
theorem sign_back (c : Nat) (w : Str) : signOf false (w ++ (⟨#[c]⟩ : Str)) = some c := by
  unfold signOf
  rw [if_neg (by decide), cps_app]
  show (w.cps.toList ++ [c]).getLast? = some c
  rw [List.getLast?_append]
  rfl
theorem signs_nodup {fr : Bool} {ns : List Str} (h : ∀ (j : Nat) (z : Str), ns[j]? = some z → signOf fr z = some (97 + j)) : ns.Nodup := by
  refine List.pairwise_iff_getElem.mpr fun i j hi hj hij e => ?_
  have h1 := h i _ (List.getElem?_eq_getElem hi)
  have h2 := h j _ (List.getElem?_eq_getElem hj)
  rw [e, h2] at h1
  have := Option.some.inj h1
  omega
theorem strLen_one (c : Nat) : (⟨#[c]⟩ : Str).length = 1 := rfl
def spLNames : Sp := fun vs H Q _ => ∃ (p q : Addr) (n many : Nat), vs = [.ref p, .int (many : Int)] ∧ PoolAt H p q n ∧ n < 900000 ∧ many ≤ 26 ∧
  ∀ (r : Addr) (ns : List Str) (n' : Nat) (H' : Hp), H r = none → ns.length = many → (∀ x ∈ ns, IsWord x) → ns.Nodup → n ≤ n' → n' ≤ n + 2 + 8 * many → PoolAt H' p q n' → Keeps p q H H' → H' r = some (.lst (ns.map V.str)) → Q (.ref r) H'
section
variable {P : Program} {w : World} {K : PySem.W.Frag} {mg : Str → Option Value} {base : Heap}
theorem scLN : FnScope ["pool", "many", "letters", "size", "front", "names", "k", "word", "j"] ["pool", "many"] (defScope sLNames) := ⟨rfl, rfl, rfl, by decide +kernel, rfl, by decide +kernel, by decide +kernel⟩
theorem ok_lnames {f fD : Addr} {fd fdD : FuncData} (F : Fun K "_law_names" "_law_names" sLNames f fd) (GD : FnOk P w K mg base CX0 1 fD fdD ["pool", "many"] spDraw) (mD : mg "_law_draw" = some (.ref fD)) (kD : PySem.W.keepIn K (.ref fD) = true)
    (bD : Binds K fdD ["pool", "many"] []) (mr : mg "range" = none) : FnOk P w K mg base CX0 2 f fd ["pool", "many"] spLNames := by
  refine F.ok scLN (fun vs H Q E h => ?_) (fun cdv A outer s H vs Q E hr h => ?_)
  · obtain ⟨p, q, n, many, rfl, _⟩ := h
    rfl
  · obtain ⟨p, q, n, many, rfl, hP, hn, hm, kk⟩ := h
    refine ⟨_, pss_cons (ps_set (i := 2) scLN.nd rfl (.inr rfl) pe_str)
      (pss_cons (ps_set (i := 3) scLN.nd rfl (.inl rfl) (pe_call GD hr (by rfl) mD kD bD .nil pass0 (pa_cons (pv 0) (pa_cons pe_int pa_nil))))
      (pss_cons (ps_set (i := 4) scLN.nd rfl (.inl rfl) (pe_call GD hr (by rfl) mD kD bD .nil pass0 (pa_cons (pv 0) (pa_cons pe_int pa_nil))))
      (pss_cons (ps_set (i := 5) scLN.nd rfl (.inl rfl) (pe_lst pa_nil))
      (pss_cons (ps_for PassesOwn.never rfl (pi_range1 (by rfl) mr (pa_cons (pv 1) pa_nil)) (pg_name (i := 6) scLN.nd rfl (.inl rfl))
        (pss_cons (ps_set (i := 7) scLN.nd rfl (.inl rfl) (pe_join pe_str (pe_lc (own := [("j", 8)]) (g := gName 8) (tt := tYes) rfl scLN.nd
            (pi_range1 (by rfl) mr (pa_cons (pv 3) pa_nil)) (blkOk_by (N := ["pool", "many", "letters", "size", "front", "names", "k", "word", "j"]) (sc := defScope sLNames) (by decide +kernel))
            (fun _ _ _ _ _ => pg_name (i := 8) scLN.nd rfl (.inl rfl)) (fun _ _ _ _ _ => pts_nil)
            (fun _ _ _ _ _ => pe_ix ix_str (pv 2) (pe_call GD hr (by rfl) mD kD bD .nil pass0 (pa_cons (pv 0) (pa_cons pe_int pa_nil))) (fun _ _ => rfl)))))
        (pss_one (ps_expr (pe_bm PySem.F.plainAttrs_list PySem.F.slot_list_append PySem.F.type_list_append mt_append (pv 5)
          (pa_cons (pe_ifExp (pt_truth (pv 4) (by intro _; rfl)) (pe_op op_add_str (pe_ix ix_str (pv 2) (pv 6) (fun _ _ => rfl)) (pv 7)) (pe_op op_add_str (pv 7) (pe_ix ix_str (pv 2) (pv 6) (fun _ _ => rfl)))) pa_nil))))))
      (pss_one (ps_ret (pv 5))))))), ?_⟩
    refine ⟨.ref p, rfl, p, q, n, 8, rfl, hP, by omega, by decide, by decide, fun d H1 h0 h1 P1 K1 => ?_⟩
    refine ⟨.ref p, rfl, p, q, n + 1, 2, rfl, P1, by omega, by decide, by decide, fun fr H2 f0 f1 P2 K2 => ?_⟩
    refine ⟨by show 0 ≤ sizeLine; decide, fun r nr => ?_⟩
    have K12 : Keeps p q H H2 := K1.trans K2
    have alv : Alive [p, q] H2 := P2.alive
    have nrp : r ≠ p := fun z => alv.not nr (by rw [z]; exact List.mem_cons_self)
    have nrq : r ≠ q := fun z => alv.not nr (by rw [z]; exact List.mem_cons_of_mem _ List.mem_cons_self)
    have nrH : H r = none := K12.free nr nrp nrq
    have er : (upd H2 r (.lst [])) r = some (.lst (([] : List Str).map V.str)) := upd_same
    have P3 : PoolAt (upd H2 r (.lst [])) p q (n + 2) := P2.new nr
    have K3 : Keeps p q H (upd H2 r (.lst [])) := K12.trans (.upd_new nr)
    generalize upd H2 r (.lst []) = H3 at *
    have fb : ∃ fb : Bool, fb = (fr != 0) := ⟨_, rfl⟩
    obtain ⟨fb, efb⟩ := fb
    refine ⟨_, rfl, many, rfl, by omega, by omega, for_range (lo := 0) (n := many) (fun i σ H4 => ∃ (y6 y7 : Option V) (ns : List Str) (m : Nat), σ = [some (.ref p), some (.int (many : Int)), some (.str abc), some (.int d), some (.int fr), some (.ref r), y6, y7, none] ∧
        H4 r = some (.lst (ns.map V.str)) ∧ ns.length = i ∧ (∀ x ∈ ns, IsWord x) ∧ (∀ (j : Nat) (z : Str), ns[j]? = some z → signOf fb z = some (97 + j)) ∧ n ≤ m ∧ m ≤ n + 2 + 8 * i ∧ PoolAt H4 p q m ∧ (∀ x o, x ≠ p → x ≠ q → x ≠ r → H3 x = some o → H4 x = some o))
      ⟨none, none, [], n + 2, rfl, er, rfl, fun x h => (by cases h), fun j z h => (by simp at h), by omega, by omega, P3, fun x o _ _ _ e => e⟩ ?_ ?_⟩
    · rintro i σ H4 hi ⟨y6, y7, ns, m, rfl, eN, el, hw, hsg, hm1, hm2, P4, K4⟩
      refine ⟨⟨_, rfl⟩, .int d, rfl, d, rfl, by omega, by omega, fun D nD => ?_⟩
      obtain ⟨op, ep⟩ := P4.p_some
      obtain ⟨oq, eq⟩ := P4.q_some
      have nDp : D ≠ p := (ne_of_none ep nD).symm
      have nDq : D ≠ q := (ne_of_none eq nD).symm
      have nDr : D ≠ r := (ne_of_none eN nD).symm
      refine lc_range (lo := 0) (n := d.toNat) (fun j H5 => ∃ ys : List Str, H5 D = some (.lst (ys.map V.str)) ∧ ys.length = j ∧ (∀ y ∈ ys, ∃ c, y = ⟨#[c]⟩ ∧ 97 ≤ c ∧ c ≤ 122) ∧ PoolAt H5 p q (m + j) ∧ Keeps p q H4 H5)
        ⟨[], upd_same, rfl, fun y hy => (by cases hy), P4.new nD, .upd_new nD⟩ (fun j H5 hj hI => ?_) (fun H5 hI => ?_)
      · obtain ⟨ys, eD, el2, hy, P5, K5⟩ := hI
        refine ⟨rfl, ?_⟩
        refine ⟨_, rfl, _, rfl, p, q, m + j, 26, rfl, P5, by omega, by decide, by decide, fun d2 H6 h02 h12 P6 K6 => ?_⟩
        obtain ⟨c, ec, hc1, hc2⟩ := abc_at d2 h02 h12
        have eD6 : H6 D = some (.lst (ys.map V.str)) := K6 D _ nDp nDq eD
        refine ⟨abc, d2, c, rfl, rfl, by rw [abc_len]; decide, ec, _, eD6, small1000 (by rw [List.length_map]; omega), ys ++ [⟨#[c]⟩], ?_, by simp [el2], fun y hm => ?_, ?_, ?_⟩
        · rw [upd_same, List.map_append]; rfl
        · rcases List.mem_append.mp hm with hm | hm
          · exact hy y hm
          · exact ⟨c, List.mem_singleton.mp hm, hc1, hc2⟩
        · have e : m + (j + 1) = m + j + 1 := by omega
          rw [e]
          obtain ⟨npq, cs, b, c0, e1, e2, r⟩ := P6
          exact ⟨npq, cs, b, c0, by rw [upd_ne nDp.symm]; exact e1, by rw [upd_ne nDq.symm]; exact e2, r⟩
        · intro x o hx1 hx2 nH
          have ex := K6 x o hx1 hx2 (K5 x o hx1 hx2 nH)
          by_cases hxD : x = D
          · subst hxD
            rw [nH] at nD
            cases nD
          · rw [upd_ne hxD]; exact ex
      · obtain ⟨ys, eD, el2, hy, P5, K5⟩ := hI
        obtain ⟨j1, j2⟩ := join_letters (sep := "") (by decide +kernel) ys hy
        have e1 : ∀ y ∈ ys, y.length = 1 := fun y hm => by
          obtain ⟨c, rfl, _⟩ := hy y hm
          rfl
        have e2 : (ys.map (·.length)).sum = ys.length := sum_ones _ e1
        refine ⟨_, D, ys, rfl, rfl, .inl (SqL.of eD), ?_, ?_⟩
        · rw [e2, show (Str.ofString "").length = 0 by decide +kernel]; omega
        rw [show Txt.join _ ys = Str.join _ ys from StrLaws.glued_eq_join _ _]
        generalize hwd : Str.join _ ys = wd at j1 j2 ⊢
        have eN5 : H5 r = some (.lst (ns.map V.str)) := K5 r _ nrp nrq eN
        have hk : abc.cps.toList[i]? = some (97 + i) := abc_is i (by omega)
        have hat : atI abc.cps.toList (0 + (i : Int)) = some (97 + i) := by rw [Int.zero_add]; exact atI_nat hk
        have fin : ∀ z : Str, IsWord z → signOf fb z = some (97 + i) → ∃ (y6 y7 : Option V) (ns' : List Str) (m' : Nat), [some (V.ref p), some (.int (many : Int)), some (.str abc), some (.int d), some (.int fr), some (.ref r), some (.int (0 + (i : Int))), some (.str wd), none] = [some (V.ref p), some (.int (many : Int)), some (.str abc), some (.int d), some (.int fr), some (.ref r), y6, y7, none] ∧
            (upd H5 r (.lst (ns.map V.str ++ [.str z]))) r = some (.lst (ns'.map V.str)) ∧ ns'.length = i + 1 ∧ (∀ x ∈ ns', IsWord x) ∧ (∀ (j : Nat) (z : Str), ns'[j]? = some z → signOf fb z = some (97 + j)) ∧ n ≤ m' ∧ m' ≤ n + 2 + 8 * (i + 1) ∧ PoolAt (upd H5 r (.lst (ns.map V.str ++ [.str z]))) p q m' ∧ (∀ x o, x ≠ p → x ≠ q → x ≠ r → H3 x = some o → (upd H5 r (.lst (ns.map V.str ++ [.str z]))) x = some o) := fun z hz hs => by
          refine ⟨_, _, ns ++ [z], m + d.toNat, rfl, by rw [upd_same, List.map_append]; rfl, by rw [List.length_append, el]; rfl, fun x hx => ?_, fun j z' ej => ?_, by omega, by omega, ?_, fun x o h1 h2 h3 e => ?_⟩
          · rcases List.mem_append.mp hx with hx | hx
            · exact hw x hx
            · rw [List.mem_singleton.mp hx]; exact hz
          · by_cases q1 : j < ns.length
            · rw [List.getElem?_append_left q1] at ej
              exact hsg j z' ej
            · rw [List.getElem?_append_right (by omega)] at ej
              have ej0 : j = i := by
                have := (List.getElem?_eq_some_iff.mp ej).1
                simp only [List.length_cons, List.length_nil] at this
                omega
              subst ej0
              rw [el, Nat.sub_self] at ej
              cases Option.some.inj ej
              exact hs
          · obtain ⟨npq, cs, b, c0, e1, e2, r'⟩ := P5
            exact ⟨npq, cs, b, c0, by rw [upd_ne nrp.symm]; exact e1, by rw [upd_ne nrq.symm]; exact e2, r'⟩
          · rw [upd_ne h3]
            exact K5 x o h1 h2 (K4 x o h1 h2 h3 e)
        have len1 : ∀ c : Nat, (⟨#[c]⟩ : Str).length = 1 := fun _ => rfl
        have l8 : ys.length = d.toNat := el2
        refine ⟨_, rfl, .inl ⟨rfl, _, SqL.of eN5⟩, _, rfl, fb, ?_, ?_⟩
        · rw [efb]; rfl
        · cases efb2 : fb with
          | true =>
            rw [efb2] at fin
            refine iteT ⟨_, rfl, _, rfl, abc, _, _, rfl, rfl, by rw [abc_len]; decide, hat, _, rfl, _, _, rfl, rfl, ?_, ?_⟩
            · rw [len1]; exact len1000 (by omega)
            · refine ⟨r, _, _, rfl, rfl, eN5, small1000 (by rw [List.length_map]; omega), ?_⟩
              refine fin _ ⟨?_, ?_, fun c hc => ?_⟩ (sign_front _ _)
              · rw [strLen_append, len1]; omega
              · rw [strLen_append, len1]; omega
              · rw [cps_app] at hc
                rcases List.mem_append.mp hc with hc | hc
                · rw [List.mem_singleton.mp hc]; omega
                · exact j2 c hc
          | false =>
            rw [efb2] at fin
            refine iteF ⟨_, rfl, _, rfl, _, rfl, abc, _, _, rfl, rfl, by rw [abc_len]; decide, hat, _, _, rfl, rfl, ?_, ?_⟩
            · rw [len1]; exact len1000 (by omega)
            · refine ⟨r, _, _, rfl, rfl, eN5, small1000 (by rw [List.length_map]; omega), ?_⟩
              refine fin _ ⟨?_, ?_, fun c hc => ?_⟩ (sign_back _ _)
              · rw [strLen_append, len1]; omega
              · rw [strLen_append, len1]; omega
              · rw [cps_app] at hc
                rcases List.mem_append.mp hc with hc | hc
                · exact j2 c hc
                · rw [List.mem_singleton.mp hc]; omega
    · rintro σ H4 ⟨y6, y7, ns, m, rfl, eN, el, hw, hsg, hm1, hm2, P4, K4⟩
      refine ⟨_, rfl, ?_⟩
      exact kk r ns m H4 nrH el hw (signs_nodup hsg) hm1 hm2 P4 (fun x o h1 h2 e => K4 x o h1 h2 (ne_of_none e nrH) (K3 x o h1 h2 e)) eN
end
/-! ### what the laws of worlds call -/
structure WDefs (P : Program) (w : World) (K : PySem.W.Frag) (mg : Str → Option Value) (base : Heap) where
  (C CS CW dP dA : Addr)
  T : ThIn K mg C
  S : StIn K mg CS
  W : WoIn K mg CW
  B : Bts mg
  (fP fD fL fS : Addr)
  (xP xD xL xS : FuncData)
  gP : FnOk P w K mg base CX0 1 fP xP ["script"] (spPool K)
  gD : FnOk P w K mg base CX0 1 fD xD ["pool", "many"] spDraw
  gL : FnOk P w K mg base CX0 2 fL xL ["pool", "many"] spLNames
  gS : FnOk P w K mg base CX0 3 fS xS ["actual", "due"] (spSame K 3)
  bP : Binds K xP ["script"] []
  bD : Binds K xD ["pool", "many"] []
  bL : Binds K xL ["pool", "many"] []
  bS : Binds K xS ["actual", "due"] []
  mP : mg "_law_pool" = some (.ref fP)
  mD : mg "_law_draw" = some (.ref fD)
  mL : mg "_law_names" = some (.ref fL)
  mS : mg "_law_same" = some (.ref fS)
  kP : PySem.W.keepIn K (.ref fP) = true
  kD : PySem.W.keepIn K (.ref fD) = true
  kL : PySem.W.keepIn K (.ref fL) = true
  kS : PySem.W.keepIn K (.ref fS) = true
  td : Tdefs P w K mg base C
  fW : Addr
  MW : Mk K CW fW
  gW : FnR P w K mg base CX0 4 fW (spWInit K C CS CW)
  fDo : Addr
  xDo : FuncData
  mDo : Meth K CW "do" fDo
  gDo : FnOk P w K mg base CX0 10 fDo xDo ["self", "deed"] (spDo P w K mg base C CS CW dP dA)
  bDo : Binds K xDo ["self", "deed"] []
  fIt : Addr
  aIt : PySem.W.findIn K (.ref CW) "__getitem__" = some (some (.ref fIt))
  nIt : PySem.W.fnIn K fIt = true
  hIt : PySem.W.isFn K (.ref fIt) = true
  gIt : FnR P w K mg base CX0 5 fIt (spItem K C CS CW)
theorem smeth_of {P : Program} {w : World} {K : PySem.W.Frag} {mg : Str → Option Value} {base : Heap} (G : WDefs P w K mg base) {m : Str} (h : m ∈ [("feed" : Str), "dice", "source", "flag", "slot"]) : ∃ p g, SMet K G.C m p g ∧ FnR P w K mg base CX0 5 g (spMk K G.C m) := G.td.one m h
/-- a list or tuple of two numbers, and the like -/
theorem look2a {α : Type} {n0 n1 : Str} {a b : α} : look [(n0, a), (n1, b)] n0 = some a := look_pos (p := (n0, a)) rfl
theorem look2b {α : Type} {n0 n1 : Str} {a b : α} (h : n0 ≠ n1) : look [(n0, a), (n1, b)] n1 = some b := by
  rw [look_neg (p := (n0, a)) h]
  exact look_pos (p := (n1, b)) rfl
theorem put2a {α : Type} {n0 n1 : Str} {a b c : α} (h : n0 ≠ n1) : put [(n0, a), (n1, b)] n0 c = [(n0, c), (n1, b)] := by
  simp [put, h.symm]
theorem put2b {α : Type} {n0 n1 : Str} {a b c : α} (h : n0 ≠ n1) : put [(n0, a), (n1, b)] n1 c = [(n0, a), (n1, c)] := by
  simp [put, h]
/-- one more that may change: a new object -/
theorem mask_more {L : List Addr} {H : Hp} {b : Addr} {o : HO} (n : H b = none) : Same (mask L H) (mask (b :: L) (upd H b o)) := (mask_new n).trans (mask_at List.mem_cons_self)
theorem StAt.more {K : PySem.W.Frag} {L : List Addr} {H : Hp} {C CS s ct b : Addr} {o : HO} {W : Ws} (h : StAt K L H C CS s ct W) (n : H b = none) : StAt K (b :: L) (upd H b o) C CS s ct W := by
  obtain ⟨sL, cL, ds, bn, tl, l, h1, h2, h3, h4, h5⟩ := h
  have s2 := mask_more (L := L) (o := o) n
  exact ⟨List.mem_cons_of_mem _ sL, List.mem_cons_of_mem _ cL, ds, bn, tl, l, by rw [upd_ne (ne_of_none h1 n)]; exact h1, s2 _ _ h2, h3.same s2, by rw [upd_ne (ne_of_none h4 n)]; exact h4, h5.same s2⟩
theorem WoAt.more {K : PySem.W.Frag} {L : List Addr} {H : Hp} {CW wo s b : Addr} {o : HO} {tvs : List V} (h : WoAt K L H CW wo s tvs) (n : H b = none) : WoAt K (b :: L) (upd H b o) CW wo s tvs := by
  obtain ⟨dw, t, h1, h2⟩ := h
  have s2 := mask_more (L := L) (o := o) n
  exact ⟨dw, t, s2 _ _ h1, Same.seqT s2 h2⟩
/-- a change of what is neither the state nor its dict -/
theorem StAt.upd {K : PySem.W.Frag} {L : List Addr} {H : Hp} {C CS s ct b : Addr} {o : HO} {W : Ws} (h : StAt K L H C CS s ct W) (m : b ∈ L) (n1 : b ≠ s) (n2 : b ≠ ct) : StAt K L (L2.upd H b o) C CS s ct W :=
  h.keep (mask_at m) (fun u e => by rw [upd_ne n1.symm]; exact e) fun u e => by rw [upd_ne n2.symm]; exact e
theorem PoolAt.upd {H : Hp} {p q b : Addr} {n : Nat} {o : HO} (h : PoolAt H p q n) (n1 : b ≠ p) (n2 : b ≠ q) : PoolAt (L2.upd H b o) p q n := by
  obtain ⟨npq, cs, x, c0, e1, e2, r⟩ := h
  exact ⟨npq, cs, x, c0, by rw [upd_ne n1.symm]; exact e1, by rw [upd_ne n2.symm]; exact e2, r⟩
theorem PoolAt.chg {l : List Addr} {H H' : Hp} {p q : Addr} {n : Nat} (h : PoolAt H p q n) (c : Chg l H H') (n1 : p ∉ l) (n2 : q ∉ l) : PoolAt H' p q n := by
  obtain ⟨npq, cs, x, c0, e1, e2, r⟩ := h
  exact ⟨npq, cs, x, c0, c _ _ n1 e1, c _ _ n2 e2, r⟩
/-- objects of unlike kinds -/
theorem StAt.not_lst {K : PySem.W.Frag} {L : List Addr} {H : Hp} {C CS s ct b : Addr} {W : Ws} {xs : List V} (h : StAt K L H C CS s ct W) (e : H b = some (.lst xs)) : b ∉ [s, ct] := by
  obtain ⟨sL, cL, ds, bn, tl, l, h1, h2, h3, h4, h5⟩ := h
  intro m
  rcases List.mem_cons.mp m with z | m
  · rw [z, h1] at e; cases e
  · rw [List.mem_singleton.mp m, h4] at e; cases e
/-! ### flags, slots -/
def rLift : Ws → List PyData → Ws → PyData → Prop := fun W ds W' d => ∃ x, ds = [.str x] ∧ W' = { W with cs := put W.cs x (.bool true) } ∧ d = .none
def rRead : Ws → List PyData → Ws → PyData → Prop := fun W ds W' d => ∃ x, ds = [.str x] ∧ look W.cs x = some d ∧ W' = { W with cs := put W.cs x (.bool false) }
def rValue : Ws → List PyData → Ws → PyData → Prop := fun W ds W' d => ∃ x, ds = [.str x] ∧ look W.cs x = some d ∧ W' = W
def rKeep : Ws → List PyData → Ws → PyData → Prop := fun W ds W' d => ∃ x, ds = [.str x] ∧ W' = { W with cs := put W.cs x (.int ((W.sr + 1 : Nat) : Int)), sr := W.sr + 1 } ∧ d = .none
def rCopy : Ws → List PyData → Ws → PyData → Prop := fun W ds W' d => ∃ x y d0, ds = [.str x, .str y] ∧ look W.cs y = some d0 ∧ W' = { W with cs := put W.cs x d0 } ∧ d = .none
def isSomeD : PyData → Bool
  | .none => false
  | _ => true
def rBound : Ws → List PyData → Ws → PyData → Prop := fun W ds W' d => ∃ x d0, ds = [.str x] ∧ look W.cs x = some d0 ∧ W' = W ∧ d = .bool (isSomeD d0)
def rMark : Ws → List PyData → Ws → PyData → Prop := fun W ds W' d => ∃ x m, ds = [.str x, .str m] ∧ W' = { W with cs := put W.cs x (.str m) } ∧ d = .none
theorem args2 {K : PySem.W.Frag} {M : Hp} {args : List V} {x y : Str} (h : DpAll K M args [.str x, .str y]) : args = [.str x, .str y] := by
  obtain ⟨v, r, rfl, h1, h2⟩ := dpAll_cons h
  obtain rfl := args1 h2
  cases h1
  rfl
/-- new_serial() -/
def spSerial (K : PySem.W.Frag) (C CS : Addr) : Sp := fun vs H Q _ => ∃ (L : List Addr) (s ct : Addr) (W : Ws), vs = [.ref s] ∧ StAt K L H C CS s ct W ∧ Alive L H ∧ ∀ H', Chg [s, ct] H H' → StAt K L H' C CS s ct { W with sr := W.sr + 1 } → Alive L H' → Q (.int ((W.sr + 1 : Nat) : Int)) H'
section
variable {P : Program} {w : World} {K : PySem.W.Frag} {mg : Str → Option Value} {base : Heap}
theorem scVa : FnScope ["state", "name"] ["state", "name"] (defScope sValue) := ⟨rfl, rfl, rfl, by decide +kernel, rfl, by decide +kernel, by decide +kernel⟩
theorem ok_value {f C CS : Addr} {fd : FuncData} (F : Fun K "_value" "_value" sValue f fd) (S : StIn K mg CS) : FnOk P w K mg base CX0 1 f fd ["state", "name"] (spAct K C CS rValue) := by
  refine F.ok scVa (fun vs H Q E h => ?_) (fun cdv A outer s0 H vs Q E hr h => ?_)
  · obtain ⟨L, s, ct, W, W', args, ds, d, rfl, _, _, _, ha, ⟨x, rfl, _⟩, _⟩ := h
    rw [args1 ha]; rfl
  · obtain ⟨L, s, ct, W, W', args, ds, d, rfl, hS, hl, al, ha, ⟨x, rfl, e, rfl⟩, kk⟩ := h
    obtain rfl := args1 ha
    have hu := hu_of hr
    refine ⟨_, pss_one (ps_ret (pe_dget hu (pe_fld (pv 0) rfl) (pv 1) (fun _ _ => rfl))), ?_⟩
    obtain ⟨ds0, bn, es⟩ := hS.self
    obtain ⟨v, g, hd⟩ := hS.get e
    exact ⟨_, rfl, s, CS, ds0, _, _, rfl, es, S.cls, S.nc, stF_ct .., _, rfl, ct, v, rfl, g, kk v _ (.refl _ _) hS hd⟩
theorem scNs : FnScope ["self"] ["self"] (defScope (st 3)) := ⟨rfl, rfl, rfl, by decide +kernel, rfl, by decide +kernel, by decide +kernel⟩
theorem ok_serial {f C CS : Addr} {fd : FuncData} (F : Fun K "new_serial" "State.new_serial" (st 3) f fd) (S : StIn K mg CS) : FnOk P w K mg base CX0 1 f fd ["self"] (spSerial K C CS) := by
  refine F.ok scNs (fun vs H Q E h => ?_) (fun cdv A outer s0 H vs Q E hr h => ?_)
  · obtain ⟨L, s, ct, W, rfl, _⟩ := h
    rfl
  · obtain ⟨L, s, ct, W, rfl, hS, al, kk⟩ := h
    refine ⟨_, pss_cons (ps_fldaug (pv 0) pe_int in_add) (pss_one (ps_ret (pe_fld (pv 0) rfl))), ?_⟩
    obtain ⟨ds0, bn, es⟩ := hS.self
    refine ⟨_, rfl, s, CS, ds0, _, _, rfl, es, S.cls, S.nr, stF_sr .., _, _, rfl, rfl, ds0, _, es, stF_len .., ?_⟩
    have ez : ((W.sr : Int) + 1) = ((W.sr + 1 : Nat) : Int) := by omega
    have eF : putF "serials" (.int ((W.sr : Int) + 1)) (stF bn ct W.ft W.sd W.sr) = stF bn ct W.ft W.sd (W.sr + 1) := by rw [ez]; exact stF_ser ..
    rw [eF]
    have hS1 := hS.count (f := W.ft) (sd := W.sd) (sr := W.sr + 1) es
    exact ⟨_, rfl, s, CS, ds0, _, _, rfl, upd_same, S.cls, S.nr, stF_sr .., kk _ chg_s hS1 al.upd⟩
end
/-! ### sources and fields -/
def rRenew : Ws → List PyData → Ws → PyData → Prop := fun W ds W' d => ∃ x, ds = [.str x] ∧ W' = { W with cs := put W.cs x .none } ∧ d = .none
def rSpy : Ws → List PyData → Ws → PyData → Prop := fun W ds W' d => ∃ x, ds = [.str x] ∧ W' = W ∧ d = .none
/-- a look, so deep at most -/
inductive LookR (th : Ths) : Nat → List (Str × PyData) → Str → List (Str × PyData) → PyData → Prop where
  | full {n : Nat} {cs : List (Str × PyData)} {x : Str} {d : PyData} (e : look cs x = some d) (h : d ≠ .none) : LookR th n cs x cs d
  | down {n : Nat} {cs cs' : List (Str × PyData)} {x o k : Str} {r : List Str} {d : PyData} (e : look cs x = some .none) (t : look th x = some (k, o :: r)) (h : LookR th n cs o cs' d) : LookR th (n + 1) cs x (put cs' x d) d
theorem LookR.has {th : Ths} {n : Nat} {cs cs' : List (Str × PyData)} {x : Str} {d : PyData} (h : LookR th n cs x cs' d) : names cs' = names cs ∧ cs'.length = cs.length := by
  induction h with
  | full e h => exact ⟨rfl, rfl⟩
  | @down n cs cs' x o k r d e t h ih =>
    obtain ⟨v, ev⟩ := look_some (l := cs') (n := x) (by rw [ih.1]; exact List.mem_map.mpr ⟨_, look_mem e, rfl⟩)
    exact ⟨by rw [put_names ev]; exact ih.1, by rw [put_len ev]; exact ih.2⟩
def rLookN (n : Nat) : Ws → List PyData → Ws → PyData → Prop := fun W ds W' d => ∃ x cs', ds = [.str x] ∧ LookR W.th n W.cs x cs' d ∧ W' = { W with cs := cs' }
theorem StAt.thing {K : PySem.W.Frag} {L : List Addr} {H : Hp} {C CS s ct : Addr} {W : Ws} {x k : Str} {parts : List Str} (h : StAt K L H C CS s ct W) (e : look W.th x = some (k, parts)) : ∃ ds bn a, H s = some (.ins CS ds (stF bn ct W.ft W.sd W.sr)) ∧ DGet H bn (.str x) (some (.ref a)) ∧ ThingAt K H C a k x parts := by
  obtain ⟨ds, bn, tl, es, eb, hth⟩ := h.dict
  obtain ⟨a, e1, e2⟩ := hth.at e
  refine ⟨ds, bn, a, es, ?_, e2⟩
  have := DGet.k (k := Sum.inr x) eb
  rw [valV_kvs, e1] at this
  exact this
section
variable {P : Program} {w : World} {K : PySem.W.Frag} {mg : Str → Option Value} {base : Heap}
theorem scCh : FnScope ["state", "source"] ["state", "source"] (defScope sChange) := ⟨rfl, rfl, rfl, by decide +kernel, rfl, by decide +kernel, by decide +kernel⟩
theorem ok_change {f fN C CS : Addr} {fd fdN : FuncData} (F : Fun K "_change" "_change" sChange f fd) (S : StIn K mg CS) (MN : Meth K CS "new_serial" fN) (GN : FnOk P w K mg base CX0 1 fN fdN ["self"] (spSerial K C CS)) (bN : Binds K fdN ["self"] []) : FnOk P w K mg base CX0 2 f fd ["state", "source"] (spAct K C CS rKeep) := by
  refine F.ok scCh (fun vs H Q E h => ?_) (fun cdv A outer s0 H vs Q E hr h => ?_)
  · obtain ⟨L, s, ct, W, W', args, ds, d, rfl, _, _, _, ha, ⟨x, rfl, _⟩, _⟩ := h
    rw [args1 ha]; rfl
  · obtain ⟨L, s, ct, W, W', args, ds, d, rfl, hS, hl, al, ha, ⟨x, rfl, rfl, rfl⟩, kk⟩ := h
    obtain rfl := args1 ha
    have hu := hu_of hr
    refine ⟨_, pss_one (ps_dput hu (pe_fld (pv 0) rfl) (pv 1) (pe_meth0 (pv 0) S.cls MN GN hr bN .nil pass0) rfl), ?_⟩
    obtain ⟨ds0, bn, es⟩ := hS.self
    refine ⟨_, rfl, s, ds0, _, rfl, es, rfl, L, s, ct, W, rfl, hS, al, fun H1 c1 hS1 al1 => ?_⟩
    obtain ⟨ds1, bn1, es1⟩ := hS1.self
    obtain ⟨H2, hp, ⟨o2, rfl⟩, hS2⟩ := hS1.put (x := x) (v := .int ((W.sr + 1 : Nat) : Int)) (d := .int ((W.sr + 1 : Nat) : Int)) hl (.int _)
    exact ⟨_, rfl, s, CS, ds1, _, _, rfl, es1, S.cls, S.nc, stF_ct .., _, rfl, ct, _, rfl, hp, kk .non _ (c1.trans chg_ct) hS2 .non⟩
theorem scRn : FnScope ["state", "field"] ["state", "field"] (defScope sRenew) := ⟨rfl, rfl, rfl, by decide +kernel, rfl, by decide +kernel, by decide +kernel⟩
theorem ok_renew {f C CS : Addr} {fd : FuncData} (F : Fun K "_renew" "_renew" sRenew f fd) (S : StIn K mg CS) : FnOk P w K mg base CX0 1 f fd ["state", "field"] (spAct K C CS rRenew) := by
  refine F.ok scRn (fun vs H Q E h => ?_) (fun cdv A outer s0 H vs Q E hr h => ?_)
  · obtain ⟨L, s, ct, W, W', args, ds, d, rfl, _, _, _, ha, ⟨x, rfl, _⟩, _⟩ := h
    rw [args1 ha]; rfl
  · obtain ⟨L, s, ct, W, W', args, ds, d, rfl, hS, hl, al, ha, ⟨x, rfl, rfl, rfl⟩, kk⟩ := h
    obtain rfl := args1 ha
    have hu := hu_of hr
    refine ⟨_, pss_one (ps_dput hu (pe_fld (pv 0) rfl) (pv 1) pe_non rfl), ?_⟩
    obtain ⟨ds0, bn, es⟩ := hS.self
    obtain ⟨H2, hp, ⟨o2, rfl⟩, hS2⟩ := hS.put (x := x) (v := .non) (d := .none) hl .non
    exact ⟨_, rfl, s, CS, ds0, _, _, rfl, es, S.cls, S.nc, stF_ct .., _, rfl, ct, _, rfl, hp, kk .non _ chg_ct hS2 .non⟩
theorem scSp : FnScope ["state", "name"] ["state", "name"] (defScope sSpy) := ⟨rfl, rfl, rfl, by decide +kernel, rfl, by decide +kernel, by decide +kernel⟩
theorem ok_spy {f C CS : Addr} {fd : FuncData} (F : Fun K "_spy" "_spy" sSpy f fd) : FnOk P w K mg base CX0 1 f fd ["state", "name"] (spAct K C CS rSpy) := by
  refine F.ok scSp (fun vs H Q E h => ?_) (fun cdv A outer s0 H vs Q E hr h => ?_)
  · obtain ⟨L, s, ct, W, W', args, ds, d, rfl, _, _, _, ha, ⟨x, rfl, _⟩, _⟩ := h
    rw [args1 ha]; rfl
  · obtain ⟨L, s, ct, W, W', args, ds, d, rfl, hS, hl, al, ha, ⟨x, rfl, rfl, rfl⟩, kk⟩ := h
    exact ⟨_, pss_one ps_pass, kk .non H (.refl _ _) hS .non⟩
theorem scLo : FnScope ["state", "field", "over"] ["state", "field"] (defScope sLook) := ⟨rfl, rfl, rfl, by decide +kernel, rfl, by decide +kernel, by decide +kernel⟩
theorem look_step {f f' C CS : Addr} {fd fd' : FuncData} (F : Fun K "_look" "_look" sLook f fd) (T : ThIn K mg C) (S : StIn K mg CS) (mf : mg "_look" = some (.ref f')) (kf : PySem.W.keepIn K (.ref f') = true) (bf : Binds K fd' ["state", "field"] []) (n : Nat) (sp : Sp) (IH : FnOk P w K mg base CX0 n f' fd' ["state", "field"] sp) (hsp : ∀ (L : List Addr) (s ct : Addr) (W : Ws) (x : Str) (cs' : List (Str × PyData)) (d : PyData) (m : Nat) (H : Hp) (Q : VK) (E : XK), n = m + 1 → StAt K L H C CS s ct W → W.cs.length ≤ 100 → Alive L H → LookR W.th m W.cs x cs' d → (∀ v H', Chg [s, ct] H H' → StAt K L H' C CS s ct { W with cs := cs' } → Dp K (mask L H') v d → Q v H') → sp [.ref s, .str x] H Q E) : FnOk P w K mg base CX0 (n + 1) f fd ["state", "field"] (spAct K C CS (rLookN n)) := by
  refine F.ok scLo (fun vs H Q E h => ?_) (fun cdv A outer s0 H vs Q E hr h => ?_)
  · obtain ⟨L, s, ct, W, W', args, ds, d, rfl, _, _, _, ha, ⟨x, cs', rfl, _⟩, _⟩ := h
    rw [args1 ha]; rfl
  · obtain ⟨L, s, ct, W, W', args, ds, d, rfl, hS, hl, al, ha, ⟨x, cs', rfl, hR, rfl⟩, kk⟩ := h
    obtain rfl := args1 ha
    have hu := hu_of hr
    refine ⟨_, pss_cons (ps_if (pt_cmpR op_isN (pe_dget hu (pe_fld (pv 0) rfl) (pv 1) (fun _ _ => rfl)) pe_non (nomark _))
        (pss_cons (ps_set (i := 2) scLo.nd rfl (.inl rfl) (pe_ix ix_tup (pe_fld (pe_dget hu (pe_fld (pv 0) rfl) (pv 1) (fun _ _ => rfl)) rfl) pe_int (fun _ _ => rfl)))
        (pss_one (ps_dput hu (pe_fld (pv 0) rfl) (pv 1) (pe_call IH hr (by rfl) mf kf bf .nil pass0 (pa_cons (pv 0) (pa_cons (pv 2) pa_nil))) rfl))) pss_nil)
      (pss_one (ps_ret (pe_dget hu (pe_fld (pv 0) rfl) (pv 1) (fun _ _ => rfl)))), ?_⟩
    obtain ⟨ds0, bn, es⟩ := hS.self
    cases hR with
    | full e hne =>
      obtain ⟨v, g, hd⟩ := hS.get e
      have hv : v ≠ .non := fun q => by
        rw [q] at hd
        cases hd
        exact hne rfl
      refine ⟨_, rfl, s, CS, ds0, _, _, rfl, es, S.cls, S.nc, stF_ct .., _, rfl, ct, v, rfl, g, rfl, _, rfl, ?_⟩
      rw [decide_eq_false hv]
      refine iteF ⟨_, rfl, s, CS, ds0, _, _, rfl, es, S.cls, S.nc, stF_ct .., _, rfl, ct, v, rfl, g, kk v H (.refl _ _) hS hd⟩
    | @down m _ cs1 _ o k r d e t hR1 =>
      obtain ⟨v, g, hd⟩ := hS.get e
      obtain rfl : v = .non := by cases hd; rfl
      refine ⟨_, rfl, s, CS, ds0, _, _, rfl, es, S.cls, S.nc, stF_ct .., _, rfl, ct, _, rfl, g, rfl, _, rfl, iteT ?_⟩
      obtain ⟨ds1, bn1, a, es1, gb, dx, fs, tt, b1, b2, b3, b4, b5⟩ := hS.thing t
      refine ⟨_, rfl, s, CS, ds1, _, _, rfl, es1, S.cls, S.nb, stF_bn .., _, rfl, bn1, _, rfl, gb, a, C, dx, fs, _, rfl, b1, T.cls, T.np, b4, tt, _, 0, _, rfl, rfl, b5, atI_nat (j := 0) rfl, ?_⟩
      refine ⟨_, rfl, _, rfl, ?_⟩
      refine hsp L s ct W o cs1 d m H _ _ rfl hS hl al hR1 fun v1 H1 c1 hS1 hd1 => ?_
      obtain ⟨ds2, bn2, es2⟩ := hS1.self
      have hcl : cs1.length ≤ 100 := by rw [hR1.has.2]; exact hl
      obtain ⟨H2, hp, ⟨o2, rfl⟩, hS2⟩ := hS1.put (x := x) hcl hd1
      refine ⟨_, rfl, s, CS, ds2, _, _, rfl, es2, S.cls, S.nc, stF_ct .., _, rfl, ct, _, rfl, hp, ?_⟩
      obtain ⟨ds3, bn3, es3⟩ := hS2.self
      obtain ⟨v3, g3, hd3⟩ := hS2.get (x := x) (d := d) (by show look (put cs1 x d) x = some d; rw [look_put, if_pos rfl])
      exact ⟨_, rfl, s, CS, ds3, _, _, rfl, es3, S.cls, S.nc, stF_ct .., _, rfl, ct, v3, rfl, g3, kk v3 _ (c1.trans chg_ct) hS2 hd3⟩
theorem look_sp {C CS : Addr} (n : Nat) : ∀ (L : List Addr) (s ct : Addr) (W : Ws) (x : Str) (cs' : List (Str × PyData)) (d : PyData) (m : Nat) (H : Hp) (Q : VK) (E : XK), n + 1 = m + 1 → StAt K L H C CS s ct W → W.cs.length ≤ 100 → Alive L H → LookR W.th m W.cs x cs' d → (∀ v H', Chg [s, ct] H H' → StAt K L H' C CS s ct { W with cs := cs' } → Dp K (mask L H') v d → Q v H') → spAct K C CS (rLookN n) [.ref s, .str x] H Q E := by
  intro L s ct W x cs' d m H Q E h hS hl al hR k
  obtain rfl : n = m := by omega
  exact ⟨L, s, ct, W, { W with cs := cs' }, [.str x], [.str x], d, rfl, hS, hl, al, .cons (.str x) .nil, ⟨x, cs', rfl, hR, rfl⟩, k⟩
theorem ok_look {f C CS : Addr} {fd : FuncData} (F : Fun K "_look" "_look" sLook f fd) (T : ThIn K mg C) (S : StIn K mg CS) (mf : mg "_look" = some (.ref f)) (kf : PySem.W.keepIn K (.ref f) = true) (bf : Binds K fd ["state", "field"] []) : ∀ n, FnOk P w K mg base CX0 (n + 1) f fd ["state", "field"] (spAct K C CS (rLookN n)) := by
  intro n
  induction n with
  | zero => exact look_step F T S mf kf bf 0 (fun _ _ _ _ => False) fn_never fun L s ct W x cs' d m H Q E h => absurd h (by omega)
  | succ n ih => exact look_step F T S mf kf bf (n + 1) _ ih (look_sp n)
/-- a look by another name -/
theorem ok_look2 {f f' C CS : Addr} {fd fd' : FuncData} (F : Fun K "_look" "_look" sLook f fd) (F' : Fun K "_look" "_look" sLook f' fd') (T : ThIn K mg C) (S : StIn K mg CS) (mf : mg "_look" = some (.ref f')) (kf : PySem.W.keepIn K (.ref f') = true) (bf : Binds K fd' ["state", "field"] []) (n : Nat) : FnOk P w K mg base CX0 (n + 2) f fd ["state", "field"] (spAct K C CS (rLookN (n + 1))) :=
  look_step F T S mf kf bf (n + 1) _ (ok_look F' T S mf kf bf n) (look_sp n)
end
/-! ### laws over the things of a row -/
inductive Flat : V → PyData → Prop where
  | non : Flat .non .none
  | bl (b : Bool) : Flat (.bl b) (.bool b)
  | int (i : Int) : Flat (.int i) (.int i)
  | str (x : Str) : Flat (.str x) (.str x)
theorem Flat.toDp {K : PySem.W.Frag} {H : Hp} {v : V} {d : PyData} (h : Flat v d) : Dp K H v d := by
  cases h
  · exact .non
  · exact .bl _
  · exact .int _
  · exact .str _
theorem Flat.dp3 {v : V} {d : PyData} (h : Flat v d) (m : Nat) : Qp.dp (m + 1) d := by cases h <;> simp [Qp.dp]
theorem flat_all {K : PySem.W.Frag} {H : Hp} : ∀ {vs : List V} {ds : List PyData}, Paired Flat vs ds → DpAll K H vs ds
  | _, _, .nil => .nil
  | _, _, .cons h t => .cons h.toDp (flat_all t)
theorem paired_get {α β : Type} {R : α → β → Prop} : ∀ {xs : List α} {ys : List β} {i : Nat} {x : α}, Paired R xs ys → xs[i]? = some x → ∃ y, ys[i]? = some y ∧ R x y
  | _, _, _, _, .nil, e => by simp at e
  | _, _, 0, _, .cons h _, e => by
    obtain rfl := Option.some.inj e
    exact ⟨_, rfl, h⟩
  | _, _, i + 1, _, .cons _ t, e => paired_get (i := i) t e
theorem paired_get2 {α β : Type} {R : α → β → Prop} : ∀ {xs : List α} {ys : List β} {i : Nat} {y : β}, Paired R xs ys → ys[i]? = some y → ∃ x, xs[i]? = some x ∧ R x y
  | _, _, _, _, .nil, e => by simp at e
  | _, _, 0, _, .cons h _, e => by
    obtain rfl := Option.some.inj e
    exact ⟨_, rfl, h⟩
  | _, _, i + 1, _, .cons _ t, e => paired_get2 (i := i) t e
theorem paired_set {α β : Type} {R : α → β → Prop} {x : α} {y : β} (h : R x y) : ∀ {xs : List α} {ys : List β} (i : Nat), Paired R xs ys → Paired R (xs.set i x) (ys.set i y)
  | _, _, _, .nil => .nil
  | _, _, 0, .cons _ t => .cons h t
  | _, _, i + 1, .cons a t => .cons a (paired_set h i t)
theorem paired_tail {α β : Type} {R : α → β → Prop} {x : α} {xs : List α} {ys : List β} (h : Paired R (x :: xs) ys) : ∃ y r, ys = y :: r ∧ R x y ∧ Paired R xs r := by
  cases h with
  | cons a t => exact ⟨_, _, rfl, a, t⟩
theorem look_zip {α : Type} {n : Str} : ∀ {ns : List Str} {ds : List α} {i : Nat} {d : α}, ns.Nodup → ns[i]? = some n → ds[i]? = some d → look (ns.zip ds) n = some d
  | [], _, _, _, _, e, _ => by simp at e
  | _ :: _, [], _, _, _, _, e => by simp at e
  | m :: ns, d' :: ds, 0, d, _, e1, e2 => by
    obtain rfl := Option.some.inj e1
    obtain rfl := Option.some.inj e2
    exact look_pos (p := (m, d')) rfl
  | m :: ns, d' :: ds, i + 1, d, hn, e1, e2 => by
    have hm : m ≠ n := fun e => (List.nodup_cons.mp hn).1 (by rw [e]; exact List.mem_of_getElem? (show ns[i]? = some n from e1))
    show look ((m, d') :: ns.zip ds) n = some d
    rw [look_neg (p := (m, d')) hm]
    exact look_zip (i := i) (List.nodup_cons.mp hn).2 e1 e2
theorem map_other {α : Type} {n : Str} {c : α} : ∀ {ns : List Str} {ds : List α}, n ∉ ns → (ns.zip ds).map (fun p => if p.1 = n then (p.1, c) else p) = ns.zip ds
  | [], _, _ => rfl
  | _ :: _, [], _ => rfl
  | m :: ns, d :: ds, h => by
    show (if m = n then (m, c) else (m, d)) :: _ = (m, d) :: ns.zip ds
    rw [if_neg fun e => h (by rw [e]; exact List.mem_cons_self)]
    congr 1
    exact map_other fun q => h (List.mem_cons_of_mem _ q)
theorem map_zip {α : Type} {n : Str} {c : α} : ∀ {ns : List Str} {ds : List α} {i : Nat}, ns.Nodup → ns[i]? = some n → i < ds.length → (ns.zip ds).map (fun p => if p.1 = n then (p.1, c) else p) = ns.zip (ds.set i c)
  | [], _, _, _, e, _ => by simp at e
  | _ :: _, [], _, _, _, e => by simp at e
  | m :: ns, d :: ds, 0, hn, e1, _ => by
    obtain rfl := Option.some.inj e1
    show (if m = m then (m, c) else (m, d)) :: _ = (m, c) :: ns.zip ds
    rw [if_pos rfl]
    congr 1
    exact map_other (List.nodup_cons.mp hn).1
  | m :: ns, d :: ds, i + 1, hn, e1, e2 => by
    have hm : m ≠ n := fun e => (List.nodup_cons.mp hn).1 (by rw [e]; exact List.mem_of_getElem? (show ns[i]? = some n from e1))
    show (if m = n then (m, c) else (m, d)) :: _ = (m, d) :: ns.zip (ds.set i c)
    rw [if_neg hm]
    congr 1
    exact map_zip (i := i) (List.nodup_cons.mp hn).2 e1 (Nat.lt_of_succ_lt_succ e2)
theorem put_zip {α : Type} {n : Str} {c : α} {ns : List Str} {ds : List α} {i : Nat} (hn : ns.Nodup) (e : ns[i]? = some n) (hi : i < ds.length) : put (ns.zip ds) n c = ns.zip (ds.set i c) := by
  unfold put
  rw [if_pos, map_zip hn e hi]
  obtain ⟨d, ed⟩ : ∃ d, ds[i]? = some d := ⟨ds[i], List.getElem?_eq_getElem hi⟩
  have := look_mem (look_zip hn e ed)
  rw [List.any_eq_true]
  exact ⟨_, this, decide_eq_true rfl⟩
/-- the things of a row: their kinds -/
def rowTh (ns : List Str) (ks : List (Str × List Str)) : Ths := ns.zip ks
/-- world.do over any deed that stands -/
theorem do_gen {P : Program} {w : World} {K : PySem.W.Frag} {mg : Str → Option Value} {base : Heap} {C CS CW dP dA x s ct t : Addr} {L : List Addr} {tvs args : List V} {W W' : Ws} {word : Str} {ds : List PyData} {kinds : List Str} {R : Ws → List PyData → Ws → PyData → Prop} {d : PyData} {H : Hp} {Q : VK} {E' : XK}
    (hA : ActK P w K mg base C CS dP dA word kinds R) (hW : WoAt K L H CW x s tvs) (hS : StAt K L H C CS s ct W) (hl : W.cs.length ≤ 100) (al : Alive L H) (ht : SqT K (mask L H) t (.str word :: args)) (hd : DpAll K (mask L H) args ds) (hal : args.length ≤ 100) (hg : Paired GoodArg kinds ds) (hc : Paired (CheckArg W.th (ds.headD .none)) kinds ds) (hR : R W ds W' d)
    (k : ∀ v H', Chg [s, ct] H H' → WoAt K L H' CW x s tvs → StAt K L H' C CS s ct W' → Dp K (mask L H') v d → Q v H') : spDo P w K mg base C CS CW dP dA [.ref x, .ref t] H Q E' :=
  ⟨x, s, ct, t, L, tvs, W, W', word, args, ds, kinds, R, d, rfl, hW, hS, ht, hd, hal, hA, hg, hc, hl, al, hR, fun v H' c hS' hdv => k v H' c (hW.keep (c.inL hS.sL hS.cL).mask) hS' hdv⟩
theorem ThingAt.pool {K : PySem.W.Frag} {H : Hp} {C p q a : Addr} {n : Nat} {kind nm : Str} {parts : List Str} (P : PoolAt H p q n) (h : ThingAt K H C a kind nm parts) : ThingAt K (mask [p, q] H) C a kind nm parts := by
  obtain ⟨_, cs, b, c, e1, e2, _⟩ := P
  obtain ⟨dx, fs, t, h1, h2, h3, h4, h5⟩ := h
  have na : a ∉ [p, q] := fun m => by
    rcases List.mem_cons.mp m with z | m
    · rw [z, e1] at h1; cases h1
    · rw [List.mem_singleton.mp m, e2] at h1; cases h1
  refine ⟨dx, fs, t, by rw [mask_out na]; exact h1, h2, h3, h4, seqT_mask h5 fun b hb => ?_⟩
  rcases List.mem_cons.mp hb with z | m
  · rw [z]; rintro (h | ⟨o, h⟩) <;> rw [e1] at h <;> cases h
  · rw [List.mem_singleton.mp m]; rintro (h | ⟨o, h⟩) <;> rw [e2] at h <;> cases h
theorem ixN_nat {n j : Nat} (hj : j < n) : ixN n (j : Int) = some j := by
  unfold ixN
  rw [if_pos (by omega), if_pos (by omega)]
  simp
theorem flat_dp3 {vs : List V} {ds : List PyData} (h : Paired Flat vs ds) (hl : ds.length ≤ 1000000) : dp 3 (.list ds) := by
  have : ∀ {vs : List V} {ds : List PyData}, Paired Flat vs ds → ∀ d ∈ ds, dp 2 d := fun {vs ds} h => by
    induction h with
    | nil => intro d hd; cases hd
    | cons a t ih =>
      intro d hd
      rcases List.mem_cons.mp hd with rfl | hd
      · exact a.dp3 1
      · exact ih d hd
  have h2 := this h
  simp only [dp]
  exact ⟨hl, h2⟩
/-! ### the way of a look -/
def isN : PyData → Bool
  | .none => true
  | _ => false
/-- a way: each one but the last is empty, and followed by what it is over -/
def Chain (o : Nat → Nat) (ds : List PyData) : List Nat → Prop
  | [] => False
  | [m] => ∃ d, ds[m]? = some d ∧ d ≠ .none
  | x :: y :: r => ds[x]? = some .none ∧ y = o x ∧ Chain o ds (y :: r)
/-- all of a way set -/
def setAll (ds : List PyData) (d : PyData) : List Nat → List PyData
  | [] => ds
  | k :: r => setAll (ds.set k d) d r
theorem setAll_len (d : PyData) : ∀ (w : List Nat) (ds : List PyData), (setAll ds d w).length = ds.length
  | [], _ => rfl
  | k :: r, ds => by
    show (setAll (ds.set k d) d r).length = _
    rw [setAll_len d r, List.length_set]
theorem setAll_get (d : PyData) : ∀ (w : List Nat) (ds : List PyData) (i : Nat), (setAll ds d w)[i]? = if i ∈ w ∧ i < ds.length then some d else ds[i]?
  | [], ds, i => by simp [setAll]
  | k :: r, ds, i => by
    show (setAll (ds.set k d) d r)[i]? = _
    rw [setAll_get d r, List.length_set]
    by_cases h1 : i ∈ r ∧ i < ds.length
    · rw [if_pos h1, if_pos ⟨List.mem_cons_of_mem _ h1.1, h1.2⟩]
    · rw [if_neg h1]
      by_cases h2 : i = k
      · subst h2
        by_cases h3 : i < ds.length
        · rw [List.getElem?_set_self h3, if_pos ⟨List.mem_cons_self, h3⟩]
        · rw [if_neg fun h => h3 h.2, List.getElem?_eq_none (by rw [List.length_set]; omega), List.getElem?_eq_none (by omega)]
      · rw [List.getElem?_set_ne (fun e => h2 e.symm)]
        rw [if_neg]
        rintro ⟨m, hl⟩
        rcases List.mem_cons.mp m with q | q
        · exact h2 q
        · exact h1 ⟨q, hl⟩
/-- what a way holds -/
theorem chain_val {o : Nat → Nat} {ds : List PyData} {d : PyData} : ∀ {w : List Nat}, Chain o ds w → (w.getLast?.bind fun m => ds[m]?) = some d → ∀ k ∈ w, ds[k]? = some .none ∨ ds[k]? = some d
  | [], h, _, _, _ => h.elim
  | [m], _, he, k, hk => by
    rw [List.mem_singleton.mp hk]
    exact .inr he
  | x :: y :: r, ⟨e, _, h⟩, he, k, hk => by
    rw [List.getLast?_cons_cons] at he
    rcases List.mem_cons.mp hk with rfl | hk
    · exact .inl e
    · exact chain_val h he k hk
/-- the same, the last first -/
def resD (ds : List PyData) (d : PyData) : List Nat → List PyData
  | [] => ds
  | [_] => ds
  | x :: y :: r => (resD ds d (y :: r)).set x d
theorem resD_len (ds : List PyData) (d : PyData) : ∀ w : List Nat, (resD ds d w).length = ds.length
  | [] => rfl
  | [_] => rfl
  | x :: y :: r => by
    show ((resD ds d (y :: r)).set x d).length = _
    rw [List.length_set, resD_len ds d (y :: r)]
/-- the value at the end of a way -/
def endOf (ds : List PyData) (w : List Nat) : Option PyData := w.getLast?.bind fun m => ds[m]?
theorem chain_mem {o : Nat → Nat} {ds : List PyData} : ∀ {w : List Nat}, Chain o ds w → ∀ k ∈ w, k < ds.length
  | [], h, _, _ => h.elim
  | [m], ⟨d, e, _⟩, k, hk => by
    rw [List.mem_singleton.mp hk]
    exact (List.getElem?_eq_some_iff.mp e).1
  | x :: y :: r, ⟨e, _, h⟩, k, hk => by
    rcases List.mem_cons.mp hk with rfl | hk
    · exact (List.getElem?_eq_some_iff.mp e).1
    · exact chain_mem h k hk
theorem resD_get {o : Nat → Nat} {ds : List PyData} {d : PyData} : ∀ {w : List Nat}, Chain o ds w → endOf ds w = some d → ∀ i, (resD ds d w)[i]? = if i ∈ w ∧ i < ds.length then some d else ds[i]?
  | [], h, _, _ => h.elim
  | [m], _, he, i => by
    have he : ds[m]? = some d := he
    show ds[i]? = _
    by_cases q : i ∈ [m] ∧ i < ds.length
    · rw [if_pos q]
      obtain rfl := List.mem_singleton.mp q.1
      exact he
    · rw [if_neg q]
  | x :: y :: r, ⟨e, _, h⟩, he, i => by
    have he' : endOf ds (y :: r) = some d := by
      unfold endOf at he ⊢
      rw [List.getLast?_cons_cons] at he
      exact he
    have hx : x < ds.length := (List.getElem?_eq_some_iff.mp e).1
    show ((resD ds d (y :: r)).set x d)[i]? = _
    by_cases q : i = x
    · subst q
      rw [List.getElem?_set_self (by rw [resD_len]; exact hx), if_pos ⟨List.mem_cons_self, hx⟩]
    · rw [List.getElem?_set_ne fun e => q e.symm, resD_get h he' i]
      by_cases q2 : i ∈ (y :: r) ∧ i < ds.length
      · rw [if_pos q2, if_pos ⟨List.mem_cons_of_mem _ q2.1, q2.2⟩]
      · rw [if_neg q2, if_neg]
        rintro ⟨m, hl⟩
        rcases List.mem_cons.mp m with z | z
        · exact q z
        · exact q2 ⟨z, hl⟩
theorem res_all {o : Nat → Nat} {ds : List PyData} {d : PyData} {w : List Nat} (h : Chain o ds w) (he : endOf ds w = some d) : setAll ds d w = resD ds d w := by
  refine List.ext_getElem? fun i => ?_
  rw [setAll_get, resD_get h he]
/-- a look's promise from a way -/
theorem look_way {th : Ths} {ns : List Str} {o : Nat → Nat} {ds : List PyData} {d : PyData} (hn : ns.Nodup) (hl : ns.length = ds.length) (hth : ∀ (x : Nat) (nx : Str), ns[x]? = some nx → ds[x]? = some .none → ∃ no, ns[o x]? = some no ∧ look th nx = some (("field" : Str), [no])) :
    ∀ {w : List Nat} {x : Nat} {nx : Str} {n : Nat}, Chain o ds w → w.head? = some x → endOf ds w = some d → ns[x]? = some nx → w.length ≤ n + 1 → LookR th n (ns.zip ds) nx (ns.zip (resD ds d w)) d
  | [], _, _, _, h, _, _, _, _ => h.elim
  | [m], x, nx, n, ⟨d', e, hd⟩, hx, he, ex, _ => by
    obtain rfl : m = x := Option.some.inj hx
    have he : ds[m]? = some d := he
    rw [he] at e
    cases Option.some.inj e
    exact .full (look_zip hn ex he) hd
  | x' :: y :: r, x, nx, n, ⟨e, hy, h⟩, hx, he, ex, hlen => by
    obtain rfl : x' = x := Option.some.inj hx
    have he' : endOf ds (y :: r) = some d := by
      unfold endOf at he ⊢
      rw [List.getLast?_cons_cons] at he
      exact he
    obtain ⟨no, eno, et⟩ := hth x' nx ex e
    match n, hlen with
    | 0, hlen => simp at hlen
    | n + 1, hlen =>
      have ih := look_way hn hl hth (w := y :: r) (x := y) (nx := no) (n := n) h rfl he' (by rw [hy]; exact eno) (by simp only [List.length_cons] at hlen ⊢; omega)
      have hxl : x' < ds.length := (List.getElem?_eq_some_iff.mp e).1
      have := LookR.down (look_zip hn ex e) et ih
      rw [put_zip hn ex (by rw [resD_len]; exact hxl)] at this
      exact this
/-- the way as the law makes it: so far -/
structure WayAt (o : Nat → Nat) (ds : List PyData) (x : Nat) (k : Nat) (w : List Nat) (m : Nat) : Prop where
  last : w.getLast? = some m
  head : w.head? = some x
  lt : m < ds.length
  len : w.length ≤ k + 1
  go : (∃ d, ds[m]? = some d ∧ d ≠ .none) ∨ m + k ≤ x
  ch : ∀ r : List Nat, Chain o ds (m :: r) → Chain o ds (w ++ r)
theorem way_start {o : Nat → Nat} {ds : List PyData} {x : Nat} (h : x < ds.length) : WayAt o ds x 0 [x] x := ⟨rfl, rfl, h, by simp, .inr (by omega), fun r h => h⟩
theorem way_stay {o : Nat → Nat} {ds : List PyData} {x k m : Nat} {w : List Nat} {d : PyData} (h : WayAt o ds x k w m) (e : ds[m]? = some d) (hd : d ≠ .none) : WayAt o ds x (k + 1) w m := ⟨h.last, h.head, h.lt, by have := h.len; omega, .inl ⟨d, e, hd⟩, h.ch⟩
theorem way_next {o : Nat → Nat} {ds : List PyData} {x k m : Nat} {w : List Nat} (h : WayAt o ds x k w m) (e : ds[m]? = some .none) (ho : o m < m) : WayAt o ds x (k + 1) (w ++ [o m]) (o m) := by
  refine ⟨by simp, ?_, by have := h.lt; omega, by have := h.len; simp; omega, .inr ?_, fun r hr => ?_⟩
  · have := h.head
    cases w with
    | nil => cases this
    | cons a r => exact this
  · rcases h.go with ⟨d, e', hd⟩ | g
    · rw [e] at e'; cases e'; exact absurd rfl hd
    · omega
  · rw [List.append_assoc]
    exact h.ch _ ⟨e, rfl, hr⟩
theorem way_done {o : Nat → Nat} {ds : List PyData} {x m : Nat} {w : List Nat} (hx : x < 6) (h : WayAt o ds x 6 w m) : ∃ d, ds[m]? = some d ∧ d ≠ .none ∧ Chain o ds w ∧ endOf ds w = some d := by
  rcases h.go with ⟨d, e, hd⟩ | g
  · refine ⟨d, e, hd, ?_, ?_⟩
    · have := h.ch [] ⟨d, e, hd⟩
      rw [List.append_nil] at this
      exact this
    · unfold endOf
      rw [h.last]
      exact e
  · omega
theorem setAll_app (d : PyData) (k : Nat) : ∀ (a : List Nat) (ds : List PyData), setAll ds d (a ++ [k]) = (setAll ds d a).set k d
  | [], _ => rfl
  | x :: r, ds => setAll_app d k r (ds.set x d)
theorem atI_end {α β : Type} {f : α → β} {w : List α} {m : α} (h : w.getLast? = some m) : atI (w.map f) (-1) = some (f m) := by
  have : w = w.dropLast ++ [m] := by
    obtain ⟨ys, rfl⟩ := List.getLast?_eq_some_iff.mp h
    simp
  rw [this, List.map_append]
  exact atI_last _ _
/-! ### the law -/
def ths6 (m0 m1 m2 m3 m4 m5 q1 q2 q3 q4 q5 : Str) : Ths := [(m0, "source", []), (m1, "field", [q1]), (m2, "field", [q2]), (m3, "field", [q3]), (m4, "field", [q4]), (m5, "field", [q5])]
theorem th6_at {nms : List Str} {m0 m1 m2 m3 m4 m5 q1 q2 q3 q4 q5 : Str} (hns : [m0, m1, m2, m3, m4, m5] = nms) {i : Nat} {n : Str} (e : nms[i]? = some n) : ∃ k ps, (ths6 m0 m1 m2 m3 m4 m5 q1 q2 q3 q4 q5)[i]? = some (n, k, ps) ∧ ((k = "source" ∧ i = 0) ∨ (k = "field" ∧ 0 < i)) := by
  subst hns
  match i with
  | 0 => obtain rfl := Option.some.inj e; exact ⟨_, _, rfl, .inl ⟨rfl, rfl⟩⟩
  | 1 => obtain rfl := Option.some.inj e; exact ⟨_, _, rfl, .inr ⟨rfl, by omega⟩⟩
  | 2 => obtain rfl := Option.some.inj e; exact ⟨_, _, rfl, .inr ⟨rfl, by omega⟩⟩
  | 3 => obtain rfl := Option.some.inj e; exact ⟨_, _, rfl, .inr ⟨rfl, by omega⟩⟩
  | 4 => obtain rfl := Option.some.inj e; exact ⟨_, _, rfl, .inr ⟨rfl, by omega⟩⟩
  | 5 => obtain rfl := Option.some.inj e; exact ⟨_, _, rfl, .inr ⟨rfl, by omega⟩⟩
  | i + 6 => simp at e
theorem th6_over {nms : List Str} {on : List Nat} {o1 o2 o3 o4 o5 : Nat} {m0 m1 m2 m3 m4 m5 q1 q2 q3 q4 q5 : Str} (hns : [m0, m1, m2, m3, m4, m5] = nms) (hon : on = [0, o1, o2, o3, o4, o5]) (e1 : nms[o1]? = some q1) (e2 : nms[o2]? = some q2) (e3 : nms[o3]? = some q3) (e4 : nms[o4]? = some q4) (e5 : nms[o5]? = some q5)
    {i o : Nat} {n : Str} (h0 : 0 < i) (e : nms[i]? = some n) (eo : on[i]? = some o) : ∃ q, nms[o]? = some q ∧ (ths6 m0 m1 m2 m3 m4 m5 q1 q2 q3 q4 q5)[i]? = some (n, ("field" : Str), [q]) := by
  subst hon
  subst hns
  match i with
  | 0 => omega
  | 1 => obtain rfl := Option.some.inj e; obtain rfl := Option.some.inj eo; exact ⟨_, e1, rfl⟩
  | 2 => obtain rfl := Option.some.inj e; obtain rfl := Option.some.inj eo; exact ⟨_, e2, rfl⟩
  | 3 => obtain rfl := Option.some.inj e; obtain rfl := Option.some.inj eo; exact ⟨_, e3, rfl⟩
  | 4 => obtain rfl := Option.some.inj e; obtain rfl := Option.some.inj eo; exact ⟨_, e4, rfl⟩
  | 5 => obtain rfl := Option.some.inj e; obtain rfl := Option.some.inj eo; exact ⟨_, e5, rfl⟩
  | i + 6 => simp at e
theorem th6_names {m0 m1 m2 m3 m4 m5 q1 q2 q3 q4 q5 : Str} : names (ths6 m0 m1 m2 m3 m4 m5 q1 q2 q3 q4 q5) = [m0, m1, m2, m3, m4, m5] := rfl
/-- the look of a thing's kind -/
theorem look_th {th : Ths} (hn : (names th).Nodup) {i : Nat} {n k : Str} {ps : List Str} (e : th[i]? = some (n, k, ps)) : look th n = some (k, ps) := by
  have : th = (names th).zip (th.map (·.2)) := by
    unfold names
    rw [List.zip_map']
    exact (List.map_id th).symm
  rw [this]
  exact look_zip (i := i) hn (by unfold names; rw [List.getElem?_map, e]; rfl) (by rw [List.getElem?_map, e]; rfl)
structure Law10 (P : Program) (w : World) (K : PySem.W.Frag) (mg : Str → Option Value) (base : Heap) extends WDefs P w K mg base where
  aChange : ActK P w K mg base C CS dP dA "change" ["source"] rKeep
  aLook : ActK P w K mg base C CS dP dA "look" ["field"] (rLookN 6)
  aGlance : ActK P w K mg base C CS dP dA "glance" ["field"] rValue
  aRenew : ActK P w K mg base C CS dP dA "renew" ["field"] rRenew
  aSpy : ActK P w K mg base C CS dP dA "spy" ["thing"] rSpy
def spLaw (K : PySem.W.Frag) : Sp := fun vs H Q _ => ∃ (a : Addr) (ns : List Int), vs = [.ref a] ∧ SqL K H a (ns.map V.int) ∧ ns.length ≤ 63 ∧ ∀ H', Q (.bl true) H'
def nat (k : Nat) : V := .int (k : Int)
theorem flat_of {K : PySem.W.Frag} {H : Hp} {v v' : V} {d : PyData} (h : Dp K H v d) (f : Flat v' d) : v = v' := by
  cases f <;> cases h <;> rfl
/-- the world, and the law's lists but its values -/
structure Bas (K : PySem.W.Frag) (C CS CW p q nl ov x s ct : Addr) (L : List Addr) (tvs : List V) (ns : List Str) (on : List Nat) (th : Ths) (n : Nat) (ds : List PyData) (sr : Nat) (H : Hp) : Prop where
  Po : PoolAt H p q n
  nl : H nl = some (.lst (ns.map V.str))
  ov : H ov = some (.lst (on.map nat))
  W : WoAt K L H CW x s tvs
  S : StAt K L H C CS s ct ⟨th, ns.zip ds, 0, 0, sr⟩
section
variable {K : PySem.W.Frag} {C CS CW p q nl ov x s ct b : Addr} {L : List Addr} {tvs : List V} {ns : List Str} {on : List Nat} {th : Ths} {n n' : Nat} {ds : List PyData} {sr : Nat} {H H' : Hp} {o : HO}
theorem Bas.same (g : Bas K C CS CW p q nl ov x s ct L tvs ns on th n ds sr H) (c : Same H H') : Bas K C CS CW p q nl ov x s ct L tvs ns on th n ds sr H' :=
  ⟨g.Po.same c, c _ _ g.nl, c _ _ g.ov, g.W.keep (mask_same c), g.S.same c⟩
theorem Bas.pool (g : Bas K C CS CW p q nl ov x s ct L tvs ns on th n ds sr H) (P' : PoolAt H' p q n') (k : Keeps p q H H') (mp : p ∈ L) (mq : q ∈ L) (n1 : nl ≠ p ∧ nl ≠ q) (n2 : ov ≠ p ∧ ov ≠ q) : Bas K C CS CW p q nl ov x s ct L tvs ns on th n' ds sr H' :=
  ⟨P', k _ _ n1.1 n1.2 g.nl, k _ _ n2.1 n2.2 g.ov, g.W.keep (k.maskL mp mq), g.S.pool g.Po k mp mq⟩
/-- another list, changed -/
theorem Bas.upd {xs ys : List V} (g : Bas K C CS CW p q nl ov x s ct L tvs ns on th n ds sr H) (e : H b = some (.lst xs)) (m : b ∈ L) (np : b ≠ p) (nq : b ≠ q) (nn : b ≠ nl) (no : b ≠ ov) : Bas K C CS CW p q nl ov x s ct L tvs ns on th n ds sr (L2.upd H b (.lst ys)) := by
  have b2 := g.S.not_lst e
  exact ⟨g.Po.upd np nq, by rw [upd_ne nn.symm]; exact g.nl, by rw [upd_ne no.symm]; exact g.ov, g.W.keep (mask_at m), g.S.upd m (fun z => b2 (by rw [z]; exact List.mem_cons_self)) (fun z => b2 (by rw [z]; exact List.mem_cons_of_mem _ List.mem_cons_self))⟩
theorem Bas.more (g : Bas K C CS CW p q nl ov x s ct L tvs ns on th n ds sr H) (nb : H b = none) : Bas K C CS CW p q nl ov x s ct (b :: L) tvs ns on th n ds sr (L2.upd H b o) :=
  ⟨g.Po.new nb, same_new nb _ _ g.nl, same_new nb _ _ g.ov, g.W.more nb, g.S.more nb⟩
theorem Bas.less (g : Bas K C CS CW p q nl ov x s ct (b :: L) tvs ns on th n ds sr H) (sL : s ∈ L) (cL : ct ∈ L) : Bas K C CS CW p q nl ov x s ct L tvs ns on th n ds sr H := by
  obtain ⟨h1, h2, h3, ⟨dw, t, w1, w2⟩, ⟨_, _, ds', bn, tl, l, e1, e2, e3, e4, e5⟩⟩ := g
  exact ⟨h1, h2, h3, ⟨dw, t, mask_less _ _ w1, Same.seqT mask_less w2⟩, ⟨sL, cL, ds', bn, tl, l, e1, mask_less _ _ e2, e3.same mask_less, e4, e5.same mask_less⟩⟩
theorem Bas.alive (g : Bas K C CS CW p q nl ov x s ct L tvs ns on th n ds sr H) {vl : Addr} {vs : List V} (hL : L = [vl, s, ct, p, q]) (e : H vl = some (.lst vs)) : Alive L H := by
  intro b hb
  obtain ⟨sL, cL, ds', bn, tl, l, e1, _, _, e4, _⟩ := g.S
  rw [hL] at hb
  simp only [List.mem_cons, List.not_mem_nil, or_false] at hb
  rcases hb with rfl | rfl | rfl | rfl | rfl
  · exact ⟨_, e⟩
  · exact ⟨_, e1⟩
  · exact ⟨_, e4⟩
  · exact g.Po.p_some
  · exact g.Po.q_some
end
/-- what stands at each turn -/
structure Good (K : PySem.W.Frag) (C CS CW p q nl ov vl x s ct : Addr) (L : List Addr) (tvs : List V) (ns : List Str) (on : List Nat) (th : Ths) (n : Nat) (vs : List V) (ds : List PyData) (sr : Nat) (H : Hp) : Prop where
  B : Bas K C CS CW p q nl ov x s ct L tvs ns on th n ds sr H
  vl : H vl = some (.lst vs)
  fl : Paired Flat vs ds
  len : ds.length = 6
  z : ∃ z, ds[0]? = some (.int z)
theorem Good.same {K : PySem.W.Frag} {C CS CW p q nl ov vl x s ct : Addr} {L : List Addr} {tvs : List V} {ns : List Str} {on : List Nat} {th : Ths} {n : Nat} {vs : List V} {ds : List PyData} {sr : Nat} {H H' : Hp} (g : Good K C CS CW p q nl ov vl x s ct L tvs ns on th n vs ds sr H) (c : Same H H') : Good K C CS CW p q nl ov vl x s ct L tvs ns on th n vs ds sr H' :=
  ⟨g.B.same c, c _ _ g.vl, g.fl, g.len, g.z⟩
/-- .. and the deed that is due -/
structure Pend (P : Program) (w : World) (K : PySem.W.Frag) (mg : Str → Option Value) (base : Heap) (C CS dP dA : Addr) (ns : List Str) (th : Ths) (nx : Str) (word : Str) (ds : List PyData) (sr0 : Nat) (vs : List V) (sr : Nat) (u : V) : Prop where
  ex : ∃ (kinds : List Str) (R : Ws → List PyData → Ws → PyData → Prop) (ds' : List PyData) (d : PyData), ActK P w K mg base C CS dP dA word kinds R ∧ Paired GoodArg kinds [.str nx] ∧ Paired (CheckArg th (([PyData.str nx] : List PyData).headD .none)) kinds [.str nx] ∧
    R ⟨th, ns.zip ds, 0, 0, sr0⟩ [.str nx] ⟨th, ns.zip ds', 0, 0, sr⟩ d ∧ Flat u d ∧ Paired Flat vs ds' ∧ ds'.length = 6 ∧ ∃ z, ds'[0]? = some (.int z)
section
variable {P : Program} {w : World} {K : PySem.W.Frag} {mg : Str → Option Value} {base : Heap}
theorem scL : FnScope ["script", "pool", "names", "k", "over", "world", "values", "serial", "turn", "x", "word", "due", "way", "name"] ["script"] (defScope sLaw) := ⟨rfl, rfl, rfl, by decide +kernel, rfl, by decide +kernel, by decide +kernel⟩
theorem ok_law {f : Addr} {fd : FuncData} (F : Fun K "law" "law" sLaw f fd) (G : Law10 P w K mg base) : FnOk P w K mg base CX0 12 f fd ["script"] (spLaw K) := by
  refine F.ok scL (fun vs H Q E h => ?_) (fun cdv A outer s0 H vs Q E hr h => ?_)
  · obtain ⟨a, ns, rfl, _⟩ := h
    rfl
  · obtain ⟨a, ns, rfl, hS0, hlen, kk⟩ := h
    have hr1 : Room 1 _ := hr.mono (by decide)
    have hr2 : Room 2 _ := hr.mono (by decide)
    have hr3 : Room 3 _ := hr.mono (by decide)
    have hr5 : Room 5 _ := hr.mono (by decide)
    have hr6 : Room 6 _ := hr.mono (by decide)
    have hr10 : Room 10 _ := hr.mono (by decide)
    obtain ⟨p1, g1, sm1, F1⟩ := G.td.one "source" (by simp)
    obtain ⟨p2, g2, sm2, F2⟩ := G.td.field
    refine ⟨_, pss_cons (ps_set (i := 1) scL.nd rfl (.inr rfl) (pe_call G.gP hr1 (by rfl) G.mP G.kP G.bP .nil pass0 (pa_cons (pv 0) pa_nil)))
      (pss_cons (ps_set (i := 2) scL.nd rfl (.inl rfl) (pe_call G.gL hr2 (by rfl) G.mL G.kL G.bL .nil pass0 (pa_cons (pv 1) (pa_cons pe_int pa_nil))))
      (pss_cons (ps_set (i := 4) scL.nd rfl (.inl rfl) (pe_op op_cat (pe_lst (pa_cons pe_int pa_nil)) (pe_lc (own := [("k", 3)]) (g := gName 3) (tt := tYes) rfl scL.nd (pi_range2 (by rfl) G.B.range (pa_cons pe_int (pa_cons pe_int pa_nil))) (blkOk_by (N := ["script", "pool", "names", "k", "over", "world", "values", "serial", "turn", "x", "word", "due", "way", "name"]) (sc := defScope sLaw) (by decide +kernel))
          (fun _ _ _ _ _ => pg_name (i := 3) scL.nd rfl (.inl rfl)) (fun _ _ _ _ _ => pts_nil) (fun _ _ _ _ _ => pe_call G.gD hr1 (by rfl) G.mD G.kD G.bD .nil pass0 (pa_cons (pv 1) (pa_cons (pv 3) pa_nil))))))
      (pss_cons (ps_set (i := 5) scL.nd rfl (.inr rfl) (StX.pe_makeR (E := E0) G.MW G.gW hr5 (by rfl) G.W.m pass0
          (pa_cons (pe_smeth (E := E0) (pe_glob (v := .ref G.C) (by rfl) G.T.m rfl) G.T.rd sm1 F1 hr5 pass0 (pa_cons (pe_ix ix_list (pv 2) pe_int (fun _ _ => rfl)) pa_nil))
          (pa_cons (pe_smeth (E := E0) (pe_glob (v := .ref G.C) (by rfl) G.T.m rfl) G.T.rd sm2 F2 hr5 pass0 (pa_cons (pe_ix ix_list (pv 2) pe_int (fun _ _ => rfl)) (pa_cons (pe_ix ix_list (pv 2) (pe_ix ix_list (pv 4) pe_int (fun _ _ => rfl)) (fun _ _ => rfl)) pa_nil)))
          (pa_cons (pe_smeth (E := E0) (pe_glob (v := .ref G.C) (by rfl) G.T.m rfl) G.T.rd sm2 F2 hr5 pass0 (pa_cons (pe_ix ix_list (pv 2) pe_int (fun _ _ => rfl)) (pa_cons (pe_ix ix_list (pv 2) (pe_ix ix_list (pv 4) pe_int (fun _ _ => rfl)) (fun _ _ => rfl)) pa_nil)))
          (pa_cons (pe_smeth (E := E0) (pe_glob (v := .ref G.C) (by rfl) G.T.m rfl) G.T.rd sm2 F2 hr5 pass0 (pa_cons (pe_ix ix_list (pv 2) pe_int (fun _ _ => rfl)) (pa_cons (pe_ix ix_list (pv 2) (pe_ix ix_list (pv 4) pe_int (fun _ _ => rfl)) (fun _ _ => rfl)) pa_nil)))
          (pa_cons (pe_smeth (E := E0) (pe_glob (v := .ref G.C) (by rfl) G.T.m rfl) G.T.rd sm2 F2 hr5 pass0 (pa_cons (pe_ix ix_list (pv 2) pe_int (fun _ _ => rfl)) (pa_cons (pe_ix ix_list (pv 2) (pe_ix ix_list (pv 4) pe_int (fun _ _ => rfl)) (fun _ _ => rfl)) pa_nil)))
          (pa_cons (pe_smeth (E := E0) (pe_glob (v := .ref G.C) (by rfl) G.T.m rfl) G.T.rd sm2 F2 hr5 pass0 (pa_cons (pe_ix ix_list (pv 2) pe_int (fun _ _ => rfl)) (pa_cons (pe_ix ix_list (pv 2) (pe_ix ix_list (pv 4) pe_int (fun _ _ => rfl)) (fun _ _ => rfl)) pa_nil))) pa_nil))))))))
      (pss_cons (ps_set (i := 6) scL.nd rfl (.inl rfl) (pe_lst (pa_cons pe_int (pa_cons pe_non (pa_cons pe_non (pa_cons pe_non (pa_cons pe_non (pa_cons pe_non pa_nil))))))))
      (pss_cons (ps_set (i := 7) scL.nd rfl (.inl rfl) pe_int)
      (pss_cons (ps_for PassesOwn.never rfl (pi_range1 (by rfl) G.B.range (pa_cons pe_int pa_nil)) (pg_name (i := 8) scL.nd rfl (.inl rfl))
        (pss_cons (ps_set (i := 9) scL.nd rfl (.inl rfl) (pe_call G.gD hr1 (by rfl) G.mD G.kD G.bD .nil pass0 (pa_cons (pv 1) (pa_cons pe_int pa_nil))))
        (C8.pss_cut (ps_set (i := 10) scL.nd rfl (.inl rfl) (pe_ifExp (pt_cmpR op_eq (pv 9) pe_int (nomark _)) pe_str (pe_ix ix_list (pe_lst (pa_cons pe_str (pa_cons pe_str (pa_cons pe_str (pa_cons pe_str (pa_cons pe_str pa_nil)))))) (pe_call G.gD hr1 (by rfl) G.mD G.kD G.bD .nil pass0 (pa_cons (pv 1) (pa_cons pe_int pa_nil))) (fun _ _ => rfl))))
        (pss_cons (ps_set (i := 11) scL.nd rfl (.inl rfl) pe_non)
        (C8.pss_cut (ps_if (pt_cmpR op_eq (pv 10) pe_str (nomark _)) (pss_cons (ps_aug (i := 7) scL.nd rfl (.inl rfl) pe_int ip_add) (pss_one (ps_asg (pv 7) (pg_sub (pv 6) pe_int set_list)))) pss_nil)
        (C8.pss_cut (ps_if (pt_cmpR op_eq (pv 10) pe_str (nomark _))
            (pss_cons (ps_set (i := 12) scL.nd rfl (.inl rfl) (pe_lst (pa_cons (pv 9) pa_nil)))
            (pss_cons (ps_for PassesOwn.never rfl (pi_range1 (by rfl) G.B.range (pa_cons pe_int pa_nil)) (pg_name (i := 3) scL.nd rfl (.inl rfl))
              (pss_one (ps_if (pt_cmpR op_isN (pe_ix ix_list (pv 6) (pe_ix ix_list (pv 12) (pe_un un_neg pe_int) (fun _ _ => rfl)) (fun _ _ => rfl)) pe_non (nomark _))
                (pss_one (ps_expr (pe_bm PySem.F.plainAttrs_list PySem.F.slot_list_append PySem.F.type_list_append mt_append (pv 12) (pa_cons (pe_ix ix_list (pv 4) (pe_ix ix_list (pv 12) (pe_un un_neg pe_int) (fun _ _ => rfl)) (fun _ _ => rfl)) pa_nil)))) pss_nil)))
            (pss_cons (ps_for PassesOwn.never rfl (pi_list (pv 12)) (pg_name (i := 3) scL.nd rfl (.inl rfl))
              (pss_one (ps_asg (pe_ix ix_list (pv 6) (pe_ix ix_list (pv 12) (pe_un un_neg pe_int) (fun _ _ => rfl)) (fun _ _ => rfl)) (pg_sub (pv 6) (pv 3) set_list))))
            (pss_one (ps_set (i := 11) scL.nd rfl (.inl rfl) (pe_ix ix_list (pv 6) (pv 9) (fun _ _ => rfl))))))) pss_nil)
        (C8.pss_cut (ps_if (pt_cmpR op_eq (pv 10) pe_str (nomark _)) (pss_one (ps_set (i := 11) scL.nd rfl (.inl rfl) (pe_ix ix_list (pv 6) (pv 9) (fun _ _ => rfl)))) pss_nil)
        (C8.pss_cut (ps_if (pt_cmpR op_eq (pv 10) pe_str (nomark _)) (pss_one (ps_asg pe_non (pg_sub (pv 6) (pv 9) set_list))) pss_nil)
        (pss_cons (ps_if (pt_not (pt_val (pe_call G.gS hr3 (by rfl) G.mS G.kS G.bS .nil pass0 (pa_cons (pe_meth (pv 5) G.W.cls G.mDo G.gDo hr10 G.bDo .nil pass0 (pa_cons (pe_tup (pa_cons (pv 10) (pa_cons (pe_ix ix_list (pv 2) (pv 9) (fun _ _ => rfl)) pa_nil))) pa_nil)) (pa_cons (pv 11) pa_nil))))) (pss_one (ps_ret pe_bl)) pss_nil)
        (pss_one (ps_if (pt_not (pt_val (pe_call G.gS hr3 (by rfl) G.mS G.kS G.bS .nil pass0 (pa_cons (pe_lc (own := [("name", 13)]) (g := gName 13) (tt := tYes) (te := tOp (rItemOwn G.CW (spItem K G.C G.CS G.CW) E0) (tVar 5) (tVar 13)) rfl scL.nd (pi_list (pv 2)) (blkOk_by (N := ["script", "pool", "names", "k", "over", "world", "values", "serial", "turn", "x", "word", "due", "way", "name"]) (sc := defScope sLaw) (by decide +kernel))
            (fun _ _ _ _ _ => pg_name (i := 13) scL.nd rfl (.inl rfl)) (fun _ _ _ _ _ => pts_nil) (fun _ _ _ _ _ => pe_itemOwn (E := E0) G.aIt G.nIt G.hIt G.gIt hr6 pass0 (pv 5) (pv 13))) (pa_cons (pv 6) pa_nil))))) (pss_one (ps_ret pe_bl)) pss_nil)))))))))))
      (pss_one (ps_ret pe_bl)))))))), ?_⟩
    refine ⟨.ref a, rfl, a, ns, rfl, hS0, hlen, fun p q H1 np nq P1 s1 => ?_⟩
    refine ⟨.ref p, rfl, p, q, 0, 6, rfl, P1, by omega, by omega, fun nl nms n2 H2 nnl hl2 hw hnd _ hn2 P2 K2 enl => ?_⟩
    -- over
    have two : ∀ {z : Addr}, z ∉ [p, q] → z ≠ p ∧ z ≠ q := fun {z} h => ⟨fun e => h (by rw [e]; exact List.mem_cons_self), fun e => h (by rw [e]; exact List.mem_cons_of_mem _ List.mem_cons_self)⟩
    have nlp : nl ∉ [p, q] := fun m => P1.alive.not nnl m
    refine ⟨by show 1 ≤ sizeLine; decide, fun b nb => ?_⟩
    have P3 := P2.new (o := .lst [.int 0]) nb
    have enl3 := same_new (o := .lst [.int 0]) nb _ _ enl
    have eb : (upd H2 b (.lst [.int 0])) b = some (.lst [.int 0]) := upd_same
    generalize upd H2 b (.lst [.int 0]) = H3 at *
    refine ⟨1, 6, rfl, by decide, fun D nD => ?_⟩
    have nDp := two (P3.alive.not nD)
    have nbp := two (P2.alive.not nb)
    have nDb : D ≠ b := (ne_of_none eb nD).symm
    have nDl : D ≠ nl := (ne_of_none enl3 nD).symm
    refine lc_range (lo := 1) (n := 5) (fun j H5 => ∃ acc : List Nat, H5 D = some (.lst (acc.map nat)) ∧ acc.length = j ∧ (∀ k m : Nat, acc[k]? = some m → m ≤ k) ∧ PoolAt H5 p q (n2 + j) ∧ H5 b = some (.lst [.int 0]) ∧ H5 nl = some (.lst (nms.map V.str)))
      ⟨[], upd_same, rfl, fun k m h => (by simp at h), P3.new nD, by rw [upd_ne nDb.symm]; exact eb, by rw [upd_ne nDl.symm]; exact enl3⟩ (fun j H5 hj hI => ?_) (fun H5 hI => ?_)
    · obtain ⟨acc, eD, el, hacc, P5, eb5, enl5⟩ := hI
      refine ⟨rfl, ?_⟩
      refine ⟨.ref p, rfl, _, rfl, p, q, n2 + j, _, rfl, P5, by omega, by omega, by omega, fun d H6 d0 d1 P6 K6 => ?_⟩
      have eD6 := K6 _ _ nDp.1 nDp.2 eD
      refine ⟨acc.map nat, eD6, small1000 (by rw [List.length_map]; omega), acc ++ [d.toNat], ?_, by rw [List.length_append, el]; rfl, fun k m h => ?_, P6.upd nDp.1 nDp.2, ?_, ?_⟩
      · rw [upd_same, List.map_append]
        show _ = some (HO.lst (acc.map nat ++ [V.int (d.toNat : Int)]))
        rw [Int.toNat_of_nonneg d0]
      · rcases Nat.lt_or_ge k acc.length with q1 | q1
        · rw [List.getElem?_append_left q1] at h; exact hacc k m h
        · rw [List.getElem?_append_right q1] at h
          have : k - acc.length = 0 := by
            rcases Nat.eq_zero_or_pos (k - acc.length) with z | z
            · exact z
            · rw [List.getElem?_eq_none (by simp; omega)] at h; cases h
          rw [this] at h
          obtain rfl := Option.some.inj h
          omega
      · rw [upd_ne nDb.symm]; exact K6 _ _ nbp.1 nbp.2 eb5
      · rw [upd_ne nDl.symm]; exact K6 _ _ (two nlp).1 (two nlp).2 enl5
    · obtain ⟨acc, eD, el, hacc, P5, eb5, enl5⟩ := hI
      refine ⟨b, D, _, _, rfl, rfl, eb5, eD, by rw [List.length_map, el]; decide, fun ov nov => ?_⟩
      obtain ⟨o1, o2, o3, o4, o5, rfl⟩ : ∃ o1 o2 o3 o4 o5, acc = [o1, o2, o3, o4, o5] := by
        match acc, el with
        | [o1, o2, o3, o4, o5], _ => exact ⟨o1, o2, o3, o4, o5, rfl⟩
      obtain ⟨on, hon⟩ : ∃ on, on = [0, o1, o2, o3, o4, o5] := ⟨_, rfl⟩
      have hol : on.length = 6 := by rw [hon]; rfl
      have hov : ∀ k m : Nat, on[k]? = some m → m ≤ k ∧ (0 < k → m < k) := by
        intro k m h
        rw [hon] at h
        match k with
        | 0 => obtain rfl := Option.some.inj h; exact ⟨Nat.le_refl _, fun h => h⟩
        | k + 1 => exact ⟨Nat.le_succ_of_le (hacc k m h), fun _ => Nat.lt_succ_of_le (hacc k m h)⟩
      have P6 := P5.new (o := .lst ([.int 0] ++ [o1, o2, o3, o4, o5].map nat)) nov
      have enl6 := same_new (o := .lst ([.int 0] ++ [o1, o2, o3, o4, o5].map nat)) nov _ _ enl5
      have eov6 : (upd H5 ov (.lst ([.int 0] ++ [o1, o2, o3, o4, o5].map nat))) ov = some (.lst (on.map nat)) := by rw [upd_same, hon]; rfl
      have ovp := P5.alive.not nov
      have ovl : ov ≠ nl := (ne_of_none enl5 nov).symm
      generalize upd H5 ov (.lst ([.int 0] ++ [o1, o2, o3, o4, o5].map nat)) = H6 at *
      have d1 := hov 1 o1 (by rw [hon]; rfl)
      have d2 := hov 2 o2 (by rw [hon]; rfl)
      have d3 := hov 3 o3 (by rw [hon]; rfl)
      have d4 := hov 4 o4 (by rw [hon]; rfl)
      have d5 := hov 5 o5 (by rw [hon]; rfl)
      have at6 : ∀ {o : Nat}, o < 6 → ∃ q, nms[o]? = some q := fun {o} h => ⟨nms[o]'(by rw [hl2]; exact h), List.getElem?_eq_getElem _⟩
      obtain ⟨m0, em0⟩ := at6 (o := 0) (by omega)
      obtain ⟨m1, em1⟩ := at6 (o := 1) (by omega)
      obtain ⟨m2, em2⟩ := at6 (o := 2) (by omega)
      obtain ⟨m3, em3⟩ := at6 (o := 3) (by omega)
      obtain ⟨m4, em4⟩ := at6 (o := 4) (by omega)
      obtain ⟨m5, em5⟩ := at6 (o := 5) (by omega)
      obtain ⟨q1, eq1⟩ := at6 (o := o1) (by omega)
      obtain ⟨q2, eq2⟩ := at6 (o := o2) (by omega)
      obtain ⟨q3, eq3⟩ := at6 (o := o3) (by omega)
      obtain ⟨q4, eq4⟩ := at6 (o := o4) (by omega)
      obtain ⟨q5, eq5⟩ := at6 (o := o5) (by omega)
      have hns : [m0, m1, m2, m3, m4, m5] = nms := by
        match nms, hl2, em0, em1, em2, em3, em4, em5 with
        | [a0, a1, a2, a3, a4, a5], _, e0, e1, e2, e3, e4, e5 =>
          obtain rfl := Option.some.inj e0
          obtain rfl := Option.some.inj e1
          obtain rfl := Option.some.inj e2
          obtain rfl := Option.some.inj e3
          obtain rfl := Option.some.inj e4
          obtain rfl := Option.some.inj e5
          rfl
      have mv : ∀ {i : Nat} {m : Str}, nms[i]? = some m → (nms.map V.str)[i]? = some (.str m) := fun h => by rw [List.getElem?_map, h]; rfl
      have wm : ∀ {i : Nat} {m : Str}, nms[i]? = some m → IsWord m := fun h => hw _ (List.mem_of_getElem? h)
      have no : ∀ {i m : Nat}, on[i]? = some m → (on.map nat)[i]? = some (.int (m : Int)) := fun h => by rw [List.getElem?_map, h]; rfl
      have eo1 : on[1]? = some o1 := by rw [hon]; rfl
      have eo2 : on[2]? = some o2 := by rw [hon]; rfl
      have eo3 : on[3]? = some o3 := by rw [hon]; rfl
      have eo4 : on[4]? = some o4 := by rw [hon]; rfl
      have eo5 : on[5]? = some o5 := by rw [hon]; rfl
      clear eD eb5 eb hacc P5 enl5 P3 enl3
      refine ⟨rfl, _, rfl, nl, _, 0, _, rfl, rfl, SqL.of enl6, atI_nat (j := 0) (mv em0), m0, rfl, wm em0, fun a0 H7 s7 th0 => ?_⟩
      refine ⟨rfl, _, rfl, nl, _, 1, _, rfl, rfl, SqL.of (s7 _ _ enl6), atI_nat (j := 1) (mv em1), _, rfl, _, rfl, ov, _, 1, _, rfl, rfl, SqL.of (s7 _ _ eov6), atI_nat (j := 1) (no eo1), nl, _, _, _, rfl, rfl, SqL.of (s7 _ _ enl6), atI_nat (mv eq1), m1, q1, rfl, wm em1, wm eq1, fun a1 H8 s8 th1 => ?_⟩
      have t8 := s7.trans s8
      refine ⟨rfl, _, rfl, nl, _, 2, _, rfl, rfl, SqL.of (t8 _ _ enl6), atI_nat (j := 2) (mv em2), _, rfl, _, rfl, ov, _, 2, _, rfl, rfl, SqL.of (t8 _ _ eov6), atI_nat (j := 2) (no eo2), nl, _, _, _, rfl, rfl, SqL.of (t8 _ _ enl6), atI_nat (mv eq2), m2, q2, rfl, wm em2, wm eq2, fun a2 H9 s9 th2 => ?_⟩
      have t9 := t8.trans s9
      refine ⟨rfl, _, rfl, nl, _, 3, _, rfl, rfl, SqL.of (t9 _ _ enl6), atI_nat (j := 3) (mv em3), _, rfl, _, rfl, ov, _, 3, _, rfl, rfl, SqL.of (t9 _ _ eov6), atI_nat (j := 3) (no eo3), nl, _, _, _, rfl, rfl, SqL.of (t9 _ _ enl6), atI_nat (mv eq3), m3, q3, rfl, wm em3, wm eq3, fun a3 H10 s10 th3 => ?_⟩
      have t10 := t9.trans s10
      refine ⟨rfl, _, rfl, nl, _, 4, _, rfl, rfl, SqL.of (t10 _ _ enl6), atI_nat (j := 4) (mv em4), _, rfl, _, rfl, ov, _, 4, _, rfl, rfl, SqL.of (t10 _ _ eov6), atI_nat (j := 4) (no eo4), nl, _, _, _, rfl, rfl, SqL.of (t10 _ _ enl6), atI_nat (mv eq4), m4, q4, rfl, wm em4, wm eq4, fun a4 H11 s11 th4 => ?_⟩
      have t11 := t10.trans s11
      refine ⟨rfl, _, rfl, nl, _, 5, _, rfl, rfl, SqL.of (t11 _ _ enl6), atI_nat (j := 5) (mv em5), _, rfl, _, rfl, ov, _, 5, _, rfl, rfl, SqL.of (t11 _ _ eov6), atI_nat (j := 5) (no eo5), nl, _, _, _, rfl, rfl, SqL.of (t11 _ _ enl6), atI_nat (mv eq5), m5, q5, rfl, wm em5, wm eq5, fun a5 H12 s12 th5 => ?_⟩
      have t12 := t11.trans s12
      intro x dx nx ndx _
      have P12 : PoolAt H12 p q (n2 + 5) := P6.same t12
      have s13 : Same H12 (upd (upd H12 dx (.own x)) x (.ins G.CW dx [])) := fun b o e => by
        rw [upd_ne (ne_of_none e nx), upd_ne (ne_of_none e ndx)]; exact e
      have xL : x ∉ [p, q] := P12.alive.not nx
      obtain ⟨th, hth⟩ : ∃ th, th = ths6 m0 m1 m2 m3 m4 m5 q1 q2 q3 q4 q5 := ⟨_, rfl⟩
      have hthL : ThL K (mask [p, q] H12) G.C [(m0, .ref a0), (m1, .ref a1), (m2, .ref a2), (m3, .ref a3), (m4, .ref a4), (m5, .ref a5)] th := by
        rw [hth]
        exact .cons ((th0.same ((((s8.trans s9).trans s10).trans s11).trans s12)).pool P12) (.cons ((th1.same (((s9.trans s10).trans s11).trans s12)).pool P12) (.cons ((th2.same ((s10.trans s11).trans s12)).pool P12) (.cons ((th3.same (s11.trans s12)).pool P12) (.cons ((th4.same s12).pool P12) (.cons (th5.pool P12) .nil)))))
      have hnz : names th = nms := by rw [hth, ← hns]; rfl
      have thA : ∀ {i : Nat} {n : Str}, nms[i]? = some n → ∃ k ps, th[i]? = some (n, k, ps) ∧ ((k = "source" ∧ i = 0) ∨ (k = "field" ∧ 0 < i)) := fun e => by rw [hth]; exact th6_at hns e
      have thO : ∀ {i o : Nat} {n : Str}, 0 < i → nms[i]? = some n → on[i]? = some o → ∃ q, nms[o]? = some q ∧ th[i]? = some (n, ("field" : Str), [q]) := fun h0 e eo => by rw [hth]; exact th6_over hns hon eq1 eq2 eq3 eq4 eq5 h0 e eo
      have hndt : (names th).Nodup := by rw [hnz]; exact hnd
      have hfz : firsts th = nms.zip [.int 0, .none, .none, .none, .none, .none] := by rw [hth, ← hns]; rfl
      have hlt : th.length = 6 := by rw [hth]; rfl
      have hkt : ∀ t ∈ th, t.2.1 ∈ kindsS := by
        intro t ht
        obtain ⟨i, hi⟩ := List.getElem?_of_mem ht
        have hi6 : i < 6 := by rw [← hlt]; exact (List.getElem?_eq_some_iff.mp hi).1
        obtain ⟨n, en⟩ := at6 hi6
        obtain ⟨k, ps, e, hk⟩ := thA en
        rw [hi] at e
        obtain rfl := Option.some.inj e
        rcases hk with ⟨rfl, _⟩ | ⟨rfl, _⟩
        · show (("source" : Str)) ∈ kindsS; decide +kernel
        · show (("field" : Str)) ∈ kindsS; decide +kernel
      have hff : FieldsOk th := by
        intro i n parts hi
        have hi6 : i < 6 := by rw [← hlt]; exact (List.getElem?_eq_some_iff.mp hi).1
        obtain ⟨n', en⟩ := at6 hi6
        obtain ⟨k, ps, e, hk⟩ := thA en
        rw [hi] at e
        injection Option.some.inj e with z1 z2
        injection z2 with z2 z3
        subst z1
        rcases hk with ⟨rfl, _⟩ | ⟨_, h0⟩
        · exact absurd z2 (by decide +kernel)
        · obtain ⟨o, eo⟩ : ∃ o, on[i]? = some o := ⟨on[i]'(by rw [hol]; exact hi6), List.getElem?_eq_getElem _⟩
          obtain ⟨q, eq, et⟩ := thO h0 en eo
          rw [hi] at et
          injection Option.some.inj et with _ y2
          injection y2 with _ y3
          obtain ⟨k', ps', e', hk'⟩ := thA eq
          exact ⟨q, [], y3, o, k', ps', (hov i o eo).2 h0, e', hk'.imp (fun h => h.1) (fun h => h.1)⟩
      clear hth
      refine ⟨x, dx, [p, q], [(m0, .ref a0), (m1, .ref a1), (m2, .ref a2), (m3, .ref a3), (m4, .ref a4), (m5, .ref a5)], th, rfl, upd_same, xL, P12.alive.same s13, hthL.same (mask_same s13), hndt, by rw [hlt]; decide, hkt, hff, fun H14 s ct k14 ns14 nct14 hW hS => ⟨rfl, ?_⟩⟩
      have keep14 : ∀ b o, H12 b = some o → H14 b = some o := fun b o e => k14 b o (ne_of_none e nx) (s13 b o e)
      have P14 : PoolAt H14 p q (n2 + 5) := P12.same keep14
      have enl14 := keep14 _ _ (t12 _ _ enl6)
      have eov14 := keep14 _ _ (t12 _ _ eov6)
      rw [hfz] at hS
      refine ⟨by show 6 ≤ sizeLine; decide, fun vl nvl => ?_⟩
      have P15 := P14.new (o := .lst [.int 0, .non, .non, .non, .non, .non]) nvl
      have hW15 := hW.more (o := .lst [.int 0, .non, .non, .non, .non, .non]) nvl
      have hS15 := hS.more (o := .lst [.int 0, .non, .non, .non, .non, .non]) nvl
      have enl15 := same_new (o := .lst [.int 0, .non, .non, .non, .non, .non]) nvl _ _ enl14
      have eov15 := same_new (o := .lst [.int 0, .non, .non, .non, .non, .non]) nvl _ _ eov14
      have evl15 : (upd H14 vl (.lst [.int 0, .non, .non, .non, .non, .non])) vl = some (.lst [.int 0, .non, .non, .non, .non, .non]) := upd_same
      have nlv : nl ≠ vl := ne_of_none enl14 nvl
      have ovv : ov ≠ vl := ne_of_none eov14 nvl
      have vlp : vl ∉ [p, q] := P14.alive.not nvl
      generalize upd H14 vl (.lst [.int 0, .non, .non, .non, .non, .non]) = H15 at *
      obtain ⟨vlp1, vlp2⟩ := two vlp
      obtain ⟨L, hL⟩ : ∃ L, L = [vl, s, ct, p, q] := ⟨_, rfl⟩
      rw [← hL] at hW15 hS15
      have mvl : vl ∈ L := by rw [hL]; exact List.mem_cons_self
      have mp : p ∈ L := by rw [hL]; simp
      have mq : q ∈ L := by rw [hL]; simp
      have ms : s ∈ L := by rw [hL]; simp
      have mct : ct ∈ L := by rw [hL]; simp
      obtain ⟨tvs, htv⟩ : ∃ tvs, tvs = List.map (fun x => x.2) [(m0, V.ref a0), (m1, .ref a1), (m2, .ref a2), (m3, .ref a3), (m4, .ref a4), (m5, .ref a5)] := ⟨_, rfl⟩
      rw [← htv] at hW15
      have good15 : Good K G.C G.CS G.CW p q nl ov vl x s ct L tvs nms on th (n2 + 5) [.int 0, .non, .non, .non, .non, .non] [.int 0, .none, .none, .none, .none, .none] 0 H15 :=
        ⟨⟨P15, enl15, eov15, hW15, hS15⟩, evl15, .cons (.int _) (.cons .non (.cons .non (.cons .non (.cons .non (.cons .non .nil))))), rfl, 0, rfl⟩
      have gpool : ∀ {n n' vs ds sr H H'}, Good K G.C G.CS G.CW p q nl ov vl x s ct L tvs nms on th n vs ds sr H → PoolAt H' p q n' → Keeps p q H H' → Good K G.C G.CS G.CW p q nl ov vl x s ct L tvs nms on th n' vs ds sr H' := by
        intro n n' vs ds sr H H' g P' K'
        exact ⟨g.B.pool P' K' mp mq (two nlp) (two ovp), K' _ _ vlp1 vlp2 g.vl, g.fl, g.len, g.z⟩
      clear htv hW15 hS15 P15 enl15 eov15 evl15 hthL th0 th1 th2 th3 th4 th5
      refine ⟨50, rfl, by decide, by decide, for_range (lo := 0) (n := 50) (fun i σ H => ∃ (n : Nat) (vs : List V) (ds : List PyData) (sr : Nat) (y3 y8 y9 y10 y11 y12 y13 : Option V), σ = [some (.ref a), some (.ref p), some (.ref nl), y3, some (.ref ov), some (.ref x), some (.ref vl), some (.int (sr : Int)), y8, y9, y10, y11, y12, y13] ∧ n ≤ 55 + 2 * i ∧ Good K G.C G.CS G.CW p q nl ov vl x s ct L tvs nms on th n vs ds sr H)
        ⟨n2 + 5, _, _, 0, _, none, none, none, none, none, none, rfl, by omega, good15⟩ ?_ ?_⟩
      · rintro i σ H16 hi ⟨n, vs, ds, sr, y3, y8, y9, y10, y11, y12, y13, rfl, hn, g⟩
        refine ⟨_, rfl, p, q, n, 6, rfl, g.B.Po, by omega, by decide, by decide, fun d H17 d0 d1 P17 K17 => ?_⟩
        have g17 := gpool g P17 K17
        obtain ⟨xi, rfl⟩ : ∃ xi : Nat, d = (xi : Int) := ⟨d.toNat, by omega⟩
        have hxi : xi < 6 := by omega
        obtain ⟨nx', enx⟩ := at6 hxi
        have hwx := wm enx
        have hlv : vs.length = 6 := by rw [paired_len g.fl, g.len]
        refine ⟨fun σ H => ∃ (n' : Nat) (wd : Str), σ = [some (.ref a), some (.ref p), some (.ref nl), y3, some (.ref ov), some (.ref x), some (.ref vl), some (.int (sr : Int)), some (.int (0 + (i : Int))), some (.int (xi : Int)), some (.str wd), y11, y12, y13] ∧ n' ≤ n + 2 ∧ Good K G.C G.CS G.CW p q nl ov vl x s ct L tvs nms on th n' vs ds sr H ∧ ((wd = "change" ∧ xi = 0) ∨ (0 < xi ∧ (wd = "look" ∨ wd = "glance" ∨ wd = "renew" ∨ wd = "spy"))), ?_, ?_⟩
        · -- the word
          refine ⟨_, rfl, rfl, _, rfl, ?_⟩
          by_cases hx : xi = 0
          · subst hx
            exact iteT ⟨n + 1, "change", rfl, by omega, g17, .inl ⟨rfl, rfl⟩⟩
          · have ez : decide (V.int (xi : Int) = V.int 0) = false := decide_eq_false fun e => by injection e with e; omega
            show (if decide (V.int (xi : Int) = V.int 0) = true then _ else _)
            rw [ez]
            refine iteF ⟨by show 5 ≤ sizeLine; decide, fun pl npl => ?_⟩
            have g18 := g17.same (same_new (o := .lst [.str "look", .str "look", .str "glance", .str "renew", .str "spy"]) npl)
            have epl : (upd H17 pl (.lst [.str "look", .str "look", .str "glance", .str "renew", .str "spy"])) pl = some (.lst [.str "look", .str "look", .str "glance", .str "renew", .str "spy"]) := upd_same
            have plp : pl ∉ [p, q] := g17.B.Po.alive.not npl
            generalize upd H17 pl (.lst [.str "look", .str "look", .str "glance", .str "renew", .str "spy"]) = H18 at *
            refine ⟨_, rfl, p, q, n + 1, 5, rfl, g18.B.Po, by omega, by decide, by decide, fun d2 H19 d20 d21 P19 K19 => ?_⟩
            have g19 := gpool g18 P19 K19
            have epl19 := K19 _ _ (two plp).1 (two plp).2 epl
            obtain ⟨wd, ewd, hwd⟩ : ∃ wd, atI [V.str "look", .str "look", .str "glance", .str "renew", .str "spy"] d2 = some (.str wd) ∧ (wd = "look" ∨ wd = "glance" ∨ wd = "renew" ∨ wd = "spy") := by
              have hd2 : d2 = 0 ∨ d2 = 1 ∨ d2 = 2 ∨ d2 = 3 ∨ d2 = 4 := by omega
              rcases hd2 with rfl | rfl | rfl | rfl | rfl
              · exact ⟨"look", atI_nat (j := 0) rfl, .inl rfl⟩
              · exact ⟨"look", atI_nat (j := 1) rfl, .inl rfl⟩
              · exact ⟨"glance", atI_nat (j := 2) rfl, .inr (.inl rfl)⟩
              · exact ⟨"renew", atI_nat (j := 3) rfl, .inr (.inr (.inl rfl))⟩
              · exact ⟨"spy", atI_nat (j := 4) rfl, .inr (.inr (.inr rfl))⟩
            exact ⟨pl, _, d2, _, rfl, rfl, SqL.of epl19, ewd, n + 2, wd, rfl, by omega, g19, .inr ⟨Nat.pos_of_ne_zero hx, hwd⟩⟩
        · clear g g17
          rintro σ H18 ⟨n', wd, rfl, hn', g18, hwd⟩
          obtain ⟨PD, hPD⟩ : ∃ PD : St → Hp → Prop, PD = fun σ H => ∃ (n' : Nat) (vs' : List V) (sr' : Nat) (u : V) (y3 y12 y13 : Option V), σ = [some (.ref a), some (.ref p), some (.ref nl), y3, some (.ref ov), some (.ref x), some (.ref vl), some (.int (sr' : Int)), some (.int (0 + (i : Int))), some (.int (xi : Int)), some (.str wd), some u, y12, y13] ∧ n' ≤ 55 + 2 * (i + 1) ∧ Bas K G.C G.CS G.CW p q nl ov x s ct L tvs nms on th n' ds sr H ∧ H vl = some (.lst vs') ∧ Pend P w K mg base G.C G.CS G.dP G.dA nms th nx' wd ds sr vs' sr' u := ⟨_, rfl⟩
          obtain ⟨PN, hPN⟩ : ∃ PN : St → Hp → Prop, PN = fun σ H => ∃ (y3 y12 y13 : Option V), σ = [some (.ref a), some (.ref p), some (.ref nl), y3, some (.ref ov), some (.ref x), some (.ref vl), some (.int (sr : Int)), some (.int (0 + (i : Int))), some (.int (xi : Int)), some (.str wd), some .non, y12, y13] ∧ Good K G.C G.CS G.CW p q nl ov vl x s ct L tvs nms on th n' vs ds sr H := ⟨_, rfl⟩
          refine ⟨fun σ H => (wd = "change" ∧ PD σ H) ∨ (PN σ H ∧ 0 < xi ∧ (wd = "look" ∨ wd = "glance" ∨ wd = "renew" ∨ wd = "spy")), ?_, ?_⟩
          · -- change
            refine ⟨_, rfl, rfl, _, rfl, ?_⟩
            rcases hwd with ⟨rfl, rfl⟩ | ⟨h0, hwd⟩
            · refine iteT ⟨_, rfl, _, _, rfl, rfl, ?_⟩
              refine ⟨_, rfl, _, rfl, vl, _, _, _, rfl, rfl, g18.vl, ixN_nat (j := 0) (by rw [hlv]; decide), ?_⟩
              have ez : ((sr : Int) + 1) = ((sr + 1 : Nat) : Int) := by omega
              refine .inl ⟨rfl, ?_⟩
              rw [hPD]
              refine ⟨n', vs.set 0 (.int ((sr : Int) + 1)), sr + 1, .non, y3, y12, y13, by rw [← ez]; rfl, by omega, g18.B.upd g18.vl mvl vlp1 vlp2 nlv.symm ovv.symm, upd_same, ?_⟩
              obtain ⟨k, ps, ek, hk⟩ := thA enx
              obtain rfl : k = "source" := by
                rcases hk with ⟨h, _⟩ | ⟨_, h⟩
                · exact h
                · omega
              exact ⟨_, _, ds.set 0 (.int ((sr : Int) + 1)), _, G.aChange, .cons (.name (by decide +kernel) (by decide +kernel) hwx) .nil, .cons (.kind (by decide +kernel) (look_th hndt ek)) .nil, ⟨nx', rfl, by rw [put_zip hnd enx (by rw [g18.len]; decide), ez], rfl⟩, .non, paired_set (.int _) 0 g18.fl, by rw [List.length_set]; exact g18.len, _, by rw [List.getElem?_set_self (by rw [g18.len]; decide)]⟩
            · have hne : decide (V.str wd = V.str "change") = false := by rcases hwd with rfl | rfl | rfl | rfl <;> rfl
              show (if decide (V.str wd = V.str "change") = true then _ else _)
              rw [hne]
              refine iteF (.inr ⟨?_, h0, hwd⟩)
              rw [hPN]
              exact ⟨_, _, _, rfl, g18⟩
          rintro σ H19 hC1
          refine ⟨fun σ H => ((wd = "change" ∨ wd = "look") ∧ PD σ H) ∨ (PN σ H ∧ 0 < xi ∧ (wd = "glance" ∨ wd = "renew" ∨ wd = "spy")), ?_, ?_⟩
          · -- look
            rcases hC1 with ⟨rfl, hp⟩ | ⟨hp, h0, hw2⟩
            · have hp' := hp
              rw [hPD] at hp'
              obtain ⟨n2', vs', sr', u, z3, z12, z13, rfl, _⟩ := hp'
              exact ⟨_, rfl, rfl, _, rfl, iteF (.inl ⟨.inl rfl, hp⟩)⟩
            · have hp' := hp
              rw [hPN] at hp'
              obtain ⟨z3, z12, z13, rfl, g19⟩ := hp'
              refine ⟨_, rfl, rfl, _, rfl, ?_⟩
              rcases hw2 with rfl | hw2
              · refine iteT ⟨_, rfl, by show 1 ≤ sizeLine; decide, fun wy nwy => ?_⟩
                have B20 := g19.B.more (o := .lst [.int (xi : Int)]) nwy
                have evl20 := same_new (o := .lst [.int (xi : Int)]) nwy _ _ g19.vl
                have ewy20 : (upd H19 wy (.lst [.int (xi : Int)])) wy = some (.lst ([xi].map nat)) := upd_same
                have wyp := two (g19.B.Po.alive.not nwy)
                have wynl : wy ≠ nl := (ne_of_none g19.B.nl nwy).symm
                have wyov : wy ≠ ov := (ne_of_none g19.B.ov nwy).symm
                have wyvl : wy ≠ vl := (ne_of_none g19.vl nwy).symm
                generalize upd H19 wy (.lst [.int (xi : Int)]) = H20 at *
                obtain ⟨o, ho⟩ : ∃ o : Nat → Nat, ∀ k, k < 6 → on[k]? = some (o k) := ⟨fun k => on.getD k 0, fun k hk => by show on[k]? = some (on.getD k 0); rw [List.getD_eq_getElem?_getD, List.getElem?_eq_getElem (by omega)]; rfl⟩
                refine ⟨6, rfl, by decide, by decide, for_range (lo := 0) (n := 6) (fun k σ H => ∃ (y3 : Option V) (w : List Nat) (m : Nat), σ = [some (.ref a), some (.ref p), some (.ref nl), y3, some (.ref ov), some (.ref x), some (.ref vl), some (.int (sr : Int)), some (.int (0 + (i : Int))), some (.int (xi : Int)), some (.str "look"), some .non, some (.ref wy), z13] ∧ WayAt o ds xi k w m ∧ H wy = some (.lst (w.map nat)) ∧ Bas K G.C G.CS G.CW p q nl ov x s ct (wy :: L) tvs nms on th n' ds sr H ∧ H vl = some (.lst vs))
                  ⟨z3, [xi], xi, rfl, way_start (by rw [g19.len]; exact hxi), ewy20, B20, evl20⟩ ?_ ?_⟩
                · rintro k σ H21 hk ⟨y3', w, m, rfl, hW1, ewy, B21, evl⟩
                  have hm6 : m < 6 := by rw [← g19.len]; exact hW1.lt
                  obtain ⟨dm, edm⟩ : ∃ dm, ds[m]? = some dm := ⟨ds[m]'hW1.lt, List.getElem?_eq_getElem _⟩
                  obtain ⟨vm, evm, fvm⟩ := paired_get2 g19.fl edm
                  refine ⟨_, rfl, _, rfl, 1, rfl, wy, _, -1, _, rfl, rfl, SqL.of ewy, atI_end hW1.last, vl, _, m, _, rfl, rfl, SqL.of evl, atI_nat evm, rfl, _, rfl, ?_⟩
                  by_cases hd0 : dm = .none
                  · subst hd0
                    obtain rfl : vm = .non := by cases fvm; rfl
                    have hm0 : 0 < m := by
                      rcases Nat.eq_zero_or_pos m with rfl | h
                      · obtain ⟨z, ez⟩ := g19.z
                        rw [ez] at edm; cases edm
                      · exact h
                    refine iteT ⟨_, rfl, .inl ⟨rfl, _, SqL.of ewy⟩, _, rfl, _, rfl, 1, rfl, wy, _, -1, _, rfl, rfl, SqL.of ewy, atI_end hW1.last, ov, _, m, _, rfl, rfl, SqL.of B21.ov, atI_nat (no (ho m hm6)), wy, _, _, rfl, rfl, ewy, small1000 (by rw [List.length_map]; have := hW1.len; omega), ?_⟩
                    exact ⟨_, w ++ [o m], o m, rfl, way_next hW1 edm ((hov m (o m) (ho m hm6)).2 hm0), by rw [upd_same, List.map_append]; rfl, B21.upd ewy List.mem_cons_self wyp.1 wyp.2 wynl wyov, by rw [upd_ne wyvl.symm]; exact evl⟩
                  · have hvn : decide (vm = V.non) = false := decide_eq_false fun e => by rw [e] at fvm; cases fvm; exact hd0 rfl
                    show (if decide (vm = V.non) = true then _ else _)
                    rw [hvn]
                    exact iteF ⟨_, w, m, rfl, way_stay hW1 edm hd0, ewy, B21, evl⟩
                · rintro σ H21 ⟨y3', w, m, rfl, hW1, ewy, B21, evl⟩
                  obtain ⟨dd, edd, hdd, hch, hend⟩ := way_done hxi hW1
                  have hm6 : m < 6 := by rw [← g19.len]; exact hW1.lt
                  refine ⟨_, rfl, wy, rfl, ⟨_, SqL.of ewy⟩, for_list (K := K) (a := wy) (xs := w.map nat) (fun j σ H => ∃ (y3 : Option V) (vs' : List V), σ = [some (.ref a), some (.ref p), some (.ref nl), y3, some (.ref ov), some (.ref x), some (.ref vl), some (.int (sr : Int)), some (.int (0 + (i : Int))), some (.int (xi : Int)), some (.str "look"), some .non, some (.ref wy), z13] ∧ H wy = some (.lst (w.map nat)) ∧ Bas K G.C G.CS G.CW p q nl ov x s ct (wy :: L) tvs nms on th n' ds sr H ∧ H vl = some (.lst vs') ∧ Paired Flat vs' (setAll ds dd (w.take j)))
                    ⟨y3', vs, rfl, ewy, B21, evl, g19.fl⟩ (fun j σ H _ ⟨_, _, _, h, _⟩ => SqL.of h) ?_ ?_⟩
                  · rintro j y σ H22 hy ⟨y3'', vs', rfl, ewy22, B22, evl22, fl22⟩
                    rw [List.getElem?_map] at hy
                    obtain ⟨k, ek, rfl⟩ := Option.map_eq_some_iff.mp hy
                    have hk6 : k < 6 := by rw [← g19.len]; exact chain_mem hch k (List.mem_of_getElem? ek)
                    have hl22 : vs'.length = 6 := by rw [paired_len fl22, setAll_len, g19.len]
                    have emm : (setAll ds dd (w.take j))[m]? = some dd := by
                      rw [setAll_get]
                      split
                      · rfl
                      · exact edd
                    obtain ⟨vm, evm, fvm⟩ := paired_get2 fl22 emm
                    refine ⟨_, rfl, _, rfl, 1, rfl, wy, _, -1, _, rfl, rfl, SqL.of ewy22, atI_end hW1.last, vl, _, m, _, rfl, rfl, SqL.of evl22, atI_nat evm, ?_⟩
                    refine ⟨_, rfl, _, rfl, vl, _, _, _, rfl, rfl, evl22, ixN_nat (by rw [hl22]; exact hk6), ?_⟩
                    refine ⟨_, vs'.set k vm, rfl, by rw [upd_ne wyvl]; exact ewy22, B22.upd evl22 (List.mem_cons_of_mem _ mvl) vlp1 vlp2 nlv.symm ovv.symm, upd_same, ?_⟩
                    rw [List.take_add_one, ek]
                    show Paired Flat _ (setAll ds dd (w.take j ++ [k]))
                    rw [setAll_app]
                    exact paired_set fvm k fl22
                  · rintro σ H22 ⟨y3'', vs', rfl, ewy22, B22, evl22, fl22⟩
                    rw [List.length_map, List.take_length] at fl22
                    have hxw : xi ∈ w := List.mem_of_mem_head? (by rw [hW1.head]; rfl)
                    have exx : (setAll ds dd w)[xi]? = some dd := by
                      rw [setAll_get, if_pos ⟨hxw, by rw [g19.len]; exact hxi⟩]
                    obtain ⟨vx, evx, fvx⟩ := paired_get2 fl22 exx
                    refine ⟨_, rfl, _, rfl, vl, _, _, _, rfl, rfl, SqL.of evl22, atI_nat evx, .inl ⟨.inr rfl, ?_⟩⟩
                    rw [hPD]
                    obtain ⟨k, ps, ek, hk⟩ := thA enx
                    obtain rfl : k = "field" := by
                      rcases hk with ⟨_, h⟩ | ⟨h, _⟩
                      · omega
                      · exact h
                    obtain ⟨z, ez⟩ := g19.z
                    have hth : ∀ (x : Nat) (nx : Str), nms[x]? = some nx → ds[x]? = some .none → ∃ no, nms[o x]? = some no ∧ look th nx = some (("field" : Str), [no]) := by
                      intro y ny ey ed
                      have hy6 : y < 6 := by rw [← g19.len]; exact (List.getElem?_eq_some_iff.mp ed).1
                      have hy0 : 0 < y := by
                        rcases Nat.eq_zero_or_pos y with rfl | h
                        · rw [ez] at ed; cases ed
                        · exact h
                      obtain ⟨q, eq, et⟩ := thO hy0 ey (ho y hy6)
                      exact ⟨q, eq, look_th hndt et⟩
                    have hlk := look_way (th := th) (n := 6) hnd (by rw [hl2, g19.len]) hth hch hW1.head hend enx (by have := hW1.len; omega)
                    rw [← res_all hch hend] at hlk
                    refine ⟨n', vs', sr, vx, _, _, _, rfl, by omega, B22.less ms mct, evl22, _, _, setAll ds dd w, dd, G.aLook, .cons (.name (by decide +kernel) (by decide +kernel) hwx) .nil, .cons (.kind (by decide +kernel) (look_th hndt ek)) .nil, ⟨nx', _, rfl, hlk, rfl⟩, fvx, fl22, by rw [setAll_len]; exact g19.len, z, ?_⟩
                    rw [setAll_get]
                    split
                    · rename_i h
                      rcases chain_val hch hend 0 h.1 with e | e
                      · rw [ez] at e; cases e
                      · rw [ez] at e; exact e.symm
                    · exact ez
              · have hne : decide (V.str wd = V.str "look") = false := by rcases hw2 with rfl | rfl | rfl <;> rfl
                show (if decide (V.str wd = V.str "look") = true then _ else _)
                rw [hne]
                exact iteF (.inr ⟨hp, h0, hw2⟩)
          rintro σ H20 hC2
          refine ⟨fun σ H => ((wd = "change" ∨ wd = "look" ∨ wd = "glance") ∧ PD σ H) ∨ (PN σ H ∧ 0 < xi ∧ (wd = "renew" ∨ wd = "spy")), ?_, ?_⟩
          · -- glance
            rcases hC2 with ⟨h, hp⟩ | ⟨hp, h0, hw2⟩
            · have hne : decide (V.str wd = V.str "glance") = false := by rcases h with rfl | rfl <;> rfl
              have hp' := hp
              rw [hPD] at hp'
              obtain ⟨n2', vs', sr', u, z3, z12, z13, rfl, _⟩ := hp'
              refine ⟨_, rfl, rfl, _, rfl, ?_⟩
              show (if decide (V.str wd = V.str "glance") = true then _ else _)
              rw [hne]
              exact iteF (.inl ⟨h.imp id .inl, hp⟩)
            · have hp' := hp
              rw [hPN] at hp'
              obtain ⟨z3, z12, z13, rfl, g20⟩ := hp'
              refine ⟨_, rfl, rfl, _, rfl, ?_⟩
              rcases hw2 with rfl | hw2
              · obtain ⟨od, eod⟩ : ∃ od, ds[xi]? = some od := ⟨ds[xi]'(by rw [g20.len]; exact hxi), List.getElem?_eq_getElem _⟩
                obtain ⟨vv, evv, fvv⟩ := paired_get2 g20.fl eod
                refine iteT ⟨_, rfl, _, rfl, vl, _, _, _, rfl, rfl, SqL.of g20.vl, atI_nat evv, .inl ⟨.inr (.inr rfl), ?_⟩⟩
                rw [hPD]
                obtain ⟨k, ps, ek, hk⟩ := thA enx
                obtain rfl : k = "field" := by
                  rcases hk with ⟨_, h⟩ | ⟨h, _⟩
                  · omega
                  · exact h
                exact ⟨n', vs, sr, vv, _, _, _, rfl, by omega, g20.B, g20.vl, _, _, ds, od, G.aGlance, .cons (.name (by decide +kernel) (by decide +kernel) hwx) .nil, .cons (.kind (by decide +kernel) (look_th hndt ek)) .nil, ⟨nx', rfl, look_zip hnd enx eod, rfl⟩, fvv, g20.fl, g20.len, g20.z⟩
              · have hne : decide (V.str wd = V.str "glance") = false := by rcases hw2 with rfl | rfl <;> rfl
                show (if decide (V.str wd = V.str "glance") = true then _ else _)
                rw [hne]
                exact iteF (.inr ⟨hp, h0, hw2⟩)
          rintro σ H21 hC3
          refine ⟨PD, ?_, ?_⟩
          · -- renew, spy
            rcases hC3 with ⟨h, hp⟩ | ⟨hp, h0, hw2⟩
            · have hne : decide (V.str wd = V.str "renew") = false := by rcases h with rfl | rfl | rfl <;> rfl
              have hp' := hp
              rw [hPD] at hp'
              obtain ⟨n2', vs', sr', u, z3, z12, z13, rfl, _⟩ := hp'
              refine ⟨_, rfl, rfl, _, rfl, ?_⟩
              show (if decide (V.str wd = V.str "renew") = true then _ else _)
              rw [hne]
              exact iteF hp
            · rw [hPN] at hp
              obtain ⟨z3, z12, z13, rfl, g21⟩ := hp
              obtain ⟨k, ps, ek, hk⟩ := thA enx
              obtain rfl : k = "field" := by
                rcases hk with ⟨_, h⟩ | ⟨h, _⟩
                · omega
                · exact h
              rw [hPD]
              refine ⟨_, rfl, rfl, _, rfl, ?_⟩
              rcases hw2 with rfl | rfl
              · refine iteT ⟨_, rfl, _, rfl, vl, _, _, _, rfl, rfl, g21.vl, ixN_nat (by rw [hlv]; exact hxi), ?_⟩
                obtain ⟨z, ez⟩ := g21.z
                exact ⟨n', vs.set xi .non, sr, .non, _, _, _, rfl, by omega, g21.B.upd g21.vl mvl vlp1 vlp2 nlv.symm ovv.symm, upd_same, _, _, ds.set xi .none, .none, G.aRenew, .cons (.name (by decide +kernel) (by decide +kernel) hwx) .nil, .cons (.kind (by decide +kernel) (look_th hndt ek)) .nil, ⟨nx', rfl, by rw [put_zip hnd enx (by rw [g21.len]; exact hxi)], rfl⟩, .non, paired_set .non xi g21.fl, by rw [List.length_set]; exact g21.len, z, by rw [List.getElem?_set_ne (by omega)]; exact ez⟩
              · refine iteF ?_
                exact ⟨n', vs, sr, .non, _, _, _, rfl, by omega, g21.B, g21.vl, _, _, ds, .none, G.aSpy, .cons (.name (by decide +kernel) (by decide +kernel) hwx) .nil, .cons (.thing (look_th hndt ek)) .nil, ⟨nx', rfl, rfl, rfl⟩, .non, g21.fl, g21.len, g21.z⟩
          · -- the deed, the contents
            have hlds := g18.len
            clear hC1 hC2 hC3 hwd g18
            rintro σ H22 hp
            rw [hPD] at hp
            obtain ⟨n2', vs', sr', u, z3, z12, z13, rfl, hn2', B22, evl22, pd⟩ := hp
            obtain ⟨kinds, R, ds', dd, hA, hg, hc, hR, fu, fl', hl', hz'⟩ := pd.ex
            obtain ⟨dw, tt, ew⟩ := B22.W.of
            have al22 := B22.alive hL evl22
            have enV := mv enx
            refine ⟨_, rfl, x, dw, _, rfl, ew, rfl, ?_⟩
            refine ⟨_, rfl, _, rfl, _, rfl, nl, _, _, _, rfl, rfl, SqL.of B22.nl, atI_nat enV, by show 2 ≤ sizeLine; decide, fun t nt => ?_⟩
            have B23 := B22.same (same_new (o := .tup [.str wd, .str nx']) nt)
            have evl23 := same_new (o := .tup [.str wd, .str nx']) nt _ _ evl22
            have al23 := B23.alive hL evl23
            have tL : t ∉ L := al22.not nt
            have et : (upd H22 t (.tup [.str wd, .str nx'])) t = some (.tup [.str wd, .str nx']) := upd_same
            generalize upd H22 t (.tup [.str wd, .str nx']) = H23 at *
            refine do_gen (E' := E0) hA B23.W B23.S (by show (nms.zip ds).length ≤ 100; rw [List.length_zip, hl2, hlds]; decide) al23 (SqT.of (by rw [mask_out tL]; exact et)) (.cons (.str nx') .nil) (by show 1 ≤ 100; decide) hg hc hR fun v H24 c24 hW24 hS24 dv => ?_
            have np' : p ∉ [s, ct] ∧ q ∉ [s, ct] := by
              obtain ⟨_, cs, b, c', e1, e2, _⟩ := B23.Po
              exact ⟨B23.S.not_lst e1, B23.S.not_lst e2⟩
            have g24 : Good K G.C G.CS G.CW p q nl ov vl x s ct L tvs nms on th n2' vs' ds' sr' H24 :=
              ⟨⟨B23.Po.chg c24 np'.1 np'.2, c24 _ _ (B23.S.not_lst B23.nl) B23.nl, c24 _ _ (B23.S.not_lst B23.ov) B23.ov, hW24, hS24⟩, c24 _ _ (B23.S.not_lst evl23) evl23, fl', hl', hz'⟩
            refine ⟨_, rfl, v, u, dd, rfl, dp_same (mask_sub _ _) _ _ dv, fu.toDp, fu.dp3 2, _, rfl, iteF ?_⟩
            obtain ⟨dw24, tt24, ew24⟩ := g24.B.W.of
            have lnm : (nms.map V.str).length = 6 := by rw [List.length_map, hl2]
            refine ⟨_, rfl, nl, rfl, ⟨_, SqL.of g24.B.nl⟩, fun D nD => ?_⟩
            refine lc_list (K := K) (a := nl) (xs := nms.map V.str) (fun j H => H D = some (.lst (vs'.take j)) ∧ Same H24 H) ⟨upd_same, same_new nD⟩ (fun j H _ hI => SqL.of (hI.2 _ _ g24.B.nl)) (fun j y H25 hy hI => ?_) (fun H25 hI => ?_)
            · obtain ⟨eD, s25⟩ := hI
              rw [List.getElem?_map] at hy
              obtain ⟨nj, enj, rfl⟩ := Option.map_eq_some_iff.mp hy
              have hj : j < 6 := by rw [← hl2]; exact (List.getElem?_eq_some_iff.mp enj).1
              obtain ⟨dj, edj⟩ : ∃ dj, ds'[j]? = some dj := ⟨ds'[j]'(by rw [hl']; exact hj), List.getElem?_eq_getElem _⟩
              obtain ⟨vj, evj, fvj⟩ := paired_get2 fl' edj
              have g25 := g24.same s25
              refine ⟨rfl, ?_⟩
              refine ⟨_, rfl, _, rfl, x, dw24, _, rfl, s25 _ _ ew24, x, s, ct, L, tvs, _, nj, dj, rfl, g25.B.W, g25.B.S, look_zip hnd enj edj, fun v' hv' => ?_⟩
              obtain rfl := flat_of hv' fvj
              refine ⟨_, eD, small1000 (by rw [List.length_take]; omega), ?_, fun b o e => ?_⟩
              · rw [upd_same, List.take_add_one, evj]; rfl
              · rw [upd_ne (ne_of_none e nD)]; exact s25 b o e
            · obtain ⟨eD, s25⟩ := hI
              have lv6 : vs'.length = 6 := by rw [paired_len fl', hl']
              rw [lnm, ← lv6, List.take_length] at eD
              have g25 := g24.same s25
              refine ⟨_, rfl, .ref D, .ref vl, .list ds', rfl, .lst (SqL.of eD) (flat_all fl'), .lst (SqL.of g25.vl) (flat_all fl'), flat_dp3 fl' (by rw [hl']; decide), _, rfl, iteF ?_⟩
              exact ⟨n2', vs', ds', sr', _, _, _, _, _, _, _, rfl, hn2', g25⟩
      · rintro σ H16 _
        exact kk H16
end
theorem ok_law_ne {P : Program} {w : World} {K : PySem.W.Frag} {mg : Str → Option Value} {base : Heap} {f : Addr} {fd : FuncData} (F : Fun K "law" "law" sLaw f fd) (h : Nonempty (Law10 P w K mg base)) : FnOk P w K mg base CX0 12 f fd ["script"] (spLaw K) := h.elim fun G => ok_law F G
/-! ### what the top has written -/
structure FunIn (K : PySem.W.Frag) (mg : Str → Option Value) (x : Str) (st : Stmt) (f : Addr) (fd : FuncData) : Prop where
  F : Fun K x x st f fd
  m : mg x = some (.ref f)
theorem fun_in {K : PySem.W.Frag} {h : Heap} {mg : Str → Option Value} {x : Str} {st : Stmt} {f : Addr} {oc : Value} {od an : Option Addr} {osl : Array (Option Value)} {kV doc pm cdv ct : Value} (X : K.In h) (G : h.Ns mainGlobals mg)
    (a : PySem.W.nsIn K mainGlobals x = some (some (.ref f))) (l : K.lookup f = some ⟨oc, od, .func (PySem.W.fnOf x x (defArgs st) (defBody st) (defScope st) .none kV doc pm an cdv ct), osl⟩)
    (c : PySem.W.codeIn K cdv x = true) (k : PySem.W.keepIn K (.ref f) = true) : ∃ f fd, FunIn K mg x st f fd :=
  ⟨f, _, fun_mk l c k, PySem.W.mg_of X G a⟩
theorem bts_in {K : PySem.W.Frag} {h : Heap} {mg : Str → Option Value} (X : K.In h) (G : h.Ns mainGlobals mg) (z1 : PySem.W.nsIn K mainGlobals "isinstance" = some none) (z2 : PySem.W.nsIn K mainGlobals "bool" = some none) (z3 : PySem.W.nsIn K mainGlobals "str" = some none)
    (z4 : PySem.W.nsIn K mainGlobals "int" = some none) (z5 : PySem.W.nsIn K mainGlobals "list" = some none) (z6 : PySem.W.nsIn K mainGlobals "tuple" = some none) (z7 : PySem.W.nsIn K mainGlobals "len" = some none) (z8 : PySem.W.nsIn K mainGlobals "range" = some none) : Bts mg :=
  ⟨PySem.W.mg_none_of X G z1, PySem.W.mg_none_of X G z2, PySem.W.mg_none_of X G z3, PySem.W.mg_none_of X G z4, PySem.W.mg_none_of X G z5, PySem.W.mg_none_of X G z6, PySem.W.mg_none_of X G z7, PySem.W.mg_none_of X G z8⟩
/-! ### what the top says of worlds -/
section
variable {K : PySem.W.Frag} {h : Heap} {mg : Str → Option Value} {w : World}
theorem kd_in {x : Str} {d : Addr} {es : Array DictEntry} {n : Nat} (X : K.In h) (G : h.Ns mainGlobals mg) (a : PySem.W.nsIn K mainGlobals x = some (some (.ref d))) (l : K.lookup d = some ⟨.type "dict", none, .dict es n, #[]⟩) (k : PySem.W.KeysLit w.params es.toList) (z : (d == sysModules) = false) :
    ∃ d es n, mg x = some (.ref d) ∧ KDict K w d es n ∧ K.lookup d = some ⟨.type "dict", none, .dict es n, #[]⟩ := ⟨d, es, n, PySem.W.mg_of X G a, ⟨l, k, z⟩, l⟩
theorem kdct_of {d : Addr} {es : Array DictEntry} {n : Nat} (D : KDict K w d es n) {x : Str} {u : Value} {v : V} (e : PySem.W.nsIn K d x = some (some u)) (r : RelV v u) : KDct K w d x v := ⟨es, n, u, D.at_, D.lit, e, r⟩
theorem sqt_of {t : Addr} {dd : Option Addr} {its : Array Value} {n : Nat} {sl : Array (Option Value)} {xs : List V} (l : K.lookup t = some ⟨.type "tuple", dd, .seq its n, sl⟩) (z : its.size ≤ sizeLine) (v : Vals xs its.toList) (H : Hp) : SqT K H t xs := .inr ⟨_, its, n, l, rfl, rfl, z, v⟩
theorem parts1 {d t : Addr} {es : Array DictEntry} {n m : Nat} {word k1 : Str} {t1 : Tok} {dd : Option Addr} {sl : Array (Option Value)} (D : KDict K w d es n) (e : PySem.W.nsIn K d word = some (some (.ref t))) (l : K.lookup t = some ⟨.type "tuple", dd, .seq #[.str k1 t1] m, sl⟩) : PartsK K w d word [k1] :=
  ⟨⟨_, e⟩, t, kdct_of D e rfl, sqt_of l (by show 1 ≤ sizeLine; decide) (.cons ⟨_, rfl⟩ .nil)⟩
theorem parts2 {d t : Addr} {es : Array DictEntry} {n m : Nat} {word k1 k2 : Str} {t1 t2 : Tok} {dd : Option Addr} {sl : Array (Option Value)} (D : KDict K w d es n) (e : PySem.W.nsIn K d word = some (some (.ref t))) (l : K.lookup t = some ⟨.type "tuple", dd, .seq #[.str k1 t1, .str k2 t2] m, sl⟩) : PartsK K w d word [k1, k2] :=
  ⟨⟨_, e⟩, t, kdct_of D e rfl, sqt_of l (by show 2 ≤ sizeLine; decide) (.cons ⟨_, rfl⟩ (.cons ⟨_, rfl⟩ .nil))⟩
def KDctF (K : PySem.W.Frag) (w : World) (d : Addr) (word : Str) (f : Addr) : Prop := KDct K w d word (.ref f)
theorem act_in {d f : Addr} {es : Array DictEntry} {n : Nat} {word x : Str} {st : Stmt} {oc : Value} {od an : Option Addr} {osl : Array (Option Value)} {kV doc pm cdv ct : Value} (D : KDict K w d es n) (e : PySem.W.nsIn K d word = some (some (.ref f)))
    (l : K.lookup f = some ⟨oc, od, .func (PySem.W.fnOf x x (defArgs st) (defBody st) (defScope st) .none kV doc pm an cdv ct), osl⟩) (c : PySem.W.codeIn K cdv x = true) (k : PySem.W.keepIn K (.ref f) = true) : ∃ f fd, KDctF K w d word f ∧ Fun K x x st f fd :=
  ⟨f, _, kdct_of D e rfl, fun_mk l c k⟩
theorem first_in {d a1 a2 a3 : Addr} {es : Array DictEntry} {n n1 n2 n3 : Nat} {d1 d2 d3 : Option Addr} {s1 s2 s3 : Array (Option Value)} {t1 t2 t3 t4 t5 t6 : Tok} (D : KDict K w d es n)
    (e1 : PySem.W.nsIn K d "feed" = some (some (.ref a1))) (l1 : K.lookup a1 = some ⟨.type "tuple", d1, .seq #[.int 0 t1, .int 0 t2, .int 0 t3] n1, s1⟩) (e2 : PySem.W.nsIn K d "dice" = some (some (.ref a2))) (l2 : K.lookup a2 = some ⟨.type "tuple", d2, .seq #[.int 0 t4, .int 0 t5] n2, s2⟩)
    (e3 : PySem.W.nsIn K d "table" = some (some (.ref a3))) (l3 : K.lookup a3 = some ⟨.type "tuple", d3, .seq #[] n3, s3⟩) (e4 : PySem.W.nsIn K d "source" = some (some (.int 0 t6))) (e5 : PySem.W.nsIn K d "field" = some (some .none)) (e6 : PySem.W.nsIn K d "flag" = some (some (.bool false))) (e7 : PySem.W.nsIn K d "slot" = some (some .none)) : FirstK K w d := by
  refine ⟨fun kind hk => ?_⟩
  simp only [kindsS, List.mem_cons, List.not_mem_nil, or_false] at hk
  rcases hk with rfl | rfl | rfl | rfl | rfl | rfl | rfl
  · exact ⟨.ref a1, kdct_of D e1 rfl, fun H => .tup (sqt_of (xs := [.int 0, .int 0, .int 0]) l1 (by show 3 ≤ sizeLine; decide) (.cons ⟨_, rfl⟩ (.cons ⟨_, rfl⟩ (.cons ⟨_, rfl⟩ .nil))) H) (.cons (.int 0) (.cons (.int 0) (.cons (.int 0) .nil)))⟩
  · exact ⟨.ref a2, kdct_of D e2 rfl, fun H => .tup (sqt_of (xs := [.int 0, .int 0]) l2 (by show 2 ≤ sizeLine; decide) (.cons ⟨_, rfl⟩ (.cons ⟨_, rfl⟩ .nil)) H) (.cons (.int 0) (.cons (.int 0) .nil))⟩
  · exact ⟨.ref a3, kdct_of D e3 rfl, fun H => .tup (sqt_of (xs := []) l3 (by show 0 ≤ sizeLine; decide) .nil H) .nil⟩
  · exact ⟨.int 0, kdct_of D e4 ⟨_, rfl⟩, fun H => .int 0⟩
  · exact ⟨.non, kdct_of D e5 rfl, fun H => .non⟩
  · exact ⟨.bl false, kdct_of D e6 rfl, fun H => .bl false⟩
  · exact ⟨.non, kdct_of D e7 rfl, fun H => .non⟩
/-- a method of a class -/
def MtAll (K : PySem.W.Frag) (C : Addr) (m qual : Str) (st : Stmt) : Prop := ∃ g fd, Meth K C m g ∧ PySem.W.fnIn K g = true ∧ Fun K m qual st g fd
theorem mt_in {C g : Addr} {m qual : Str} {st : Stmt} {oc : Value} {od an : Option Addr} {osl : Array (Option Value)} {kV doc pm cdv ct : Value}
    (at_ : PySem.W.findIn K (.ref C) m = some (some (.ref g))) (fn : PySem.W.isFn K (.ref g) = true) (kp : PySem.W.keepIn K (.ref g) = true)
    (l : K.lookup g = some ⟨oc, od, .func (PySem.W.fnOf m qual (defArgs st) (defBody st) (defScope st) .none kV doc pm an cdv ct), osl⟩) (c : PySem.W.codeIn K cdv qual = true) : MtAll K C m qual st :=
  ⟨g, _, ⟨at_, fn, kp⟩, by unfold PySem.W.fnIn; rw [l], fun_mk l c kp⟩
theorem state_in {C : Addr} (X : K.In h) (G : h.Ns mainGlobals mg) (a : PySem.W.nsIn K mainGlobals "State" = some (some (.ref C))) (pg : PySem.W.plainGet K C Str.empty = true) (hd : PySem.W.hasDictIn K C = true) (po : PySem.W.plainOver K C = true) (sa : PySem.W.findIn K (.ref C) "__setattr__" = some (some (.builtin "object.__setattr__")))
    (n1 : PySem.W.findIn K (.ref C) "by_name" = some none) (n2 : PySem.W.findIn K (.ref C) "contents" = some none) (n3 : PySem.W.findIn K (.ref C) "fetchings" = some none) (n4 : PySem.W.findIn K (.ref C) "seedings" = some none) (n5 : PySem.W.findIn K (.ref C) "serials" = some none)
    (mk : PySem.W.makesIn K C = true) (kp : PySem.W.keepIn K (.ref C) = true) (ini : MtAll K C "__init__" "State.__init__" (st 0)) (m3 : MtAll K C "new_serial" "State.new_serial" (st 3)) (m4 : MtAll K C "take_until" "State.take_until" (st 4)) : ∃ C fI fd, StIn K mg C ∧ Mk K C fI ∧ Fun K "__init__" "State.__init__" (st 0) fI fd ∧ MtAll K C "new_serial" "State.new_serial" (st 3) ∧ MtAll K C "take_until" "State.take_until" (st 4) := by
  obtain ⟨g, fd, m, _, F⟩ := ini
  exact ⟨C, g, fd, ⟨PySem.W.mg_of X G a, ⟨pg, hd, po, sa⟩, n1, n2, n3, n4, n5⟩, ⟨mk, m.at_, m.fn, kp⟩, F, m3, m4⟩
theorem world_in {C : Addr} (X : K.In h) (G : h.Ns mainGlobals mg) (a : PySem.W.nsIn K mainGlobals "World" = some (some (.ref C))) (pg : PySem.W.plainGet K C Str.empty = true) (hd : PySem.W.hasDictIn K C = true) (po : PySem.W.plainOver K C = true) (sa : PySem.W.findIn K (.ref C) "__setattr__" = some (some (.builtin "object.__setattr__")))
    (n1 : PySem.W.findIn K (.ref C) "things" = some none) (n2 : PySem.W.findIn K (.ref C) "_state" = some none) (n3 : PySem.W.findIn K (.ref C) "_log" = some none)
    (mk : PySem.W.makesIn K C = true) (kp : PySem.W.keepIn K (.ref C) = true) (ini : MtAll K C "__init__" "World.__init__" (wo 0)) (m1 : MtAll K C "do" "World.do" (wo 1)) (m4 : MtAll K C "__getitem__" "World.__getitem__" (wo 4)) (m6 : MtAll K C "__contains__" "World.__contains__" (wo 6)) :
    ∃ C fI fd, WoIn K mg C ∧ Mk K C fI ∧ Fun K "__init__" "World.__init__" (wo 0) fI fd ∧ MtAll K C "do" "World.do" (wo 1) ∧ MtAll K C "__getitem__" "World.__getitem__" (wo 4) ∧ MtAll K C "__contains__" "World.__contains__" (wo 6) := by
  obtain ⟨g, fd, m, _, F⟩ := ini
  exact ⟨C, g, fd, ⟨PySem.W.mg_of X G a, ⟨pg, hd, po, sa⟩, n1, n2, n3⟩, ⟨mk, m.at_, m.fn, kp⟩, F, m1, m4, m6⟩
theorem kinds_in {C kt : Addr} {dd : Option Addr} {n : Nat} {sl : Array (Option Value)} {t1 t2 t3 t4 t5 t6 t7 : Tok} (kd : PySem.W.findCls K (.ref C) (.type "type") "KINDS" = some (.val (.ref kt)))
    (l : K.lookup kt = some ⟨.type "tuple", dd, .seq #[.str "feed" t1, .str "dice" t2, .str "table" t3, .str "source" t4, .str "field" t5, .str "flag" t6, .str "slot" t7] n, sl⟩) : KindsK K C :=
  ⟨kt, ⟨kd, rfl⟩, sqt_of l (by show 7 ≤ sizeLine; decide) (.cons ⟨_, rfl⟩ (.cons ⟨_, rfl⟩ (.cons ⟨_, rfl⟩ (.cons ⟨_, rfl⟩ (.cons ⟨_, rfl⟩ (.cons ⟨_, rfl⟩ (.cons ⟨_, rfl⟩ .nil)))))))⟩
end
/-- all that the top says -/
structure WTop (K : PySem.W.Frag) (w : World) (mg : Str → Option Value) where
  B : Bts mg
  mE : mg "enumerate" = none
  mA : mg "all" = none
  mZ : mg "zip" = none
  tL : Tok
  mL : mg "LONGEST_NAME" = some (.int 8 tL)
  tK : Tok
  mK : mg "MOST_KEYS" = some (.int 4 tK)
  tR : Tok
  mR : mg "LONGEST_ROW" = some (.int longest tR)
  tT : Tok
  mT : mg "MOST_THINGS" = some (.int 8 tT)
  (C CS CW dP dA dF : Addr)
  (eP eA eF : Array DictEntry)
  (nP nA nF : Nat)
  T : ThAll K mg C
  KK : KindsK K C
  S : StIn K mg CS
  fS : Addr
  xS : FuncData
  MS : Mk K CS fS
  FS : Fun K "__init__" "State.__init__" (st 0) fS xS
  W : WoIn K mg CW
  fW : Addr
  xW : FuncData
  MW : Mk K CW fW
  FW : Fun K "__init__" "World.__init__" (wo 0) fW xW
  mDo : MtAll K CW "do" "World.do" (wo 1)
  mIt : MtAll K CW "__getitem__" "World.__getitem__" (wo 4)
  mCo : MtAll K CW "__contains__" "World.__contains__" (wo 6)
  mP : mg "PARTS" = some (.ref dP)
  DP : KDict K w dP eP nP
  mAc : mg "ACTIONS" = some (.ref dA)
  DA : KDict K w dA eA nA
  mF : mg "AT_FIRST" = some (.ref dF)
  FK : FirstK K w dF
theorem wdefs_of {P : Program} {w : World} {K : PySem.W.Frag} {mg : Str → Option Value} (base : Heap) (R : WTop K w mg) {f1 f2 f3 f4 f5 f6 f7 f8 f9 f10 f11 f12 f13 f14 : Addr} {x1 x2 x3 x4 x5 x6 x7 x8 x9 x10 x11 x12 x13 x14 : FuncData}
    (F1 : FunIn K mg "_law_pool" sPool f1 x1) (F2 : FunIn K mg "_law_draw" sDraw f2 x2) (F3 : FunIn K mg "_law_names" sLNames f3 x3) (F4 : FunIn K mg "_law_same" sSame f4 x4) (F5 : FunIn K mg "is_int" sIsInt f5 x5) (F6 : FunIn K mg "is_name" sIsName f6 x6) (F7 : FunIn K mg "check_names" sNames f7 x7) (F8 : FunIn K mg "check_unlike" sUnlike f8 x8)
    (F9 : FunIn K mg "is_deed" sIsDeed f9 x9) (F10 : FunIn K mg "_is_part" sIsPart f10 x10) (F11 : FunIn K mg "is_length" sIsLength f11 x11) (F12 : FunIn K mg "check_deed" sCheckDeed f12 x12) (F13 : FunIn K mg "done" sDone f13 x13) (F14 : FunIn K mg "_check_fields" sFields f14 x14) : ∃ G : WDefs P w K mg base, G.C = R.C ∧ G.CS = R.CS ∧ G.CW = R.CW ∧ G.dP = R.dP ∧ G.dA = R.dA := by
  have bP := F1.F.binds (ps := ["script"]) fun _ _ _ _ _ _ us hl => match us, hl with | [_], _ => rfl
  have bD := F2.F.binds (ps := ["pool", "many"]) fun _ _ _ _ _ _ us hl => match us, hl with | [_, _], _ => rfl
  have bL := F3.F.binds (ps := ["pool", "many"]) fun _ _ _ _ _ _ us hl => match us, hl with | [_, _], _ => rfl
  have bS := F4.F.binds (ps := ["actual", "due"]) fun _ _ _ _ _ _ us hl => match us, hl with | [_, _], _ => rfl
  have bI := F5.F.binds (ps := ["thing"]) fun _ _ _ _ _ _ us hl => match us, hl with | [_], _ => rfl
  have bN := F6.F.binds (ps := ["thing"]) fun _ _ _ _ _ _ us hl => match us, hl with | [_], _ => rfl
  have bCN := F7.F.binds (ps := ["things"]) fun _ _ _ _ _ _ us hl => match us, hl with | [_], _ => rfl
  have bU := F8.F.binds (ps := ["names"]) fun _ _ _ _ _ _ us hl => match us, hl with | [_], _ => rfl
  have bDe := F9.F.binds (ps := ["deed"]) fun _ _ _ _ _ _ us hl => match us, hl with | [_], _ => rfl
  have bIP := F10.F.binds (ps := ["part", "given"]) fun _ _ _ _ _ _ us hl => match us, hl with | [_, _], _ => rfl
  have bIL := F11.F.binds (ps := ["given"]) fun _ _ _ _ _ _ us hl => match us, hl with | [_], _ => rfl
  have bCD := F12.F.binds (ps := ["by_name", "deed"]) fun _ _ _ _ _ _ us hl => match us, hl with | [_, _], _ => rfl
  have bDn := F13.F.binds (ps := ["state", "deed"]) fun _ _ _ _ _ _ us hl => match us, hl with | [_, _], _ => rfl
  have bF := F14.F.binds (ps := ["things"]) fun _ _ _ _ _ _ us hl => match us, hl with | [_], _ => rfl
  have bSI := R.FS.binds (ps := ["self", "things"]) fun _ _ _ _ _ _ us hl => match us, hl with | [_, _], _ => rfl
  obtain ⟨fDo, xDo, mDo, _, FDo⟩ := R.mDo
  obtain ⟨fIt, xIt, mIt, iIt, FIt⟩ := R.mIt
  obtain ⟨fCo, xCo, mCo, _, FCo⟩ := R.mCo
  have bDo := FDo.binds (ps := ["self", "deed"]) fun _ _ _ _ _ _ us hl => match us, hl with | [_, _], _ => rfl
  have bIt := FIt.binds (ps := ["self", "name"]) fun _ _ _ _ _ _ us hl => match us, hl with | [_, _], _ => rfl
  have bCo := FCo.binds (ps := ["self", "name"]) fun _ _ _ _ _ _ us hl => match us, hl with | [_, _], _ => rfl
  have gD := ok_draw (P := P) (w := w) (base := base) (k := 0) F2.F R.B.int
  have gII := ok_isint (P := P) (w := w) (base := base) (k := 0) F5.F R.B
  have gIN := ok_isname (P := P) (w := w) (base := base) (k := 0) F6.F R.B R.mL
  have gIL := ok_islength F11.F gII F5.m F5.F.kp bI R.mR
  have gIP := ok_ispart F10.F R.B R.mA gIL F11.m F11.F.kp bIL gIN F6.m F6.F.kp bN
  have gDe := (ok_isdeed F9.F R.B R.mA R.mZ R.DP R.mP gIP F10.m F10.F.kp bIP).mono (show 4 ≤ 9 by decide)
  have gCN := ok_names0 F7.F gIN F6.m F6.F.kp bN
  have gU0 := ok_unlike0 (P := P) (w := w) (base := base) (k := 1) F8.F R.mE
  have gUL := ok_unlikeL (P := P) (w := w) (base := base) (k := 2) F8.F R.mE
  have gFi := ok_fields (P := P) (w := w) (base := base) (k := 2) F14.F R.mE R.T.T
  have gCD := (ok_check (P := P) (w := w) (base := base) F12.F R.mZ R.mP R.T.T R.KK).mono (show 1 ≤ 9 by decide)
  have gDn := ok_done (P := P) (w := w) (base := base) F13.F R.mAc
  have gSI := ok_sinit (P := P) (w := w) (base := base) (k := 1) R.FS R.T.T R.S R.mF R.FK
  have gW := ok_winit R.FW R.T.T R.S R.W R.MS gSI bSI gUL F8.m F8.F.kp bU gFi F14.m F14.F.kp bF R.B.len R.mT
  have gDo := ok_do FDo R.S R.W gDe F9.m F9.F.kp bDe gCD F12.m F12.F.kp bCD gDn F13.m F13.F.kp bDn
  have gCo := fnR0 (ok_cont (P := P) (w := w) (base := base) (k := 3) FCo (C := R.C) R.S R.W R.B) bCo
  have gIt := fnR0 (ok_item FIt R.S R.W mCo.at_ mCo.fn gCo) bIt
  have D := t_defs R.T gCN F7.m F7.F.kp bCN gU0 F8.m F8.F.kp bU R.B.len R.mK
  exact ⟨{ C := R.C, CS := R.CS, CW := R.CW, dP := R.dP, dA := R.dA, T := R.T.T, S := R.S, W := R.W, B := R.B, fP := f1, fD := f2, fL := f3, fS := f4, xP := x1, xD := x2, xL := x3, xS := x4, gP := ok_pool F1.F R.B.list, gD := gD, gL := ok_lnames F3.F gD F2.m F2.F.kp bD R.B.range, gS := ok_same F4.F R.B F4.m bS 3, bP := bP, bD := bD, bL := bL, bS := bS, mP := F1.m, mD := F2.m, mL := F3.m, mS := F4.m, kP := F1.F.kp, kD := F2.F.kp, kL := F3.F.kp, kS := F4.F.kp, td := D, fW := R.fW, MW := R.MW, gW := gW, fDo := fDo, xDo := xDo, mDo := mDo, gDo := gDo, bDo := bDo, fIt := fIt, aIt := mIt.at_, nIt := iIt, hIt := mIt.fn, gIt := gIt }, rfl, rfl, rfl, rfl, rfl⟩
def KdTop (K : PySem.W.Frag) (w : World) (mg : Str → Option Value) (x : Str) (R : PySem.W.Frag → World → Addr → Prop) : Prop := ∃ d es n, mg x = some (.ref d) ∧ KDict K w d es n ∧ R K w d
theorem kd_with {K : PySem.W.Frag} {h : Heap} {mg : Str → Option Value} {w : World} {x : Str} {d : Addr} {es : Array DictEntry} {n : Nat} {R : PySem.W.Frag → World → Addr → Prop} (X : K.In h) (G : h.Ns mainGlobals mg) (a : PySem.W.nsIn K mainGlobals x = some (some (.ref d))) (l : K.lookup d = some ⟨.type "dict", none, .dict es n, #[]⟩) (k : PySem.W.KeysLit w.params es.toList) (z : (d == sysModules) = false)
    (more : KDict K w d es n → R K w d) : KdTop K w mg x R := ⟨d, es, n, PySem.W.mg_of X G a, ⟨l, k, z⟩, more ⟨l, k, z⟩⟩
theorem kinds_top {K : PySem.W.Frag} {h : Heap} {mg : Str → Option Value} {C : Addr} (X : K.In h) (G : h.Ns mainGlobals mg) (a : PySem.W.nsIn K mainGlobals "Thing" = some (some (.ref C))) (k : KindsK K C) : ∃ C, mg "Thing" = some (.ref C) ∧ KindsK K C := ⟨C, PySem.W.mg_of X G a, k⟩
theorem actK_of {P : Program} {w : World} {K : PySem.W.Frag} {mg : Str → Option Value} {base : Heap} {C CS dP dA f : Addr} {fd : FuncData} {word : Str} {kinds ps : List Str} {R : Ws → List PyData → Ws → PyData → Prop} {k : Nat} (p : PartsK K w dP word kinds) (e : KDct K w dA word (.ref f)) (F : FnOk P w K mg base CX0 k f fd ps (spAct K C CS R)) (hk : k ≤ 8) (b : Binds K fd ps []) (kp : PySem.W.keepIn K (.ref f) = true) : ActK P w K mg base C CS dP dA word kinds R :=
  ⟨p, f, e, (fnR0 F b).mono hk, kp⟩
end Qp
open PySem PySem.W PyProof.Rows
set_option maxRecDepth 100000 in
set_option maxHeartbeats 0 in
theorem PySem.Challenge.cw_quietprobes_k10_fields_keep_what_they_sa_holds : PySem.Challenge.rw_quietprobes_k10_fields_keep_what_they_sa.Holds := by
  w_on; o_law; k_head; (case hw => w_witness2)
  k_fill
  refine L2.walk_of (l := PySem.Challenge.rw_quietprobes_k10_fields_keep_what_they_sa) (n := 63) (k := 12) (x := "script") (CX := fun _ => L2.CX0) (sp := fun w => Qp.spLaw _) rfl (by decide) rfl ⟨rfl, by decide, by decide⟩ (fun w h Y => PySem.W.kIn_of Y) ?F (fun _ _ a ns hl _ hS => ⟨a, ns, rfl, hS, hl, fun _ => rfl⟩) (fun _ _ _ _ _ h => h)
  case F =>
    intro w mg fa h KX G hmg
    obtain ⟨f1, fd1, F1⟩ : ∃ f fd, Qp.FunIn _ mg "_law_pool" Qp.sPool f fd := by
      refine' Qp.fun_in KX G ?a ?l ?c ?k
      (case a => k_is); (case l => k_is); (case c => k_is); (case k => k_is)
    obtain ⟨f2, fd2, F2⟩ : ∃ f fd, Qp.FunIn _ mg "_law_draw" Qp.sDraw f fd := by
      refine' Qp.fun_in KX G ?a ?l ?c ?k
      (case a => k_is); (case l => k_is); (case c => k_is); (case k => k_is)
    obtain ⟨f3, fd3, F3⟩ : ∃ f fd, Qp.FunIn _ mg "_law_names" Qp.sLNames f fd := by
      refine' Qp.fun_in KX G ?a ?l ?c ?k
      (case a => k_is); (case l => k_is); (case c => k_is); (case k => k_is)
    obtain ⟨f4, fd4, F4⟩ : ∃ f fd, Qp.FunIn _ mg "_law_same" Qp.sSame f fd := by
      refine' Qp.fun_in KX G ?a ?l ?c ?k
      (case a => k_is); (case l => k_is); (case c => k_is); (case k => k_is)
    obtain ⟨f5, fd5, F5⟩ : ∃ f fd, Qp.FunIn _ mg "is_int" Qp.sIsInt f fd := by
      refine' Qp.fun_in KX G ?a ?l ?c ?k
      (case a => k_is); (case l => k_is); (case c => k_is); (case k => k_is)
    obtain ⟨f6, fd6, F6⟩ : ∃ f fd, Qp.FunIn _ mg "is_name" Qp.sIsName f fd := by
      refine' Qp.fun_in KX G ?a ?l ?c ?k
      (case a => k_is); (case l => k_is); (case c => k_is); (case k => k_is)
    obtain ⟨f7, fd7, F7⟩ : ∃ f fd, Qp.FunIn _ mg "check_names" Qp.sNames f fd := by
      refine' Qp.fun_in KX G ?a ?l ?c ?k
      (case a => k_is); (case l => k_is); (case c => k_is); (case k => k_is)
    obtain ⟨f8, fd8, F8⟩ : ∃ f fd, Qp.FunIn _ mg "check_unlike" Qp.sUnlike f fd := by
      refine' Qp.fun_in KX G ?a ?l ?c ?k
      (case a => k_is); (case l => k_is); (case c => k_is); (case k => k_is)
    obtain ⟨f9, fd9, F9⟩ : ∃ f fd, Qp.FunIn _ mg "is_deed" Qp.sIsDeed f fd := by
      refine' Qp.fun_in KX G ?a ?l ?c ?k
      (case a => k_is); (case l => k_is); (case c => k_is); (case k => k_is)
    obtain ⟨f10, fd10, F10⟩ : ∃ f fd, Qp.FunIn _ mg "_is_part" Qp.sIsPart f fd := by
      refine' Qp.fun_in KX G ?a ?l ?c ?k
      (case a => k_is); (case l => k_is); (case c => k_is); (case k => k_is)
    obtain ⟨f11, fd11, F11⟩ : ∃ f fd, Qp.FunIn _ mg "is_length" Qp.sIsLength f fd := by
      refine' Qp.fun_in KX G ?a ?l ?c ?k
      (case a => k_is); (case l => k_is); (case c => k_is); (case k => k_is)
    obtain ⟨f12, fd12, F12⟩ : ∃ f fd, Qp.FunIn _ mg "check_deed" Qp.sCheckDeed f fd := by
      refine' Qp.fun_in KX G ?a ?l ?c ?k
      (case a => k_is); (case l => k_is); (case c => k_is); (case k => k_is)
    obtain ⟨f13, fd13, F13⟩ : ∃ f fd, Qp.FunIn _ mg "done" Qp.sDone f fd := by
      refine' Qp.fun_in KX G ?a ?l ?c ?k
      (case a => k_is); (case l => k_is); (case c => k_is); (case k => k_is)
    obtain ⟨f14, fd14, F14⟩ : ∃ f fd, Qp.FunIn _ mg "_check_fields" Qp.sFields f fd := by
      refine' Qp.fun_in KX G ?a ?l ?c ?k
      (case a => k_is); (case l => k_is); (case c => k_is); (case k => k_is)
    obtain ⟨f15, fd15, F15⟩ : ∃ f fd, Qp.FunIn _ mg "_look" Qp.sLook f fd := by
      refine' Qp.fun_in KX G ?a ?l ?c ?k
      (case a => k_is); (case l => k_is); (case c => k_is); (case k => k_is)
    obtain ⟨f16, fd16, F16⟩ : ∃ f fd, Qp.FunIn _ mg "law" Qp.sLaw f fd := by
      refine' Qp.fun_in KX G ?a ?l ?c ?k
      (case a => k_is); (case l => k_is); (case c => k_is); (case k => k_is)
    have B : Qp.Bts mg := by
      refine' Qp.bts_in KX G ?z1 ?z2 ?z3 ?z4 ?z5 ?z6 ?z7 ?z8
      (case z1 => k_is); (case z2 => k_is); (case z3 => k_is); (case z4 => k_is); (case z5 => k_is); (case z6 => k_is); (case z7 => k_is); (case z8 => k_is)
    obtain ⟨tk1, mL⟩ : ∃ tk, mg "LONGEST_NAME" = some (.int 8 tk) := by
      refine' Qp.mg_int KX G ?zL
      (case zL => k_is)
    obtain ⟨tk2, mK⟩ : ∃ tk, mg "MOST_KEYS" = some (.int 4 tk) := by
      refine' Qp.mg_int KX G ?zM
      (case zM => k_is)
    obtain ⟨tk3, mR⟩ : ∃ tk, mg "LONGEST_ROW" = some (.int 1000000000000000000000000000000 tk) := by
      refine' Qp.mg_int KX G ?zR
      (case zR => k_is)
    obtain ⟨tk4, mT⟩ : ∃ tk, mg "MOST_THINGS" = some (.int 8 tk) := by
      refine' Qp.mg_int KX G ?zT
      (case zT => k_is)
    have mE : mg "enumerate" = none := by
      refine' PySem.W.mg_none_of KX G ?zE
      (case zE => k_is)
    have mA : mg "all" = none := by
      refine' PySem.W.mg_none_of KX G ?zA
      (case zA => k_is)
    have mZ : mg "zip" = none := by
      refine' PySem.W.mg_none_of KX G ?zZ
      (case zZ => k_is)
    obtain ⟨C, T⟩ : ∃ C, Qp.ThAll _ mg C := by
      refine' Qp.th_in KX G ?th_a ?th_pg ?th_hd ?th_po ?th_sa ?th_nk ?th_nn ?th_np ?th_rd ?th_ga ?th_ca ?th_cn ?th_ct ?th_cm ?th_mk ?th_kp ?th_ini ?th_m1 ?th_m2 ?th_m3 ?th_m4 ?th_m5 ?th_m6 ?th_m7 ?th_eq ?th_str
      (case th_a => k_is)
      (case th_pg => k_is)
      (case th_hd => k_is)
      (case th_po => k_is)
      (case th_sa => k_is)
      (case th_nk => k_is)
      (case th_nn => k_is)
      (case th_np => k_is)
      (case th_rd => k_is)
      (case th_ga => k_is)
      (case th_ca => k_is)
      (case th_cn => k_is)
      (case th_ct => k_is)
      (case th_cm => k_is)
      (case th_mk => k_is)
      (case th_kp => k_is)
      (case th_ini => (refine' Qp.me_in ?a_tini ?f_tini ?k_tini ?l_tini ?c_tini; (case a_tini => k_is); (case f_tini => k_is); (case k_tini => k_is); (case l_tini => k_is); (case c_tini => k_is)))
      (case th_m1 => (refine' Qp.sm_in ?a_tm1 ?r_tm1 ?k_tm1 ?l_tm1 ?c_tm1; (case a_tm1 => k_is); (case r_tm1 => k_is); (case k_tm1 => k_is); (case l_tm1 => k_is); (case c_tm1 => k_is)))
      (case th_m2 => (refine' Qp.sm_in ?a_tm2 ?r_tm2 ?k_tm2 ?l_tm2 ?c_tm2; (case a_tm2 => k_is); (case r_tm2 => k_is); (case k_tm2 => k_is); (case l_tm2 => k_is); (case c_tm2 => k_is)))
      (case th_m3 => (refine' Qp.sm_in ?a_tm3 ?r_tm3 ?k_tm3 ?l_tm3 ?c_tm3; (case a_tm3 => k_is); (case r_tm3 => k_is); (case k_tm3 => k_is); (case l_tm3 => k_is); (case c_tm3 => k_is)))
      (case th_m4 => (refine' Qp.sm_in ?a_tm4 ?r_tm4 ?k_tm4 ?l_tm4 ?c_tm4; (case a_tm4 => k_is); (case r_tm4 => k_is); (case k_tm4 => k_is); (case l_tm4 => k_is); (case c_tm4 => k_is)))
      (case th_m5 => (refine' Qp.sm_in ?a_tm5 ?r_tm5 ?k_tm5 ?l_tm5 ?c_tm5; (case a_tm5 => k_is); (case r_tm5 => k_is); (case k_tm5 => k_is); (case l_tm5 => k_is); (case c_tm5 => k_is)))
      (case th_m6 => (refine' Qp.sm_in ?a_tm6 ?r_tm6 ?k_tm6 ?l_tm6 ?c_tm6; (case a_tm6 => k_is); (case r_tm6 => k_is); (case k_tm6 => k_is); (case l_tm6 => k_is); (case c_tm6 => k_is)))
      (case th_m7 => (refine' Qp.sm_in ?a_tm7 ?r_tm7 ?k_tm7 ?l_tm7 ?c_tm7; (case a_tm7 => k_is); (case r_tm7 => k_is); (case k_tm7 => k_is); (case l_tm7 => k_is); (case c_tm7 => k_is)))
      (case th_eq => (refine' Qp.me_in ?a_teq ?f_teq ?k_teq ?l_teq ?c_teq; (case a_teq => k_is); (case f_teq => k_is); (case k_teq => k_is); (case l_teq => k_is); (case c_teq => k_is)))
      (case th_str => (refine' Qp.me_in ?a_tstr ?f_tstr ?k_tstr ?l_tstr ?c_tstr; (case a_tstr => k_is); (case f_tstr => k_is); (case k_tstr => k_is); (case l_tstr => k_is); (case c_tstr => k_is)))
    obtain ⟨C', mC', KK⟩ : ∃ C, mg "Thing" = some (.ref C) ∧ Qp.KindsK _ C := by
      refine' Qp.kinds_top KX G ?ka ?kb
      (case ka => k_is)
      (case kb => (refine' Qp.kinds_in ?kc ?kd; (case kc => k_is); (case kd => k_is)))
    have eC := T.T.m.symm.trans mC'
    cases eC
    obtain ⟨CS, fS, xS, S, MS, FS, mNS, mTU⟩ : ∃ C fI fd, Qp.StIn _ mg C ∧ L2.Mk _ C fI ∧ L2.Fun _ "__init__" "State.__init__" (Qp.st 0) fI fd ∧ Qp.MtAll _ C "new_serial" "State.new_serial" (Qp.st 3) ∧ Qp.MtAll _ C "take_until" "State.take_until" (Qp.st 4) := by
      refine' Qp.state_in KX G ?s1 ?s2 ?s3 ?s4 ?s5 ?s6 ?s7 ?s8 ?s9 ?s10 ?s11 ?s12 ?s13 ?s14 ?s15
      (case s1 => k_is); (case s2 => k_is); (case s3 => k_is); (case s4 => k_is); (case s5 => k_is); (case s6 => k_is); (case s7 => k_is); (case s8 => k_is); (case s9 => k_is); (case s10 => k_is); (case s11 => k_is); (case s12 => k_is)
      (case s13 => (refine' Qp.mt_in ?a_si ?f_si ?k_si ?l_si ?c_si; (case a_si => k_is); (case f_si => k_is); (case k_si => k_is); (case l_si => k_is); (case c_si => k_is)))
      (case s14 => (refine' Qp.mt_in ?a_sn ?f_sn ?k_sn ?l_sn ?c_sn; (case a_sn => k_is); (case f_sn => k_is); (case k_sn => k_is); (case l_sn => k_is); (case c_sn => k_is)))
      (case s15 => (refine' Qp.mt_in ?a_su ?f_su ?k_su ?l_su ?c_su; (case a_su => k_is); (case f_su => k_is); (case k_su => k_is); (case l_su => k_is); (case c_su => k_is)))
    obtain ⟨fNs, xNs, mNs, _, FNs⟩ := mNS
    obtain ⟨fTu, xTu, mTu, _, FTu⟩ := mTU
    have bNs := FNs.binds (ps := ["self"]) fun _ _ _ _ _ _ us hl => match us, hl with | [_], _ => rfl
    have bTu := FTu.binds (ps := ["self", "name", "taken"]) fun _ _ _ _ _ _ us hl => match us, hl with | [_, _, _], _ => rfl
    obtain ⟨CW, fW, xW, WI, MW, FW, mDo, mIt, mCo⟩ : ∃ C fI fd, Qp.WoIn _ mg C ∧ L2.Mk _ C fI ∧ L2.Fun _ "__init__" "World.__init__" (Qp.wo 0) fI fd ∧ Qp.MtAll _ C "do" "World.do" (Qp.wo 1) ∧ Qp.MtAll _ C "__getitem__" "World.__getitem__" (Qp.wo 4) ∧ Qp.MtAll _ C "__contains__" "World.__contains__" (Qp.wo 6) := by
      refine' Qp.world_in KX G ?s1 ?s2 ?s3 ?s4 ?s5 ?s6 ?s7 ?s8 ?s9 ?s10 ?s11 ?s12 ?s13 ?s14
      (case s1 => k_is); (case s2 => k_is); (case s3 => k_is); (case s4 => k_is); (case s5 => k_is); (case s6 => k_is); (case s7 => k_is); (case s8 => k_is); (case s9 => k_is); (case s10 => k_is)
      (case s11 => (refine' Qp.mt_in ?a_wi ?f_wi ?k_wi ?l_wi ?c_wi; (case a_wi => k_is); (case f_wi => k_is); (case k_wi => k_is); (case l_wi => k_is); (case c_wi => k_is)))
      (case s12 => (refine' Qp.mt_in ?a_wd ?f_wd ?k_wd ?l_wd ?c_wd; (case a_wd => k_is); (case f_wd => k_is); (case k_wd => k_is); (case l_wd => k_is); (case c_wd => k_is)))
      (case s13 => (refine' Qp.mt_in ?a_wg ?f_wg ?k_wg ?l_wg ?c_wg; (case a_wg => k_is); (case f_wg => k_is); (case k_wg => k_is); (case l_wg => k_is); (case c_wg => k_is)))
      (case s14 => (refine' Qp.mt_in ?a_wc ?f_wc ?k_wc ?l_wc ?c_wc; (case a_wc => k_is); (case f_wc => k_is); (case k_wc => k_is); (case l_wc => k_is); (case c_wc => k_is)))
    obtain ⟨dP, eP, nP, mP, DP, p_change, p_look, p_glance, p_renew, p_spy⟩ : Qp.KdTop _ w mg "PARTS" (fun K w d => Qp.PartsK K w d "change" ["source"] ∧ Qp.PartsK K w d "look" ["field"] ∧ Qp.PartsK K w d "glance" ["field"] ∧ Qp.PartsK K w d "renew" ["field"] ∧ Qp.PartsK K w d "spy" ["thing"]) := by
      refine' Qp.kd_with KX G ?a ?l ?kk ?z ?more
      (case a => k_is); (case l => k_is)
      (case kk => repeat (first | exact trivial | refine ⟨⟨_, _, rfl, rfl⟩, ?_⟩))
      (case z => decide)
      (case more =>
        intro D
        refine' ⟨?m_change, ?m_look, ?m_glance, ?m_renew, ?m_spy⟩
        (case m_change => (refine' Qp.parts1 D ?e ?l; (case e => k_is); (case l => k_is)))
        (case m_look => (refine' Qp.parts1 D ?e ?l; (case e => k_is); (case l => k_is)))
        (case m_glance => (refine' Qp.parts1 D ?e ?l; (case e => k_is); (case l => k_is)))
        (case m_renew => (refine' Qp.parts1 D ?e ?l; (case e => k_is); (case l => k_is)))
        (case m_spy => (refine' Qp.parts1 D ?e ?l; (case e => k_is); (case l => k_is))))
    obtain ⟨dA, eA, nA, mAc, DA, ⟨g_change, y_change, e_change, F_change⟩, ⟨g_look, y_look, e_look, F_look⟩, ⟨g_glance, y_glance, e_glance, F_glance⟩, ⟨g_renew, y_renew, e_renew, F_renew⟩, ⟨g_spy, y_spy, e_spy, F_spy⟩⟩ : Qp.KdTop _ w mg "ACTIONS" (fun K w d => (∃ f fd, Qp.KDctF K w d "change" f ∧ L2.Fun K "_change" "_change" Qp.sChange f fd) ∧ (∃ f fd, Qp.KDctF K w d "look" f ∧ L2.Fun K "_look" "_look" Qp.sLook f fd) ∧ (∃ f fd, Qp.KDctF K w d "glance" f ∧ L2.Fun K "_value" "_value" Qp.sValue f fd) ∧ (∃ f fd, Qp.KDctF K w d "renew" f ∧ L2.Fun K "_renew" "_renew" Qp.sRenew f fd) ∧ (∃ f fd, Qp.KDctF K w d "spy" f ∧ L2.Fun K "_spy" "_spy" Qp.sSpy f fd)) := by
      refine' Qp.kd_with KX G ?a ?l ?kk ?z ?more
      (case a => k_is); (case l => k_is)
      (case kk => repeat (first | exact trivial | refine ⟨⟨_, _, rfl, rfl⟩, ?_⟩))
      (case z => decide)
      (case more =>
        intro D
        refine' ⟨?m_change, ?m_look, ?m_glance, ?m_renew, ?m_spy⟩
        (case m_change => (refine' Qp.act_in D ?e ?l ?c ?k; (case e => k_is); (case l => k_is); (case c => k_is); (case k => k_is)))
        (case m_look => (refine' Qp.act_in D ?e ?l ?c ?k; (case e => k_is); (case l => k_is); (case c => k_is); (case k => k_is)))
        (case m_glance => (refine' Qp.act_in D ?e ?l ?c ?k; (case e => k_is); (case l => k_is); (case c => k_is); (case k => k_is)))
        (case m_renew => (refine' Qp.act_in D ?e ?l ?c ?k; (case e => k_is); (case l => k_is); (case c => k_is); (case k => k_is)))
        (case m_spy => (refine' Qp.act_in D ?e ?l ?c ?k; (case e => k_is); (case l => k_is); (case c => k_is); (case k => k_is))))
    obtain ⟨dF, eF, nF, mF, DF, FK⟩ : Qp.KdTop _ w mg "AT_FIRST" (fun K w d => Qp.FirstK K w d) := by
      refine' Qp.kd_with KX G ?a ?l ?kk ?z ?more
      (case a => k_is); (case l => k_is)
      (case kk => repeat (first | exact trivial | refine ⟨⟨_, _, rfl, rfl⟩, ?_⟩))
      (case z => decide)
      (case more =>
        intro D
        refine' Qp.first_in D ?e1 ?l1 ?e2 ?l2 ?e3 ?l3 ?e4 ?e5 ?e6 ?e7
        (case e1 => k_is); (case l1 => k_is); (case e2 => k_is); (case l2 => k_is); (case e3 => k_is); (case l3 => k_is); (case e4 => k_is); (case e5 => k_is); (case e6 => k_is); (case e7 => k_is))
    have e := hmg.symm.trans F16.m
    cases e
    obtain ⟨oc, od, kV, doc, pm, an, cdv, ct, osl, rfl, lk, hcd⟩ := F16.F.ex
    have b_change := F_change.binds (ps := ["state", "source"]) fun _ _ _ _ _ _ us hl => match us, hl with | [_, _], _ => rfl
    have b_look := F_look.binds (ps := ["state", "field"]) fun _ _ _ _ _ _ us hl => match us, hl with | [_, _], _ => rfl
    have b_glance := F_glance.binds (ps := ["state", "name"]) fun _ _ _ _ _ _ us hl => match us, hl with | [_, _], _ => rfl
    have b_renew := F_renew.binds (ps := ["state", "field"]) fun _ _ _ _ _ _ us hl => match us, hl with | [_, _], _ => rfl
    have b_spy := F_spy.binds (ps := ["state", "name"]) fun _ _ _ _ _ _ us hl => match us, hl with | [_, _], _ => rfl
    refine ⟨_, fun s v => .of_eq rfl, fun base _ _ => Qp.ok_law_ne F16.F ?_⟩
    obtain ⟨D, rfl, rfl, rfl, rfl, rfl⟩ := Qp.wdefs_of (P := PySem.Challenge.rw_quietprobes_k10_fields_keep_what_they_sa.prog) base ({ B := B, mE := mE, mA := mA, mZ := mZ, tL := tk1, mL := mL, tK := tk2, mK := mK, tR := tk3, mR := mR, tT := tk4, mT := mT, C := C, CS := CS, CW := CW, dP := dP, dA := dA, dF := dF, eP := eP, eA := eA, eF := eF, nP := nP, nA := nA, nF := nF, T := T, KK := KK, S := S, fS := fS, xS := xS, MS := MS, FS := FS, W := WI, fW := fW, xW := xW, MW := MW, FW := FW, mDo := mDo, mIt := mIt, mCo := mCo, mP := mP, DP := DP, mAc := mAc, DA := DA, mF := mF, FK := FK } : Qp.WTop _ w mg) F1 F2 F3 F4 F5 F6 F7 F8 F9 F10 F11 F12 F13 F14
    have bLk := F15.F.binds (ps := ["state", "field"]) fun _ _ _ _ _ _ us hl => match us, hl with | [_, _], _ => rfl
    exact ⟨{ D with aChange := Qp.actK_of p_change e_change (Qp.ok_change F_change S mNs (Qp.ok_serial FNs S) bNs) (by decide) b_change F_change.kp, aLook := Qp.actK_of p_look e_look (Qp.ok_look2 F_look F15.F T.T S F15.m F15.F.kp bLk 5) (by decide) b_look F_look.kp, aGlance := Qp.actK_of p_glance e_glance (Qp.ok_value F_glance S) (by decide) b_glance F_glance.kp, aRenew := Qp.actK_of p_renew e_renew (Qp.ok_renew F_renew S) (by decide) b_renew F_renew.kp, aSpy := Qp.actK_of p_spy e_spy (Qp.ok_spy F_spy) (by decide) b_spy F_spy.kp }⟩
