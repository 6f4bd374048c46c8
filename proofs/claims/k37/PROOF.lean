import PyProof.Rows.All
import Wide.All
import OpenK.AllK
import Wide.FinOn
import KE.KExcSuper
import KE.KExcIs
import KE.RegKSuper
import KE.GoesMore
import HandS.ForMost
import HandS.EndBits
import HandS.Wide
import HandS.Star
import HandS.IsInst
import HandS.Codes
import HandS.More
import HandS.StrMore
import HandS.ClsMeth
import HandS.SlotsOwn
import HandS.Steps
import HandS.Walk
import HandS.FStrTup
import HandS.FStr
import HandS.ExcInit
import HandS.ExcField
import HandS.ExcIs
import HandS.ExcOwn
import HandS.ExcValue
import HandS.WordsExc
import HandS.DictComp
import HandS.CallLocal
import HandS.Zip
import HandS.Property
import HandS.MethStar
import HandS.Defaults
import HandS.MakeKw
import HandS.MakeKwOnly
import HandS.TupAny
import HandS.TryOnly
import PySem.Challenge.RW_quietprobes_k37_contents_refused
set_option Elab.async false
set_option maxRecDepth 100000
set_option maxHeartbeats 4000000
set_option linter.all false
namespace Qp
open PySem L2
def top (i : Nat) : Stmt := PySem.Challenge.pw_quietprobes_k37_contents_refused.main.body.getD i (.Pass ⟨0, 0, 0, 0⟩)
abbrev sIsInt : Stmt := top 7
abbrev sIsName : Stmt := top 8
abbrev sIsLength : Stmt := top 11
abbrev sCont : Stmt := top 16
abbrev sIsList : Stmt := top 17
abbrev sAns : Stmt := top 18
abbrev sLens : Stmt := top 19
abbrev sLoads : Stmt := top 20
abbrev sLoad : Stmt := top 21
abbrev sWordsOf : Stmt := top 22
abbrev sReadLen : Stmt := top 23
abbrev sReadLoad : Stmt := top 24
abbrev sDraw : Stmt := top 26
abbrev sLNames : Stmt := top 27
abbrev sOdd : Stmt := top 28
abbrev sPool : Stmt := top 29
abbrev sTriple : Stmt := top 30
abbrev sSame : Stmt := top 31
abbrev sHas : Stmt := top 32
abbrev sTried : Stmt := top 33
abbrev sWrongM : Stmt := top 34
abbrev sSpoilt : Stmt := top 35
abbrev sLaw : Stmt := top 36
abbrev co (i : Nat) : Stmt := (C8.clsBody sCont).getD i (.Pass ⟨0, 0, 0, 0⟩)
/-! ### the pool of drawn numbers -/
/-- all objects but the two of the pool stay -/
def Keeps (p q : Addr) (H H' : Hp) : Prop := ∀ x o, x ≠ p → x ≠ q → H x = some o → H' x = some o
theorem Keeps.refl (p q : Addr) (H : Hp) : Keeps p q H H := fun _ _ _ _ e => e
theorem Keeps.trans {p q : Addr} {H H1 H2 : Hp} (a : Keeps p q H H1) (b : Keeps p q H1 H2) : Keeps p q H H2 := fun x o h1 h2 e => b x o h1 h2 (a x o h1 h2 e)
theorem Keeps.of_same {p q : Addr} {H H1 : Hp} (a : Same H H1) : Keeps p q H H1 := fun x o _ _ e => a x o e
theorem Keeps.upd_p {p q : Addr} {H : Hp} {o : HO} : Keeps p q H (upd H p o) := fun x u h1 _ e => by
  rw [upd_ne h1]; exact e
theorem Keeps.upd_q {p q : Addr} {H : Hp} {o : HO} : Keeps p q H (upd H q o) := fun x u _ h2 e => by
  rw [upd_ne h2]; exact e
theorem Keeps.upd_new {p q a : Addr} {H : Hp} {o : HO} (n : H a = none) : Keeps p q H (upd H a o) := fun x u _ _ e => by
  rw [upd_ne (ne_of_none e n)]; exact e
theorem Keeps.free {p q a : Addr} {H H1 : Hp} (k : Keeps p q H H1) (n : H1 a = none) (hp : a ≠ p) (hq : a ≠ q) : H a = none := by
  cases e : H a with
  | none => rfl
  | some o => rw [k a o hp hq e] at n; cases n
/-- the pool's two lists: how many numbers were drawn is n -/
structure PoolAt (H : Hp) (p q : Addr) (n : Nat) : Prop where
  ne : p ≠ q
  ex : ∃ (cs : List Int) (b c : Int), H p = some (.lst [.ref q, .int b, .int (n : Int), .int c]) ∧ H q = some (.lst (cs.map V.int)) ∧ cs.length ≤ 1000 ∧ 0 ≤ b ∧ 0 ≤ c ∧ c < 2147483629
theorem PoolAt.p_some {H : Hp} {p q : Addr} {n : Nat} (h : PoolAt H p q n) : ∃ o, H p = some o := let ⟨_, _, _, e, _⟩ := h.ex; ⟨_, e⟩
theorem PoolAt.q_some {H : Hp} {p q : Addr} {n : Nat} (h : PoolAt H p q n) : ∃ o, H q = some o := let ⟨_, _, _, _, e, _⟩ := h.ex; ⟨_, e⟩
theorem PoolAt.same {H H' : Hp} {p q : Addr} {n : Nat} (h : PoolAt H p q n) (s : Same H H') : PoolAt H' p q n := by
  obtain ⟨ne, cs, b, c, e1, e2, r⟩ := h
  exact ⟨ne, cs, b, c, s _ _ e1, s _ _ e2, r⟩
theorem PoolAt.new {H : Hp} {p q a : Addr} {n : Nat} {o : HO} (h : PoolAt H p q n) (na : H a = none) : PoolAt (upd H a o) p q n :=
  h.same fun x u e => by rw [upd_ne (ne_of_none e na)]; exact e
section
variable {X : Cx}
theorem get_list : PGet X (rIxL X.K) := by
  intro pins s σ H o i ov iv Q I ro ri h
  obtain ⟨p, xs, k, z, rfl, rfl, hq, he, q⟩ := h
  cases ro
  obtain ⟨t, rfl⟩ := ri
  obtain ⟨its, r, pl, hz⟩ := I.list hq
  obtain ⟨j, h1, h2, h3, h4, h5⟩ := atI_get he
  obtain ⟨w, ew, rw'⟩ := r.get h2
  have hl := r.length
  have hn := line63
  have fin : EP X pins σ Q w s := ⟨z, H, I, rw', q⟩
  by_cases h0 : 0 ≤ k
  · have hj : k.toNat = j := by
      rw [seqIndex_of h0 h5] at h1
      exact Option.some.inj h1
    exact wpAny_getItem_list pl.isList h0 (by omega) (by rw [hj]; simpa using ew) fin
  · have hj : (k + (its.toArray.size : Int)).toNat = j := by
      rw [seqIndex_neg (by omega) h4] at h1
      rw [List.size_toArray, ← hl]
      exact Option.some.inj h1
    exact wpAny_getItem_list_neg pl.isList (by omega) (by rw [List.size_toArray] <;> omega) (by omega) (by rw [hj]; simpa using ew) fin
end
theorem div_many {b m : Int} (h0 : 0 < m) (h1 : m ≤ 10 ^ 40) : CDivW b m := by
  refine wide_div (b := 200) h0 ?_ (by decide) (by decide)
  have h : m.natAbs ≤ 10 ^ 40 := by omega
  exact Nat.lt_of_le_of_lt h (by decide)
def spDraw : Sp := fun vs H Q _ => ∃ (p q : Addr) (n : Nat) (m : Int), vs = [.ref p, .int m] ∧ PoolAt H p q n ∧ n < 1000000 ∧ 0 < m ∧ m ≤ 10 ^ 40 ∧
  ∀ (d : Int) (H' : Hp), 0 ≤ d → d < m → PoolAt H' p q (n + 1) → Keeps p q H H' → Q (.int d) H'
section
variable {P : Program} {w : World} {K : PySem.W.Frag} {mg : Str → Option Value} {base : Heap}
theorem scD : FnScope ["pool", "many", "cell", "code", "digit", "far", "mixed"] ["pool", "many"] (defScope sDraw) := ⟨rfl, rfl, rfl, by decide +kernel, rfl, by decide +kernel, by decide +kernel⟩
theorem ok_draw {f : Addr} {fd : FuncData} {k : Nat} (F : Fun K "_law_draw" "_law_draw" sDraw f fd) (mi : mg "int" = none) : FnOk P w K mg base CX0 (k + 1) f fd ["pool", "many"] spDraw := by
  refine F.ok scD (fun vs H Q E h => ?_) (fun cdv A outer s H vs Q E hr h => ?_)
  · obtain ⟨p, q, n, m, rfl, _⟩ := h
    rfl
  · obtain ⟨p, q, n, m, rfl, ⟨npq, cs, b, c, hp, hq, hcs, hb, hc0, hc1⟩, hn, hm0, hm1, kk⟩ := h
    refine ⟨_,
      pss_cons (ps_augS (pv 0) pe_int get_list pe_int ip_add set_list)
      (C8.pss_cut (ps_if (PW.pt (pw_and (pt_cmpR op_eq (pe_ix ix_list (pv 0) pe_int (fun _ _ => rfl)) pe_int (nomark _)) (pw_and1 (pt_truth (pe_ix ix_list (pv 0) pe_int (fun _ _ => rfl)) (by intro _; rfl)))))
        (pss_cons (ps_set (i := 2) scD.nd rfl (.inl rfl) (pe_callTy call_int1 (by rfl) mi (by decide +kernel) (pa_cons (pe_bm PySem.F.plainAttrs_list PySem.F.slot_list_pop PySem.F.type_list_pop mt_popAt (pe_ix ix_list (pv 0) pe_int (fun _ _ => rfl)) (pa_cons pe_int pa_nil)) pa_nil)))
        (C8.pss_cut (ps_set (i := 3) scD.nd rfl (.inl rfl) (pe_ifExp (pt_cmpR op_ge (pv 2) pe_int (nomark _)) (pe_op op_mul pe_int (pv 2)) (pe_op op_sub (pe_un un_neg pe_int) (pe_op op_mul pe_int (pv 2)))))
        (pss_one (ps_if (pt_cmpR op_ge (pv 3) (pe_op op_pow pe_int pe_int) (nomark _))
          (pss_one (ps_asg (pv 3) (pg_sub (pv 0) pe_int set_list)))
          (pss_one (ps_asg (pe_op op_mod (pe_callTy call_int1 (by rfl) mi (by decide +kernel) (pa_cons (pe_op op_add (pe_op op_add (pe_op op_mul (pe_ix ix_list (pv 0) pe_int (fun _ _ => rfl)) pe_int) (pe_op op_mul (pv 3) pe_int)) pe_int) pa_nil)) pe_int) (pg_sub (pv 0) pe_int set_list)))))))
        pss_nil)
      (pss_cons (ps_if (pt_cmpR op_gt (pe_ix ix_list (pv 0) pe_int (fun _ _ => rfl)) pe_int (nomark _))
        (pss_cons (ps_set (i := 4) scD.nd rfl (.inl rfl) (pe_op op_mod (pe_callTy call_int1 (by rfl) mi (by decide +kernel) (pa_cons (pe_ix ix_list (pv 0) pe_int (fun _ _ => rfl)) pa_nil)) (pv 1)))
        (pss_cons (ps_asg (pe_op op_fdivW (pe_ix ix_list (pv 0) pe_int (fun _ _ => rfl)) (pv 1)) (pg_sub (pv 0) pe_int set_list))
        (pss_one (ps_ret (pv 4)))))
        pss_nil)
      (pss_cons (ps_set (i := 5) scD.nd rfl (.inl rfl) (pe_op op_add (pe_op op_mul (pe_ix ix_list (pv 0) pe_int (fun _ _ => rfl)) pe_int) (pe_op op_mul (pe_op op_mul (pe_ix ix_list (pv 0) pe_int (fun _ _ => rfl)) (pe_ix ix_list (pv 0) pe_int (fun _ _ => rfl))) pe_int)))
      (pss_cons (ps_set (i := 6) scD.nd rfl (.inl rfl) (pe_op op_mod (pe_callTy call_int1 (by rfl) mi (by decide +kernel) (pa_cons (pe_op op_add (pe_op op_mul (pe_ix ix_list (pv 0) pe_int (fun _ _ => rfl)) pe_int) (pv 5)) pa_nil)) pe_int))
      (pss_one (ps_ret (pe_ifExp (pt_truth (pe_ix ix_list (pv 0) pe_int (fun _ _ => rfl)) (by intro _; rfl)) (pe_op op_mod (pe_op op_mod (pe_callTy call_int1 (by rfl) mi (by decide +kernel) (pa_cons (pe_op op_fdiv (pe_op op_mul (pv 6) pe_int) pe_int) pa_nil)) pe_int) (pv 1)) pe_int))))))), ?_⟩
    -- pool[2] += 1
    have g : ∀ {H : Hp} {x y z t : V}, H p = some (.lst [x, y, z, t]) → SqL K H p [x, y, z, t] := fun e => SqL.of e
    refine ⟨_, rfl, p, _, 2, _, rfl, rfl, g hp, atI_nat (j := 2) rfl, n, 1, rfl, rfl, p, _, 2, 2, rfl, rfl, hp, rfl, ?_⟩
    have K1 : Keeps p q H (upd H p (.lst [.ref q, .int b, .int ((n : Int) + 1), .int c])) := Keeps.upd_p
    have hp1 : (upd H p (.lst [.ref q, .int b, .int ((n : Int) + 1), .int c])) p = some (.lst [.ref q, .int b, .int ((n : Int) + 1), .int c]) := upd_same
    have hq1 : (upd H p (.lst [.ref q, .int b, .int ((n : Int) + 1), .int c])) q = some (.lst (cs.map V.int)) := by rw [upd_ne npq.symm]; exact hq
    refine ⟨fun σ H1 => ∃ (cs b c : _) (y2 y3 : Option V), σ = [some (.ref p), some (.int m), y2, y3, none, none, none] ∧ Keeps p q H H1 ∧
      H1 p = some (.lst [.ref q, .int b, .int ((n : Int) + 1), .int c]) ∧ H1 q = some (.lst (List.map V.int cs)) ∧ cs.length ≤ 1000 ∧ 0 ≤ b ∧ 0 ≤ c ∧ c < 2147483629, ?_, ?_⟩
    · -- if pool[1] == 0 and pool[0]
      refine ⟨_, rfl, p, _, 1, _, rfl, rfl, g hp1, atI_nat (j := 1) rfl, rfl, _, rfl, ?_⟩
      refine ite2 (fun _ => ?_) (fun _ => ?_)
      · refine ⟨_, rfl, p, _, 0, _, rfl, rfl, g hp1, atI_nat (j := 0) rfl, _, .inl ⟨_, SqL.of hq1, rfl⟩, ?_⟩
        cases cs with
        | nil =>
          refine iteF ?_
          exact ⟨[], b, c, none, none, rfl, K1, hp1, hq1, Nat.zero_le _, hb, hc0, hc1⟩
        | cons z r =>
          refine iteT ?_
          -- cell = int(pool[0].pop(0))
          refine ⟨_, rfl, p, _, 0, _, rfl, rfl, g hp1, atI_nat (j := 0) rfl, .inl ⟨rfl, _, SqL.of hq1⟩, q, _, 0, 0, _, rfl, rfl, hq1, by decide, by decide, seqIndex_of (by decide) (by simp), rfl, ?_⟩
          have hq2 : (upd (upd H p (.lst [.ref q, .int b, .int ((n : Int) + 1), .int c])) q (.lst (r.map V.int))) q = some (.lst (r.map V.int)) := upd_same
          have hp2 : (upd (upd H p (.lst [.ref q, .int b, .int ((n : Int) + 1), .int c])) q (.lst (r.map V.int))) p = some (.lst [.ref q, .int b, .int ((n : Int) + 1), .int c]) := by
            rw [upd_ne npq, hp1]
          have K2 : Keeps p q H (upd (upd H p (.lst [.ref q, .int b, .int ((n : Int) + 1), .int c])) q (.lst (r.map V.int))) := K1.trans .upd_q
          refine .inl ⟨z, rfl, ?_⟩
          have hr1 : r.length ≤ 1000 := Nat.le_of_succ_le hcs
          -- code
          refine ⟨fun σ H1 => ∃ code : Int, σ = [some (.ref p), some (.int m), some (.int z), some (.int code), none, none, none] ∧ 0 ≤ code ∧ H1 = upd (upd H p (.lst [.ref q, .int b, .int ((n : Int) + 1), .int c])) q (.lst (r.map V.int)), ?_, ?_⟩
          · refine ⟨_, rfl, _, _, rfl, rfl, _, rfl, ?_⟩
            refine ite2 (fun hz => ?_) (fun hz => ?_)
            · have hz' : 0 ≤ z := of_decide_eq_true hz
              exact ⟨_, rfl, _, _, rfl, rfl, .inl (by decide), 2 * z, rfl, by omega, rfl⟩
            · have hz' : ¬ 0 ≤ z := fun e => hz (decide_eq_true e)
              exact ⟨_, rfl, _, rfl, _, _, rfl, rfl, .inl (by decide), _, _, rfl, rfl, -1 - 2 * z, rfl, by omega, rfl⟩
          · rintro σ H1 ⟨code, rfl, hcode, rfl⟩
            refine ⟨_, rfl, _, _, rfl, rfl, ⟨by decide, by decide, by decide⟩, _, _, rfl, rfl, _, rfl, ?_⟩
            refine ite2 (fun hz => ?_) (fun hz => ?_)
            · refine ⟨_, rfl, _, rfl, p, _, 1, 1, rfl, rfl, hp2, rfl, ?_⟩
              exact ⟨r, code, c, _, _, rfl, K2.trans .upd_p, upd_same, by rw [upd_ne npq.symm]; exact hq2, hr1, hcode, hc0, hc1⟩
            · have hz' : ¬ ((10 : Int) ^ (18 : Int).toNat ≤ code) := fun e => hz (decide_eq_true e)
              refine ⟨_, rfl, p, _, 3, _, rfl, rfl, g hp2, atI_nat (j := 3) rfl, _, _, rfl, rfl, .inl ⟨by omega, by omega⟩, _, rfl, _, _, rfl, rfl, .inr (by decide), _, _, rfl, rfl, _, _, rfl, rfl, .inl ⟨_, rfl, _, _, rfl, rfl, (by show (0 : Int) < 2147483629; decide), _, rfl, p, _, 3, 3, rfl, rfl, hp2, rfl, ?_⟩⟩
              refine ⟨r, b, _, _, _, rfl, K2.trans .upd_p, upd_same, by rw [upd_ne npq.symm]; exact hq2, hr1, hb, Int.emod_nonneg _ (by decide), Int.emod_lt_of_pos _ (by decide)⟩
      · exact ⟨cs, b, c, none, none, rfl, K1, hp1, hq1, hcs, hb, hc0, hc1⟩
    · rintro σ H1 ⟨cs, b, c, y2, y3, rfl, K1, hp1, hq1, hcs, hb, hc0, hc1⟩
      have en : ((n : Int) + 1) = ((n + 1 : Nat) : Int) := by omega
      rw [en] at hp1
      -- if pool[1] > 0
      refine ⟨_, rfl, p, _, 1, _, rfl, rfl, g hp1, atI_nat (j := 1) rfl, _, _, rfl, rfl, _, rfl, ?_⟩
      refine ite2 (fun h1 => ?_) (fun h1 => ?_)
      · have hdm : (0 : Int) < m := hm0
        refine ⟨_, rfl, p, _, 1, _, rfl, rfl, g hp1, atI_nat (j := 1) rfl, .inl ⟨_, rfl, _, rfl, _, _, rfl, rfl, hm0, ?_⟩⟩
        refine ⟨_, rfl, p, _, 1, _, rfl, rfl, g hp1, atI_nat (j := 1) rfl, _, rfl, _, _, rfl, rfl, div_many hm0 hm1, ?_⟩
        refine ⟨_, rfl, p, _, 1, 1, rfl, rfl, hp1, rfl, ?_⟩
        refine ⟨_, rfl, ?_⟩
        exact kk _ _ (Int.emod_nonneg _ (by omega)) (Int.emod_lt_of_pos _ hm0) ⟨npq, cs, b / m, c, upd_same, by rw [upd_ne npq.symm]; exact hq1, hcs, Int.ediv_nonneg hb (by omega), hc0, hc1⟩ (K1.trans .upd_p)
      · refine ⟨_, rfl, p, _, 2, _, rfl, rfl, g hp1, atI_nat (j := 2) rfl, _, _, rfl, rfl, .inr (by decide), _, rfl, p, _, 2, _, rfl, rfl, g hp1, atI_nat (j := 2) rfl, _, rfl, p, _, 2, _, rfl, rfl, g hp1, atI_nat (j := 2) rfl, _, _, rfl, rfl, .inl ⟨by omega, by omega⟩, _, _, rfl, rfl, .inr (by decide), _, _, rfl, rfl, ?_⟩
        refine ⟨_, rfl, p, _, 3, _, rfl, rfl, g hp1, atI_nat (j := 3) rfl, _, _, rfl, rfl, .inl ⟨by omega, by omega⟩, _, rfl, _, _, rfl, rfl, .inl ⟨_, rfl, _, _, rfl, rfl, (by show (0 : Int) < 2147483647; decide), ?_⟩⟩
        refine ⟨_, rfl, p, _, 3, _, rfl, rfl, g hp1, atI_nat (j := 3) rfl, _, rfl, ite2 (fun h3 => ?_) (fun h3 => ?_)⟩
        · refine ⟨_, rfl, _, _, rfl, rfl, .inr (by decide), _, _, rfl, rfl, ⟨by decide, by decide⟩, .inl ⟨_, rfl, _, _, rfl, rfl, (by show (0 : Int) < 2147483629; decide), _, rfl, _, _, rfl, rfl, hm0, ?_⟩⟩
          exact kk _ _ (Int.emod_nonneg _ (by omega)) (Int.emod_lt_of_pos _ hm0) ⟨npq, cs, b, c, hp1, hq1, hcs, hb, hc0, hc1⟩ K1
        · exact kk 0 _ (by decide) hm0 ⟨npq, cs, b, c, hp1, hq1, hcs, hb, hc0, hc1⟩ K1
end
/-! ### the pool made, a word drawn -/
theorem cut_take (xs : List V) (k : Nat) : cutV xs none (some (k : Int)) = xs.take k := by
  unfold cutV
  rw [HT.sIx_nat, HT.sIx_none]
  show (xs.drop 0).take (min k xs.length - 0) = xs.take k
  rw [List.drop_zero, Nat.sub_zero]
  by_cases h : k ≤ xs.length
  · rw [Nat.min_eq_left h]
  · rw [Nat.min_eq_right (by omega), List.take_of_length_le (Nat.le_refl _), List.take_of_length_le (by omega)]
def spPool (K : PySem.W.Frag) : Sp := fun vs H Q _ => ∃ (a : Addr) (ns : List Int), vs = [.ref a] ∧ SqL K H a (ns.map V.int) ∧ ns.length ≤ 63 ∧ ∀ (p q : Addr) (H' : Hp), H p = none → H q = none → PoolAt H' p q 0 → Same H H' → Q (.ref p) H'
/-- one to eight letters -/
def IsWord (z : Str) : Prop := 1 ≤ z.length ∧ z.length ≤ 8 ∧ ∀ c ∈ z.cps.toList, 97 ≤ c ∧ c ≤ 122
def spWord : Sp := fun vs H Q _ => ∃ (p q : Addr) (n : Nat), vs = [.ref p] ∧ PoolAt H p q n ∧ n < 900000 ∧
  ∀ (z : Str) (n' : Nat) (H' : Hp), IsWord z → n ≤ n' → n' ≤ n + 9 → PoolAt H' p q n' → Keeps p q H H' → Q (.str z) H'
theorem sum_ones : ∀ ys : List Str, (∀ y ∈ ys, y.length = 1) → (ys.map (·.length)).sum = ys.length
  | [], _ => rfl
  | x :: r, h => by
    rw [List.map_cons, List.sum_cons, h x List.mem_cons_self, sum_ones r fun y hy => h y (List.mem_cons_of_mem _ hy), List.length_cons]
    omega
theorem join_letters {sep : Str} (hs : sep.cps.toList = []) : ∀ ys : List Str, (∀ y ∈ ys, ∃ c, y = ⟨#[c]⟩ ∧ 97 ≤ c ∧ c ≤ 122) → (Str.join sep ys).length = ys.length ∧ ∀ c ∈ (Str.join sep ys).cps.toList, 97 ≤ c ∧ c ≤ 122
  | [], _ => ⟨rfl, fun c h => by cases h⟩
  | [x], h => by
    obtain ⟨c, rfl, h1, h2⟩ := h x List.mem_cons_self
    exact ⟨rfl, fun d hd => by
      have e : d = c := List.mem_singleton.mp hd
      rw [e]; exact ⟨h1, h2⟩⟩
  | x :: y :: r, h => by
    obtain ⟨c, rfl, h1, h2⟩ := h x List.mem_cons_self
    obtain ⟨i1, i2⟩ := join_letters hs (y :: r) fun z hz => h z (List.mem_cons_of_mem _ hz)
    have sl : sep.length = 0 := by
      show sep.cps.size = 0
      rw [← Array.length_toList, hs]; rfl
    have e : (Str.join sep ((⟨#[c]⟩ : Str) :: y :: r)) = (⟨#[c]⟩ : Str) ++ sep ++ Str.join sep (y :: r) := rfl
    rw [e]
    refine ⟨?_, fun d hd => ?_⟩
    · rw [strLen_append, strLen_append, i1, sl]
      show 1 + 0 + (y :: r).length = _
      simp only [List.length_cons]; omega
    · rcases PyProof.Rows.mem_cps_append.mp hd with hd | hd
      · rcases PyProof.Rows.mem_cps_append.mp hd with hd | hd
        · have e : d = c := List.mem_singleton.mp hd
          rw [e]; exact ⟨h1, h2⟩
        · rw [hs] at hd; cases hd
      · exact i2 d hd
def abc : Str := "abcdefghijklmnopqrstuvwxyz"
theorem abc_len : abc.length = 26 := by decide +kernel
theorem abc_at (d : Int) (h0 : 0 ≤ d) (h1 : d < 26) : ∃ c, atI abc.cps.toList d = some c ∧ 97 ≤ c ∧ c ≤ 122 := by
  obtain ⟨k, rfl⟩ : ∃ k : Nat, d = (k : Int) := ⟨d.toNat, by omega⟩
  have hk : k < 26 := by omega
  have all : ∀ k : Fin 26, ∃ c, abc.cps.toList[k.val]? = some c ∧ 97 ≤ c ∧ c ≤ 122 := by
    have h : ∀ k : Fin 26, (match abc.cps.toList[k.val]? with | some c => decide (97 ≤ c ∧ c ≤ 122) | none => false) = true := by decide +kernel
    intro k
    have := h k
    cases e : abc.cps.toList[k.val]? with
    | none => rw [e] at this; cases this
    | some c =>
      rw [e] at this
      exact ⟨c, rfl, of_decide_eq_true this⟩
  obtain ⟨c, e, r⟩ := all ⟨k, hk⟩
  exact ⟨c, atI_nat e, r⟩
section
variable {P : Program} {w : World} {K : PySem.W.Frag} {mg : Str → Option Value} {base : Heap}
theorem scP : FnScope ["script"] ["script"] (defScope sPool) := ⟨rfl, rfl, rfl, by decide +kernel, rfl, by decide +kernel, by decide +kernel⟩
theorem ok_pool {f : Addr} {fd : FuncData} {k : Nat} (F : Fun K "_law_pool" "_law_pool" sPool f fd) (ml : mg "list" = none) : FnOk P w K mg base CX0 (k + 1) f fd ["script"] (spPool K) := by
  refine F.ok scP (fun vs H Q E h => ?_) (fun cdv A outer s H vs Q E hr h => ?_)
  · obtain ⟨a, ns, rfl, _⟩ := h
    rfl
  · obtain ⟨a, ns, rfl, hS, hl, kk⟩ := h
    refine ⟨_, pss_one (ps_ret (pe_lst (pa_cons (pe_callTy call_list_of (by rfl) ml (by decide +kernel) (pa_cons (pe_slice sl_list (pv 0) po_none (po_some pe_int)) pa_nil)) (pa_cons pe_int (pa_cons pe_int (pa_cons pe_int pa_nil)))))), ?_⟩
    refine ⟨.ref a, rfl, 63, rfl, a, _, rfl, hS, fun c nc => ?_⟩
    have e : cutV (ns.map V.int) none (some 63) = (ns.take 63).map V.int := by
      rw [List.map_take]; exact cut_take _ 63
    rw [e]
    refine ⟨c, _, rfl, .inl (SqL.of upd_same), fun q nq => ?_⟩
    refine ⟨by show 4 ≤ sizeLine; decide, fun p np => ?_⟩
    have hc : (upd H c (.lst ((ns.take 63).map V.int))) c = some (.lst ((ns.take 63).map V.int)) := upd_same
    have s1 : Same H (upd H c (.lst ((ns.take 63).map V.int))) := fun b o z => by rw [upd_ne (ne_of_none z nc)]; exact z
    have s2 : Same (upd H c (.lst ((ns.take 63).map V.int))) (upd (upd H c (.lst ((ns.take 63).map V.int))) q (.lst ((ns.take 63).map V.int))) := fun b o z => by rw [upd_ne (ne_of_none z nq)]; exact z
    have hq : (upd (upd H c (.lst ((ns.take 63).map V.int))) q (.lst ((ns.take 63).map V.int))) q = some (.lst ((ns.take 63).map V.int)) := upd_same
    have s3 := fun o => (fun b u z => by rw [upd_ne (ne_of_none z np)]; exact z : Same (upd (upd H c (.lst ((ns.take 63).map V.int))) q (.lst ((ns.take 63).map V.int))) (upd _ p o))
    refine kk p q _ ((s1.trans s2).free np) (s1.free nq) ⟨(ne_of_none hq np).symm, ns.take 63, 0, 0, upd_same, s3 _ _ _ hq, by rw [List.length_take]; omega, by decide, by decide, by decide⟩ ((s1.trans s2).trans (s3 _))
end
/-! ### rules over a given written part: within comprehensions -/
section
variable {X : Cx} {K : PySem.W.Frag}
theorem ixK {r : PySem.W.Frag → R2} (h : IxR X (r X.K)) (hK : X.K = K := by rfl) : IxR X (r K) := hK ▸ h
theorem opK {f : Value → Value → Sem Value} {r : PySem.W.Frag → R2} (h : OpR X f (r X.K)) (hK : X.K = K := by rfl) : OpR X f (r K) := hK ▸ h
theorem callK {f : Value} {r : PySem.W.Frag → List V → Hp → VK → Prop} (h : CallR X f (r X.K)) (hK : X.K = K := by rfl) : CallR X f (r K) := hK ▸ h
theorem slK {r : PySem.W.Frag → V → Option Int → Option Int → Hp → VK → Prop} (h : SlR X (r X.K)) (hK : X.K = K := by rfl) : SlR X (r K) := hK ▸ h
theorem peK {e : Expr} {t : PySem.W.Frag → TE} (h : PE X e (t X.K)) (hK : X.K = K := by rfl) : PE X e (t K) := hK ▸ h
theorem ptK {e : Expr} {t : PySem.W.Frag → TT} (h : PT X e (t X.K)) (hK : X.K = K := by rfl) : PT X e (t K) := hK ▸ h
theorem paK {es : List Expr} {t : PySem.W.Frag → TA} (h : PA X es (t X.K)) (hK : X.K = K := by rfl) : PA X es (t K) := hK ▸ h
theorem pe_fldK {e : Expr} {f : Str} {pos : Pos} {ta : TE} (he : PE X e ta) (hb : attributeBase e f X.env (eval e X.env) = eval e X.env) (hK : X.K = K := by rfl) : PE X (.Attribute e f pos) (tFld K ta f) :=
  peK (t := fun K => tFld K ta f) (pe_fld he hb) hK
theorem pt_truthK {a : Expr} {ta : TE} (ha : PE X a ta) (he : ∀ whole, isTrue a X.env whole = (do let v ← whole; standAt a.pos; holding [v] (truthy v))) (hK : X.K = K := by rfl) : PT X a (tTru K ta) :=
  ptK (t := fun K => tTru K ta) (pt_truth ha he) hK
theorem pa_starK {e : Expr} {es : List Expr} {p : Pos} {te : TE} {t : TA} (he : PE X e te) (hr : PA X es t) (hK : X.K = K := by rfl) (hs : starEach (.Starred e p :: es) X.env = (true, eval e X.env) :: starEach es X.env := by rfl) : PA X (.Starred e p :: es) (StX.tStar K te t) :=
  paK (t := fun K => StX.tStar K te t) (StX.pa_star he hr hs) hK
end
def rLenS (K : PySem.W.Frag) : List V → Hp → VK → Prop := fun xs H Q => ∃ p ys, xs = [.ref p] ∧ (SqL K H p ys ∨ SqT K H p ys) ∧ Q (.int ys.length) H
def rLstOf (K : PySem.W.Frag) : List V → Hp → VK → Prop := fun xs H Q => ∃ p ys, xs = [.ref p] ∧ (SqL K H p ys ∨ SqT K H p ys) ∧ ∀ l, H l = none → Q (.ref l) (upd H l (.lst ys))
/-- tuple(x): a list's or a tuple's -/
structure rTupOf (K : PySem.W.Frag) (xs : List V) (H : Hp) (Q : VK) : Prop where
  ex : ∃ p ys, xs = [.ref p] ∧ ((SqL K H p ys ∧ ∀ l, H l = none → Q (.ref l) (upd H l (.tup ys))) ∨ (SqT K H p ys ∧ Q (.ref p) H))
theorem call_tupS {X : Cx} : CallR X (.type "tuple") (rTupOf X.K) := fun pins s σ H xs us Q I r h => call_tuple_of pins s σ H xs us Q I r h.ex
def tJoinK (K : PySem.W.Frag) (to te : TE) : TE := tM1 (fun x xs H Q => ∃ a p, ∃ ys : List Str, x = .str a ∧ xs = [.ref p] ∧ (SqL K H p (ys.map V.str) ∨ SqT K H p (ys.map V.str)) ∧ (ys.map (·.length)).sum + ys.length * a.length ≤ 16777216 ∧ Q (.str (Txt.join a ys)) H) to te
theorem pe_joinK {X : Cx} {K : PySem.W.Frag} {o e : Expr} {to te : TE} {apos pos : Pos} (ho : PE X o to) (he : PE X e te) (hK : X.K = K := by rfl) (hs : starEach [e] X.env = [(false, eval e X.env)] := by rfl) (hbase : attributeBase o "join" X.env (eval o X.env) = eval o X.env := by rfl) (hline : (apos.endLine == pos.line) = true := by rfl) :
    PE X (.Call (.Attribute o "join" apos) [e] [] pos) (tJoinK K to te) := peK (t := fun K => tJoinK K to te) (pe_join ho he hs hbase hline) hK
/-! ### one expression, two readings -/
theorem PE.or {X : Cx} {e : Expr} {t1 t2 : TE} (h1 : PE X e t1) (h2 : PE X e t2) : PE X e (fun σ H Q => t1 σ H Q ∨ t2 σ H Q) :=
  ⟨fun pins s σ H Q I h => h.elim (h1.run pins s σ H Q I) (h2.run pins s σ H Q I)⟩
theorem PI.or {X : Cx} {tg e : Expr} {t1 t2 : TI} (h1 : PI X tg e t1) (h2 : PI X tg e t2) : PI X tg e (fun σ H Q => t1 σ H Q ∨ t2 σ H Q) :=
  ⟨fun pins s σ H R I h => h.elim (h1.run pins s σ H R I) (h2.run pins s σ H R I)⟩
theorem pi_seq {X : Cx} {tg l : Expr} {tl : TE} (hl : PE X l tl) : PI X tg l (fun σ H R => iList X.K tl σ H R ∨ iTup X.K tl σ H R) := PI.or (pi_list hl) (pi_tup hl)
/-! ### two data are the same -/
/-- no deeper than that -/
def dp : Nat → PyData → Prop
  | 0, _ => False
  | _ + 1, .none => True
  | _ + 1, .bool _ => True
  | _ + 1, .int _ => True
  | _ + 1, .str _ => True
  | m + 1, .list xs => xs.length ≤ 1000000 ∧ ∀ x ∈ xs, dp m x
  | m + 1, .tuple xs => xs.length ≤ 1000000 ∧ ∀ x ∈ xs, dp m x
  | _ + 1, .dict _ => False
def tyName : PyData → String
  | .none => "NoneType"
  | .bool _ => "bool"
  | .int _ => "int"
  | .str _ => "str"
  | .list _ => "list"
  | .tuple _ => "tuple"
  | .dict _ => "dict"
theorem ty_of {K : PySem.W.Frag} {H : Hp} {v : V} {d : PyData} (h : Dp K H v d) : TyX K H v (.type (tyName d)) := by
  cases h with
  | non => exact .base .non
  | bl b => exact .base (.bl b)
  | int i => exact .base (.int i)
  | str x => exact .base (.str x)
  | lst hs _ =>
    rcases hs with (h | ⟨o, h⟩) | ⟨o, its, n, hk, hc, _⟩
    · exact .base (.lst h)
    · exact .base (.frz h)
    · exact .kList hk hc
  | tup hs _ =>
    rcases hs with (h | ⟨o, h⟩) | ⟨o, its, n, hk, hc, _⟩
    · exact .base (.tup h)
    · exact .fTuple h
    · exact .kTuple hk hc
theorem dpAll_len {K : PySem.W.Frag} {H : Hp} : ∀ {vs : List V} {ds : List PyData}, DpAll K H vs ds → vs.length = ds.length
  | _, _, .nil => rfl
  | _, _, .cons _ t => by rw [List.length_cons, List.length_cons, dpAll_len t]
theorem dpAll_get {K : PySem.W.Frag} {H : Hp} : ∀ {vs : List V} {ds : List PyData} {i : Nat} {d : PyData}, DpAll K H vs ds → ds[i]? = some d → ∃ v, vs[i]? = some v ∧ Dp K H v d
  | _, _, _, _, .nil, e => by simp at e
  | _, _, 0, _, .cons h _, e => by
    have e' := Option.some.inj e
    subst e'
    exact ⟨_, rfl, h⟩
  | _, _, i + 1, _, .cons _ t, e => dpAll_get (i := i) t e
def tyL : PyData → Bool
  | .list _ => true
  | _ => false
def tyT : PyData → Bool
  | .tuple _ => true
  | _ => false
def tyB : PyData → Bool
  | .bool _ => true
  | _ => false
def tyI : PyData → Bool
  | .int _ => true
  | .bool _ => true
  | _ => false
def tyS : PyData → Bool
  | .str _ => true
  | _ => false
section
variable {K : PySem.W.Frag} {H : Hp} {v : V} {d : PyData}
theorem kitL (h : Dp K H v d) : kitB (tyName d) "list" = some (tyL d) := by
  cases d with
  | none => exact (by decide +kernel : kitB "NoneType" "list" = some false)
  | bool b => exact (by decide +kernel : kitB "bool" "list" = some false)
  | int i => exact (by decide +kernel : kitB "int" "list" = some false)
  | str z => exact (by decide +kernel : kitB "str" "list" = some false)
  | list l => exact (by decide +kernel : kitB "list" "list" = some true)
  | tuple l => exact (by decide +kernel : kitB "tuple" "list" = some false)
  | dict l => cases h
theorem kitT (h : Dp K H v d) : kitB (tyName d) "tuple" = some (tyT d) := by
  cases d with
  | none => exact (by decide +kernel : kitB "NoneType" "tuple" = some false)
  | bool b => exact (by decide +kernel : kitB "bool" "tuple" = some false)
  | int i => exact (by decide +kernel : kitB "int" "tuple" = some false)
  | str z => exact (by decide +kernel : kitB "str" "tuple" = some false)
  | list l => exact (by decide +kernel : kitB "list" "tuple" = some false)
  | tuple l => exact (by decide +kernel : kitB "tuple" "tuple" = some true)
  | dict l => cases h
theorem kitBo (h : Dp K H v d) : kitB (tyName d) "bool" = some (tyB d) := by
  cases d with
  | none => exact (by decide +kernel : kitB "NoneType" "bool" = some false)
  | bool b => exact (by decide +kernel : kitB "bool" "bool" = some true)
  | int i => exact (by decide +kernel : kitB "int" "bool" = some false)
  | str z => exact (by decide +kernel : kitB "str" "bool" = some false)
  | list l => exact (by decide +kernel : kitB "list" "bool" = some false)
  | tuple l => exact (by decide +kernel : kitB "tuple" "bool" = some false)
  | dict l => cases h
theorem kitI (h : Dp K H v d) : kitB (tyName d) "int" = some (tyI d) := by
  cases d with
  | none => exact (by decide +kernel : kitB "NoneType" "int" = some false)
  | bool b => exact (by decide +kernel : kitB "bool" "int" = some true)
  | int i => exact (by decide +kernel : kitB "int" "int" = some true)
  | str z => exact (by decide +kernel : kitB "str" "int" = some false)
  | list l => exact (by decide +kernel : kitB "list" "int" = some false)
  | tuple l => exact (by decide +kernel : kitB "tuple" "int" = some false)
  | dict l => cases h
theorem kitS (h : Dp K H v d) : kitB (tyName d) "str" = some (tyS d) := by
  cases d with
  | none => exact (by decide +kernel : kitB "NoneType" "str" = some false)
  | bool b => exact (by decide +kernel : kitB "bool" "str" = some false)
  | int i => exact (by decide +kernel : kitB "int" "str" = some false)
  | str z => exact (by decide +kernel : kitB "str" "str" = some true)
  | list l => exact (by decide +kernel : kitB "list" "str" = some false)
  | tuple l => exact (by decide +kernel : kitB "tuple" "str" = some false)
  | dict l => cases h
end
def isLT (d : PyData) : Bool := tyL d || tyT d
theorem kit_lt {K : PySem.W.Frag} {H : Hp} {v : V} {d : PyData} (s : Dp K H v d) : PySem.W.kitAny K (.type (tyName d)) [.type "list", .type "tuple"] = some (isLT d) := by
  refine kitAny_cons (kit_ty (kitL s)) (fun ea => ?_) (fun ea => by unfold isLT; rw [ea]; rfl)
  refine kitAny_cons (kit_ty (kitT s)) (fun eb => ?_) (fun eb => by unfold isLT; rw [ea, eb]; rfl)
  unfold isLT
  rw [ea, eb]; rfl
/-- what the names of classes and of len, range stand for -/
structure Bts (mg : Str → Option Value) : Prop where
  isinstance : mg "isinstance" = none
  bool : mg "bool" = none
  str : mg "str" = none
  int : mg "int" = none
  list : mg "list" = none
  tuple : mg "tuple" = none
  len : mg "len" = none
  range : mg "range" = none
/-! ### data in the heap, and displays of data -/
theorem Same.seqT {K : PySem.W.Frag} {H H' : Hp} {a : Addr} {xs : List V} (e : Same H H') (h : SqT K H a xs) : SqT K H' a xs := by
  rcases h with h1 | h3
  · rcases h1 with h1 | h2
    · exact .inl (.inl (e _ _ h1))
    · obtain ⟨o, h2⟩ := h2
      exact .inl (.inr ⟨o, e _ _ h2⟩)
  · exact .inr h3
mutual
theorem dp_same {K : PySem.W.Frag} {H H' : Hp} (s : Same H H') : ∀ (d : PyData) (v : V), Dp K H v d → Dp K H' v d
  | .none, _, h => by cases h; exact .non
  | .bool b, _, h => by cases h; exact .bl b
  | .int i, _, h => by cases h; exact .int i
  | .str x, _, h => by cases h; exact .str x
  | .list ds, _, h => by
    cases h with
    | lst h1 h2 => exact .lst (s.seq h1) (dpAll_same s ds _ h2)
  | .tuple ds, _, h => by
    cases h with
    | tup h1 h2 => exact .tup (Same.seqT s h1) (dpAll_same s ds _ h2)
  | .dict kvs, _, h => by cases h
theorem dpAll_same {K : PySem.W.Frag} {H H' : Hp} (s : Same H H') : ∀ (ds : List PyData) (vs : List V), DpAll K H vs ds → DpAll K H' vs ds
  | [], _, h => by cases h; exact .nil
  | d :: ds, _, h => by
    cases h with
    | cons h1 h2 => exact .cons (dp_same s d _ h1) (dpAll_same s ds _ h2)
end
theorem same_new {H : Hp} {p : Addr} {o : HO} (n : H p = none) : Same H (upd H p o) := fun b x e => by
  rw [upd_ne (ne_of_none e n)]; exact e
/-- the heap without some objects -/
def mask (l : List Addr) (H : Hp) : Hp := fun a => if a ∈ l then none else H a
theorem mask_in {l : List Addr} {H : Hp} {a : Addr} (h : a ∈ l) : mask l H a = none := if_pos h
theorem mask_out {l : List Addr} {H : Hp} {a : Addr} (h : a ∉ l) : mask l H a = H a := if_neg h
theorem mask_sub (l : List Addr) (H : Hp) : Same (mask l H) H := fun a o e => by
  by_cases h : a ∈ l
  · rw [mask_in h] at e; cases e
  · rw [mask_out h] at e; exact e
theorem mask_same {l : List Addr} {H H' : Hp} (s : Same H H') : Same (mask l H) (mask l H') := fun a o e => by
  by_cases h : a ∈ l
  · rw [mask_in h] at e; cases e
  · rw [mask_out h] at e ⊢; exact s a o e
theorem mask_nil (H : Hp) : mask [] H = H := rfl
/-- what stands in H is there -/
abbrev Alive (l : List Addr) (H : Hp) : Prop := ∀ a ∈ l, ∃ o, H a = some o
theorem Alive.same {l : List Addr} {H H' : Hp} (h : Alive l H) (s : Same H H') : Alive l H' := fun a m => let ⟨o, e⟩ := h a m; ⟨o, s a o e⟩
theorem Alive.not {l : List Addr} {H : Hp} {p : Addr} (h : Alive l H) (n : H p = none) : p ∉ l := fun m => by
  obtain ⟨o, e⟩ := h p m
  rw [n] at e; cases e
theorem alive_nil {H : Hp} : Alive [] H := fun _ m => nomatch m
theorem mask_upd {l : List Addr} {H : Hp} {p : Addr} {o : HO} (h : p ∉ l) : mask l (upd H p o) p = some o := by
  rw [mask_out h, upd_same]
theorem Keeps.mask {p q : Addr} {H H' : Hp} (k : Keeps p q H H') : Same (mask [p, q] H) (mask [p, q] H') := fun a o e => by
  by_cases h : a ∈ [p, q]
  · rw [mask_in h] at e; cases e
  · rw [mask_out h] at e ⊢
    refine k a o (fun z => h ?_) (fun z => h ?_) e
    · rw [z]; exact List.mem_cons_self
    · rw [z]; exact List.mem_cons_of_mem _ List.mem_cons_self
theorem PoolAt.alive {H : Hp} {p q : Addr} {n : Nat} (h : PoolAt H p q n) : Alive [p, q] H := fun a m => by
  rcases List.mem_cons.mp m with rfl | m
  · exact h.p_some
  · rw [List.mem_singleton.mp m]; exact h.q_some
/-- which data an expression gives; it stays so when objects are added -/
abbrev DS := St → Hp → PyData → Prop
abbrev DSs := St → Hp → List PyData → Prop
def tDat (K : PySem.W.Frag) (D : DS) : TE := fun σ H Q => ∃ (l : List Addr) (d : PyData), Alive l H ∧ D σ (mask l H) d ∧ ∀ v H', Same H H' → Dp K (mask l H') v d → Q v H'
def tDats (K : PySem.W.Frag) (D : DSs) : TA := fun σ H Q => ∃ (l : List Addr) (ds : List PyData), Alive l H ∧ D σ (mask l H) ds ∧ ∀ vs H', Same H H' → DpAll K (mask l H') vs ds → Q vs H'
structure DE (X : Cx) (e : Expr) (D : DS) : Prop where
  pe : PE X e (tDat X.K D)
  mono : ∀ σ H H' d, Same H H' → D σ H d → D σ H' d
structure DA (X : Cx) (es : List Expr) (D : DSs) : Prop where
  pa : PA X es (tDats X.K D)
  mono : ∀ σ H H' ds, Same H H' → D σ H ds → D σ H' ds
def dNil : DSs := fun _ _ ds => ds = []
def dCons (D : DS) (Ds : DSs) : DSs := fun σ H ds => ∃ d r, ds = d :: r ∧ D σ H d ∧ Ds σ H r
def dTup (Ds : DSs) : DS := fun σ H d => ∃ ds, d = .tuple ds ∧ ds.length ≤ 1000 ∧ Ds σ H ds
def dLst (Ds : DSs) : DS := fun σ H d => ∃ ds, d = .list ds ∧ ds.length ≤ 1000 ∧ Ds σ H ds
def dVar (K : PySem.W.Frag) (i : Nat) : DS := fun σ H d => ∃ v, σ[i]? = some (some v) ∧ Dp K H v d
def dIs (d0 : PyData) : DS := fun _ _ d => d = d0
section
variable {X : Cx} {e : Expr} {es : List Expr} {t : TE} {D : DS} {Ds : DSs} {pos : Pos}
theorem de_of (h : PE X e t) (w : ∀ σ H Q, tDat X.K D σ H Q → t σ H Q) (m : ∀ σ H H' d, Same H H' → D σ H d → D σ H' d) : DE X e D :=
  ⟨⟨fun pins s σ H Q I q => h.run pins s σ H Q I (w σ H Q q)⟩, m⟩
theorem de_str {x : Str} {j} : DE X (.Constant (.str x) j pos) (dIs (.str x)) :=
  de_of pe_str (fun _ H _ ⟨_, _, _, e, q⟩ => by cases e; exact q _ H (Same.refl H) (.str x)) fun _ _ _ _ _ h => h
theorem de_int {i : Int} {j} : DE X (.Constant (.int i) j pos) (dIs (.int i)) :=
  de_of pe_int (fun _ H _ ⟨_, _, _, e, q⟩ => by cases e; exact q _ H (Same.refl H) (.int i)) fun _ _ _ _ _ h => h
theorem de_bl {b : Bool} {j} : DE X (.Constant (.bool b) j pos) (dIs (.bool b)) :=
  de_of pe_bl (fun _ H _ ⟨_, _, _, e, q⟩ => by cases e; exact q _ H (Same.refl H) (.bl b)) fun _ _ _ _ _ h => h
theorem de_non {j} : DE X (.Constant .none j pos) (dIs .none) :=
  de_of pe_non (fun _ H _ ⟨_, _, _, e, q⟩ => by cases e; exact q _ H (Same.refl H) .non) fun _ _ _ _ _ h => h
theorem dv (i : Nat) {x : Str} (h : PE X (.Name x pos) (tVar i)) : DE X (.Name x pos) (dVar X.K i) :=
  de_of h (fun _ H _ ⟨_, _, _, ⟨v, e, hd⟩, q⟩ => ⟨v, e, q v H (Same.refl H) hd⟩) fun _ _ _ d s ⟨v, e, hd⟩ => ⟨v, e, dp_same s d v hd⟩
theorem da_nil : DA X [] dNil :=
  ⟨⟨fun pos pins s σ H Q I h => by
    obtain ⟨l, ds, _, e, q⟩ := h
    cases e
    exact pa_nil.run pos pins s σ H Q I (q [] H (Same.refl H) .nil)⟩, fun _ _ _ _ _ h => h⟩
theorem da_cons (h : DE X e D) (r : DA X es Ds) (hs : starEach (e :: es) X.env = (false, eval e X.env) :: starEach es X.env := by rfl) : DA X (e :: es) (dCons D Ds) :=
  ⟨⟨fun pos pins s σ H Q I hq => by
    obtain ⟨l, _, al, ⟨d, ds, rfl, h1, h2⟩, q⟩ := hq
    refine (pa_cons h.pe r.pa hs).run pos pins s σ H Q I ⟨l, d, al, h1, fun v H1 s1 hv => ⟨l, ds, al.same s1, r.mono _ _ _ _ (mask_same s1) h2, fun vs H2 s2 hvs => ?_⟩⟩
    exact q _ H2 (s1.trans s2) (.cons (dp_same (mask_same s2) d v hv) hvs)⟩,
   fun σ H H' ds s ⟨d, r', e, h1, h2⟩ => ⟨d, r', e, h.mono _ _ _ _ s h1, r.mono _ _ _ _ s h2⟩⟩
theorem len1000 {n : Nat} (h : n ≤ 1000) : n ≤ sizeLine := Nat.le_of_lt (small1000 h)
theorem de_tup {k} (h : DA X es Ds) : DE X (.Tuple es k pos) (dTup Ds) :=
  ⟨⟨fun pins s σ H Q I hq => by
    obtain ⟨l, _, al, ⟨ds, rfl, hl, h1⟩, q⟩ := hq
    refine (pe_tup h.pa).run pins s σ H Q I ⟨l, ds, al, h1, fun vs H1 s1 hv => ⟨by rw [dpAll_len hv]; exact len1000 hl, fun p np => ?_⟩⟩
    exact q _ _ (s1.trans (same_new np)) (.tup (SqT.of (mask_upd ((al.same s1).not np))) (dpAll_same (mask_same (same_new np)) _ _ hv))⟩,
   fun σ H H' d s ⟨ds, e, hl, h1⟩ => ⟨ds, e, hl, h.mono _ _ _ _ s h1⟩⟩
theorem de_lst (h : DA X es Ds) : DE X (.List es pos) (dLst Ds) :=
  ⟨⟨fun pins s σ H Q I hq => by
    obtain ⟨l, _, al, ⟨ds, rfl, hl, h1⟩, q⟩ := hq
    refine (pe_lst h.pa).run pins s σ H Q I ⟨l, ds, al, h1, fun vs H1 s1 hv => ⟨by rw [dpAll_len hv]; exact len1000 hl, fun p np => ?_⟩⟩
    exact q _ _ (s1.trans (same_new np)) (.lst (SqL.of (mask_upd ((al.same s1).not np))) (dpAll_same (mask_same (same_new np)) _ _ hv))⟩,
   fun σ H H' d s ⟨ds, e, hl, h1⟩ => ⟨ds, e, hl, h.mono _ _ _ _ s h1⟩⟩
end
theorem mask_new {l : List Addr} {H : Hp} {D : Addr} (n : H D = none) : Same (mask l H) (mask (D :: l) H) := fun a o e => by
  by_cases h : a ∈ D :: l
  · rcases List.mem_cons.mp h with rfl | h
    · have := mask_sub l H _ _ e
      rw [n] at this; cases this
    · rw [mask_in h] at e; cases e
  · rw [mask_out h]
    exact mask_sub l H _ _ e
theorem mask_less {l : List Addr} {H : Hp} {D : Addr} : Same (mask (D :: l) H) (mask l H) := fun a o e => by
  by_cases h : a ∈ D :: l
  · rw [mask_in h] at e; cases e
  · rw [mask_out h] at e
    rw [mask_out fun z => h (List.mem_cons_of_mem _ z)]
    exact e
theorem mask_at {l : List Addr} {H : Hp} {D : Addr} {o : HO} (m : D ∈ l) : Same (mask l H) (mask l (upd H D o)) := fun a u e => by
  by_cases h : a ∈ l
  · rw [mask_in h] at e; cases e
  · rw [mask_out h] at e ⊢
    rw [upd_ne fun z => h (by rw [z]; exact m)]
    exact e
theorem dpAll_app {K : PySem.W.Frag} {H : Hp} : ∀ {vs ws : List V} {ds es : List PyData}, DpAll K H vs ds → DpAll K H ws es → DpAll K H (vs ++ ws) (ds ++ es)
  | _, _, _, _, .nil, h => h
  | _, _, _, _, .cons h t, r => .cons h (dpAll_app t r)
theorem dpAll_drop {K : PySem.W.Frag} {H : Hp} : ∀ (n : Nat) {vs : List V} {ds : List PyData}, DpAll K H vs ds → DpAll K H (vs.drop n) (ds.drop n)
  | 0, _, _, h => h
  | n + 1, _, _, .nil => .nil
  | n + 1, _, _, .cons _ t => dpAll_drop n t
theorem dpAll_take {K : PySem.W.Frag} {H : Hp} : ∀ (n : Nat) {vs : List V} {ds : List PyData}, DpAll K H vs ds → DpAll K H (vs.take n) (ds.take n)
  | 0, _, _, _ => .nil
  | n + 1, _, _, .nil => .nil
  | n + 1, _, _, .cons h t => .cons h (dpAll_take n t)
theorem dpAll_at {K : PySem.W.Frag} {H : Hp} : ∀ {vs : List V} {ds : List PyData} {i : Nat} {v : V}, DpAll K H vs ds → vs[i]? = some v → ∃ d, ds[i]? = some d ∧ Dp K H v d
  | _, _, _, _, .nil, e => by simp at e
  | _, _, 0, _, .cons h _, e => by
    obtain rfl := Option.some.inj e
    exact ⟨_, rfl, h⟩
  | _, _, i + 1, _, .cons _ t, e => dpAll_at (i := i) t e
theorem dp_tup {K : PySem.W.Frag} {H : Hp} {v : V} {ds : List PyData} (h : Dp K H v (.tuple ds)) : ∃ a xs, v = .ref a ∧ SqT K H a xs ∧ DpAll K H xs ds := by
  cases h with
  | tup h1 h2 => exact ⟨_, _, rfl, h1, h2⟩
theorem dp_lst {K : PySem.W.Frag} {H : Hp} {v : V} {ds : List PyData} (h : Dp K H v (.list ds)) : ∃ a xs, v = .ref a ∧ SqL K H a xs ∧ DpAll K H xs ds := by
  cases h with
  | lst h1 h2 => exact ⟨_, _, rfl, h1, h2⟩
theorem dpAll_cons {K : PySem.W.Frag} {H : Hp} {vs : List V} {d : PyData} {ds : List PyData} (h : DpAll K H vs (d :: ds)) : ∃ v r, vs = v :: r ∧ Dp K H v d ∧ DpAll K H r ds := by
  cases h with
  | cons h1 h2 => exact ⟨_, _, rfl, h1, h2⟩
theorem dpAll_nil {K : PySem.W.Frag} {H : Hp} {vs : List V} (h : DpAll K H vs []) : vs = [] := by
  cases h; rfl
theorem dp_str {K : PySem.W.Frag} {H : Hp} {v : V} {x : Str} (h : Dp K H v (.str x)) : v = .str x := by
  cases h; rfl
theorem cut_tail {x : V} {r : List V} : cutV (x :: r) (some 1) none = r := by
  unfold cutV
  rw [show HT.sIx (x :: r).length 0 (some 1) = min 1 (x :: r).length from HT.sIx_nat _ 0 1, HT.sIx_none, List.length_cons, Nat.min_eq_left (by omega)]
  show List.take (r.length + 1 - 1) r = r
  rw [Nat.add_sub_cancel, List.take_length]
theorem cut_drop (xs : List V) (k : Nat) : cutV xs (some (k : Int)) none = xs.drop k := by
  unfold cutV
  rw [HT.sIx_nat, HT.sIx_none]
  by_cases h : k ≤ xs.length
  · rw [Nat.min_eq_left h]
    exact List.take_of_length_le (by rw [List.length_drop]; omega)
  · rw [Nat.min_eq_right (by omega), List.drop_of_length_le (Nat.le_refl _), List.drop_of_length_le (by omega)]; simp
theorem Keeps.maskL {p q : Addr} {l : List Addr} {H H' : Hp} (hp : p ∈ l) (hq : q ∈ l) (k : Keeps p q H H') : Same (Qp.mask l H) (Qp.mask l H') := fun a o e => by
  by_cases h : a ∈ l
  · rw [mask_in h] at e; cases e
  · rw [mask_out h] at e ⊢
    exact k a o (fun z => h (by rw [z]; exact hp)) (fun z => h (by rw [z]; exact hq)) e
theorem Keeps.alive {p q : Addr} {n : Nat} {l : List Addr} {H H' : Hp} (al : Alive l H) (k : Keeps p q H H') (P : PoolAt H' p q n) : Alive l H' := fun a m => by
  obtain ⟨o, e⟩ := al a m
  by_cases h1 : a = p
  · rw [h1]; exact P.p_some
  · by_cases h2 : a = q
    · rw [h2]; exact P.q_some
    · exact ⟨o, k a o h1 h2 e⟩
theorem ite_ne_self {p : Bool} {A B : Prop} (h : B) : if (!decide (V.bl p = V.bl p)) = true then A else B := by
  rw [decide_eq_true rfl]
  exact iteF h
theorem data_same (K : PySem.W.Frag) {H H' : Hp} (s : Same H H') {v : V} {d : PyData} (h : Dp K H v d) : Dp K H' v d := dp_same s d v h
def spSame (K : PySem.W.Frag) (m : Nat) : Sp := fun vs H Q _ => ∃ (v u : V) (d : PyData), vs = [v, u] ∧ Dp K H v d ∧ Dp K H u d ∧ dp m d ∧ ∀ H', Same H H' → Q (.bl true) H'
section
variable {P : Program} {w : World} {K : PySem.W.Frag} {mg : Str → Option Value} {base : Heap}
theorem fn_never {f : Addr} {fd : FuncData} {ps : List Str} : FnOk P w K mg base CX0 0 f fd ps (fun _ _ _ _ => False) :=
  ⟨fun _ _ _ _ h => h.elim, fun _ _ _ _ _ _ _ _ _ _ _ _ _ h => h.elim⟩
theorem scS : FnScope ["actual", "due", "k"] ["actual", "due"] (defScope sSame) := ⟨rfl, rfl, rfl, by decide +kernel, rfl, by decide +kernel, by decide +kernel⟩
theorem ok_same {f : Addr} {fd : FuncData} (F : Fun K "_law_same" "_law_same" sSame f fd) (B : Bts mg) (mS : mg "_law_same" = some (.ref f)) (bS : Binds K fd ["actual", "due"] []) : ∀ m : Nat, FnOk P w K mg base CX0 m f fd ["actual", "due"] (spSame K m)
  | 0 => fn_never.imp fun vs H Q E h => by
    obtain ⟨v, u, d, _, _, _, h, _⟩ := h
    simp [dp] at h
  | m + 1 => by
    have GS := ok_same F B mS bS m
    have kS := F.kp
    refine F.ok scS (fun vs H Q E h => ?_) (fun cdv A outer s H vs Q E hr h => ?_)
    · obtain ⟨v, u, d, rfl, _⟩ := h
      rfl
    · obtain ⟨v, u, d, rfl, hv, hu, hd, kk⟩ := h
      have hrS := hr
      refine ⟨_, pss_cons (ps_if (pt_val (pe_callB call_isiT (by rfl) B.isinstance (by decide +kernel) (pa_cons (pv 1) (pa_cons (pe_tup (pa_cons (pe_bltn (v := .ty "list") (by rfl) B.list (by decide +kernel) rfl) (pa_cons (pe_bltn (v := .ty "tuple") (by rfl) B.tuple (by decide +kernel) rfl) pa_nil))) pa_nil))))
          (pss_cons (ps_if (pt_cmpR op_ne (pe_callB call_isi (by rfl) B.isinstance (by decide +kernel) (pa_cons (pv 0) (pa_cons (pe_bltn (v := .ty "list") (by rfl) B.list (by decide +kernel) rfl) pa_nil))) (pe_callB call_isi (by rfl) B.isinstance (by decide +kernel) (pa_cons (pv 1) (pa_cons (pe_bltn (v := .ty "list") (by rfl) B.list (by decide +kernel) rfl) pa_nil))) (nomark _))
              (pss_one (ps_ret pe_bl))
              pss_nil)
            (pss_cons (ps_if (PW.pt (pw_or (pt_not (pt_val (pe_callB call_isiT (by rfl) B.isinstance (by decide +kernel) (pa_cons (pv 0) (pa_cons (pe_tup (pa_cons (pe_bltn (v := .ty "list") (by rfl) B.list (by decide +kernel) rfl) (pa_cons (pe_bltn (v := .ty "tuple") (by rfl) B.tuple (by decide +kernel) rfl) pa_nil))) pa_nil))))) (pw_or1 (pt_cmpR op_ne (pe_callB call_len_seq (by rfl) B.len PySem.boot_len (pa_cons (pv 0) pa_nil)) (pe_callB call_len_seq (by rfl) B.len PySem.boot_len (pa_cons (pv 1) pa_nil)) (nomark _)))))
              (pss_one (ps_ret pe_bl))
              pss_nil)
            (pss_one (ps_ret (pe_cmpR (op_eqD hr.units) (pe_lc (own := [("k", 2)]) (g := gName 2) rfl scS.nd (pi_range1 (by rfl) B.range (pa_cons (pe_callB call_len_seq (by rfl) B.len PySem.boot_len (pa_cons (pv 1) pa_nil)) pa_nil)) (blkOk_by (N := ["actual", "due", "k"]) (sc := defScope sSame) (by decide +kernel)) (fun _ _ _ _ _ => (pg_name (i := 2) scS.nd rfl (.inl rfl))) (fun _ _ _ _ _ => pts_one (pt_not (pt_val (pe_call GS hrS (by rfl) mS kS bS .nil pass0 (pa_cons (pe_ix (ixK (K := K) (r := rIx) ix_seq) (pv 0) (pv 2) (fun _ _ => rfl)) (pa_cons (pe_ix (ixK (K := K) (r := rIx) ix_seq) (pv 1) (pv 2) (fun _ _ => rfl)) pa_nil)))))) (fun _ _ _ _ _ => (pv 2))) (pe_lst pa_nil) (nomark _))))))
          pss_nil)
        (pss_cons (ps_if (PW.pt (pw_or (pt_cmpR op_isN (pv 1) pe_non (nomark _)) (pw_or1 (pt_cmpR op_isN (pv 0) pe_non (nomark _)))))
          (pss_one (ps_ret (pe_and (pe_cmpR op_isN (pv 1) pe_non (nomark _)) (pe_one (pe_cmpR op_isN (pv 0) pe_non (nomark _))))))
          pss_nil)
        (pss_cons (ps_if (pt_cmpR op_ne (pe_callB call_isi (by rfl) B.isinstance (by decide +kernel) (pa_cons (pv 0) (pa_cons (pe_bltn (v := .ty "bool") (by rfl) B.bool (by decide +kernel) rfl) pa_nil))) (pe_callB call_isi (by rfl) B.isinstance (by decide +kernel) (pa_cons (pv 1) (pa_cons (pe_bltn (v := .ty "bool") (by rfl) B.bool (by decide +kernel) rfl) pa_nil))) (nomark _))
          (pss_one (ps_ret pe_bl))
          pss_nil)
        (pss_cons (ps_if (pt_cmpR op_ne (pe_callB call_isi (by rfl) B.isinstance (by decide +kernel) (pa_cons (pv 0) (pa_cons (pe_bltn (v := .ty "int") (by rfl) B.int (by decide +kernel) rfl) pa_nil))) (pe_callB call_isi (by rfl) B.isinstance (by decide +kernel) (pa_cons (pv 1) (pa_cons (pe_bltn (v := .ty "int") (by rfl) B.int (by decide +kernel) rfl) pa_nil))) (nomark _))
          (pss_one (ps_ret pe_bl))
          pss_nil)
        (pss_cons (ps_if (PW.pt (pw_or (pt_val (pe_callB call_isiT (by rfl) B.isinstance (by decide +kernel) (pa_cons (pv 0) (pa_cons (pe_tup (pa_cons (pe_bltn (v := .ty "list") (by rfl) B.list (by decide +kernel) rfl) (pa_cons (pe_bltn (v := .ty "tuple") (by rfl) B.tuple (by decide +kernel) rfl) pa_nil))) pa_nil)))) (pw_or1 (pt_cmpR op_ne (pe_callB call_isi (by rfl) B.isinstance (by decide +kernel) (pa_cons (pv 0) (pa_cons (pe_bltn (v := .ty "str") (by rfl) B.str (by decide +kernel) rfl) pa_nil))) (pe_callB call_isi (by rfl) B.isinstance (by decide +kernel) (pa_cons (pv 1) (pa_cons (pe_bltn (v := .ty "str") (by rfl) B.str (by decide +kernel) rfl) pa_nil))) (nomark _)))))
          (pss_one (ps_ret pe_bl))
          pss_nil)
        (pss_one (ps_ret (pe_cmpR op_eq (pv 0) (pv 1) (nomark _)))))))), ?_⟩
      refine ⟨_, rfl, by show 2 ≤ sizeLine; decide, fun t nt => ?_⟩
      have s1 := same_new (o := .tup [.ty "list", .ty "tuple"]) nt
      have hv1 := dp_same s1 _ _ hv
      have hu1 := dp_same s1 _ _ hu
      refine ⟨_, t, _, _, _, _, rfl, upd_same, .cons (ClsV.ty _) (.cons (ClsV.ty _) .nil), ty_of hu1, kit_lt hu1, _, rfl, ?_⟩
      have kk1 : ∀ H', Same (upd H t (.tup [.ty "list", .ty "tuple"])) H' → Q (.bl true) H' := fun H' s => kk H' (s1.trans s)
      generalize upd H t (.tup [.ty "list", .ty "tuple"]) = H1 at *
      clear kk s1 nt
      cases he : isLT d with
      | true =>
        refine iteT ?_
        obtain ⟨b, ds, hb, hsm, hdl, ⟨a2, xs2, rfl, hs2, ha2⟩, ⟨a1, xs1, rfl, hs1, ha1⟩⟩ : ∃ (b : Bool) (ds : List PyData), kitB (tyName d) "list" = some b ∧ (ds.length ≤ 1000000) ∧ (∀ x ∈ ds, dp m x) ∧ (∃ a xs, u = .ref a ∧ (∀ {H2}, Same H1 H2 → SqL K H2 a xs ∨ SqT K H2 a xs) ∧ DpAll K H1 xs ds) ∧ (∃ a xs, v = .ref a ∧ (∀ {H2}, Same H1 H2 → SqL K H2 a xs ∨ SqT K H2 a xs) ∧ DpAll K H1 xs ds) := by
          cases d with
          | list ds =>
            simp only [dp] at hd
            cases hu1 with
            | lst h1 h2 =>
              cases hv1 with
              | lst h3 h4 => exact ⟨true, ds, (by decide +kernel : kitB "list" "list" = some true), hd.1, hd.2, ⟨_, _, rfl, fun s => .inl (s.seq h1), h2⟩, ⟨_, _, rfl, fun s => .inl (s.seq h3), h4⟩⟩
          | tuple ds =>
            simp only [dp] at hd
            cases hu1 with
            | tup h1 h2 =>
              cases hv1 with
              | tup h3 h4 => exact ⟨false, ds, (by decide +kernel : kitB "tuple" "list" = some false), hd.1, hd.2, ⟨_, _, rfl, fun s => .inr (Same.seqT s h1), h2⟩, ⟨_, _, rfl, fun s => .inr (Same.seqT s h3), h4⟩⟩
          | _ => cases he
        have e1 := dpAll_len ha1
        have e2 := dpAll_len ha2
        refine ⟨_, rfl, _, _, _, _, b, rfl, .ty _, ty_of hv1, kit_ty hb, _, rfl, _, _, _, _, b, rfl, .ty _, ty_of hu1, kit_ty hb, rfl, _, rfl, ite_ne_self ?_⟩
        refine ⟨_, rfl, by show 2 ≤ sizeLine; decide, fun t nt => ?_⟩
        have s1 := same_new (o := .tup [.ty "list", .ty "tuple"]) nt
        refine ⟨_, t, _, _, _, _, rfl, upd_same, .cons (ClsV.ty _) (.cons (ClsV.ty _) .nil), ty_of (dp_same s1 _ _ hv1), kit_lt (dp_same s1 _ _ hv1), _, rfl, ?_⟩
        rw [he]
        refine iteF ⟨_, rfl, a1, xs1, rfl, hs1 s1, _, rfl, a2, xs2, rfl, hs2 s1, rfl, _, rfl, iteNS (by rw [e1, e2]) ?_⟩
        have hz2 : (xs2.length : Int) < 2 ^ 62 := by omega
        refine ⟨_, rfl, a2, xs2, rfl, hs2 s1, _, rfl, (by omega), hz2, fun D nD => ?_⟩
        have s2 := s1.trans (same_new (o := .lst []) nD)
        refine lc_range (lo := 0) (n := (xs2.length : Int).toNat) (fun i H2 => H2 D = some (.lst []) ∧ Same H1 H2) ⟨upd_same, s2⟩ ?_ ?_
        · rintro i H2 hi ⟨eD, s3⟩
          have hi2 : i < ds.length := by omega
          obtain ⟨x1, g1, d1⟩ := dpAll_get ha1 (List.getElem?_eq_getElem hi2)
          obtain ⟨x2, g2, d2⟩ := dpAll_get ha2 (List.getElem?_eq_getElem hi2)
          have ei : (0 : Int) + (i : Int) = ((i : Nat) : Int) := by omega
          rw [ei]
          have ix : ∀ {a : Addr} {xs : List V} {x : V} {Q : VK}, (SqL K H2 a xs ∨ SqT K H2 a xs) → xs[i]? = some x → Q x H2 → rIx K (.ref a) (.int (i : Nat)) H2 Q := fun {a xs x Q} hs e q => by
            rcases hs with hs | hs
            · exact .inl ⟨_, _, _, _, rfl, rfl, hs, atI_nat e, q⟩
            · exact .inr (.inl ⟨_, _, _, _, rfl, rfl, hs, atI_nat e, q⟩)
          refine ⟨rfl, _, rfl, _, rfl, ix (hs1 s3) g1 ⟨_, rfl, _, rfl, ix (hs2 s3) g2 ?_⟩⟩
          refine ⟨x1, x2, _, rfl, dp_same s3 _ _ d1, dp_same s3 _ _ d2, hdl _ (List.getElem_mem hi2), fun H3 s4 => ⟨_, rfl, iteF ⟨?_, s3.trans s4⟩⟩⟩
          exact s4 _ _ eD
        · rintro H2 ⟨eD, s3⟩
          refine ⟨by show 0 ≤ sizeLine; decide, fun p np => ?_⟩
          refine ⟨.list [], .list [], .lst (SqL.of (same_new np _ _ eD)) .nil, .lst (SqL.of upd_same) .nil, rfl, rfl, ?_⟩
          exact kk1 _ (s3.trans (same_new np))
      | false =>
        refine iteF ?_
        have two : ∀ {x y : V} {H : Hp}, Dp K H x d → Dp K H y d → x = y := fun {x y H} hx hy => by
          cases d with
          | none => cases hx; cases hy; rfl
          | bool b => cases hx; cases hy; rfl
          | int i => cases hx; cases hy; rfl
          | str z => cases hx; cases hy; rfl
          | dict l => cases hx
          | _ => cases he
        obtain rfl := two hu1 hv1
        have e0 : ∀ {x : V} {H : Hp}, Dp K H x d → d ≠ .none → decide (x = V.non) = false := fun {x H} hx hn => by
          cases hx with
          | non => exact absurd rfl hn
          | _ => rfl
        by_cases hnn : d = .none
        · subst hnn
          cases hv1
          refine ⟨_, rfl, rfl, _, rfl, iteT ⟨_, rfl, rfl, _, rfl, iteT ⟨_, rfl, rfl, kk1 H1 (Same.refl _)⟩⟩⟩
        refine ⟨_, rfl, rfl, _, rfl, ?_⟩
        rw [e0 hv1 hnn]
        refine iteF ⟨_, rfl, rfl, _, rfl, ?_⟩
        rw [e0 hv1 hnn]
        refine iteF ⟨_, rfl, _, _, _, _, _, rfl, .ty _, ty_of hv1, kit_ty (kitBo hv1), _, rfl, _, _, _, _, _, rfl, .ty _, ty_of hv1, kit_ty (kitBo hv1), rfl, _, rfl, ite_ne_self ?_⟩
        refine ⟨_, rfl, _, _, _, _, _, rfl, .ty _, ty_of hv1, kit_ty (kitI hv1), _, rfl, _, _, _, _, _, rfl, .ty _, ty_of hv1, kit_ty (kitI hv1), rfl, _, rfl, ite_ne_self ?_⟩
        refine ⟨_, rfl, by show 2 ≤ sizeLine; decide, fun t nt => ?_⟩
        have s1 := same_new (o := .tup [.ty "list", .ty "tuple"]) nt
        have hv2 := dp_same s1 _ _ hv1
        refine ⟨_, t, _, _, _, _, rfl, upd_same, .cons (ClsV.ty _) (.cons (ClsV.ty _) .nil), ty_of hv2, kit_lt hv2, _, rfl, ?_⟩
        rw [he]
        refine iteF ⟨_, rfl, _, _, _, _, _, rfl, .ty _, ty_of hv2, kit_ty (kitS hv2), _, rfl, _, _, _, _, _, rfl, .ty _, ty_of hv2, kit_ty (kitS hv2), rfl, _, rfl, ite_ne_self ?_⟩
        refine ⟨_, rfl, _, rfl, ?_⟩
        cases d with
        | none => exact absurd rfl hnn
        | dict l => cases hv
        | list l => cases he
        | tuple l => cases he
        | bool b =>
          cases hv1
          refine ⟨rfl, ?_⟩
          rw [decide_eq_true rfl]
          exact kk1 _ s1
        | int b =>
          cases hv1
          refine ⟨rfl, ?_⟩
          rw [decide_eq_true rfl]
          exact kk1 _ s1
        | str b =>
          cases hv1
          refine ⟨rfl, ?_⟩
          rw [decide_eq_true rfl]
          exact kk1 _ s1
end
/-! ### names -/
theorem low_ok : ∀ c, 97 ≤ c → c ≤ 122 → Unicode.isAlpha c = true ∧ Unicode.isLower c = true ∧ Unicode.isUpper c = false ∧ Unicode.isTitle c = false := by
  have h : ∀ k : Fin 26, Unicode.isAlpha (97 + k.val) = true ∧ Unicode.isLower (97 + k.val) = true ∧ Unicode.isUpper (97 + k.val) = false ∧ Unicode.isTitle (97 + k.val) = false := by decide +kernel
  intro c h1 h2
  have := h ⟨c - 97, by omega⟩
  rw [show 97 + (c - 97) = c by omega] at this
  exact this
/-- what is_name tells of a text -/
def nmS (z : Str) : Bool := !decide (8 < z.length) && (Txt.isascii z && (Txt.isalpha z && Txt.islower z))
def nmD : PyData → Bool
  | .str z => nmS z
  | _ => false
theorem IsWord.nm {z : Str} (h : IsWord z) : nmS z = true := by
  obtain ⟨h1, h2, h3⟩ := h
  have hm : ∀ c, c ∈ z.cps → 97 ≤ c ∧ c ≤ 122 := fun c hc => h3 c (Array.mem_toList_iff.mpr hc)
  have e1 : (!decide (8 < z.length)) = true := by simp; omega
  have e2 : Txt.isascii z = true := by
    unfold Txt.isascii
    rw [Array.all_eq_true_iff_forall_mem]
    intro c hc
    have := hm c hc
    exact decide_eq_true (by omega)
  have e3 : Txt.isalpha z = true := by
    unfold Txt.isalpha
    rw [Bool.and_eq_true]
    refine ⟨decide_eq_true (by omega), ?_⟩
    rw [Array.all_eq_true_iff_forall_mem]
    intro c hc
    exact (low_ok c (hm c hc).1 (hm c hc).2).1
  have e4 : Txt.islower z = true := by
    unfold Txt.islower
    rw [Bool.and_eq_true]
    have hz : 0 < z.cps.size := h1
    refine ⟨?_, ?_⟩
    · rw [← Array.any_toList, List.any_eq_true]
      exact ⟨z.cps[0], Array.mem_toList_iff.mpr (Array.getElem_mem hz), (low_ok _ (hm _ (Array.getElem_mem hz)).1 (hm _ (Array.getElem_mem hz)).2).2.1⟩
    · rw [Bool.not_eq_true', ← Array.any_toList, List.any_eq_false]
      intro c hc
      have hc := Array.mem_toList_iff.mp hc
      have := low_ok c (hm c hc).1 (hm c hc).2
      rw [this.2.2.1, this.2.2.2]
      simp
  unfold nmS
  rw [e1, e2, e3, e4]
  rfl
def spIsName (K : PySem.W.Frag) : Sp := fun vs H Q _ => ∃ (v : V) (d : PyData), vs = [v] ∧ Dp K H v d ∧ (∀ z, d = .str z → z.length ≤ 100000) ∧ Q (.bl (nmD d)) H
/-- never reached -/
theorem ps_never {X : Cx} {st : Stmt} : PS X st (fun _ _ _ => False) := ⟨fun _ _ _ _ _ _ h => h.elim⟩
section
variable {P : Program} {w : World} {K : PySem.W.Frag} {mg : Str → Option Value} {base : Heap}
theorem scIN : FnScope ["thing"] ["thing"] (defScope sIsName) := ⟨rfl, rfl, rfl, by decide +kernel, rfl, by decide +kernel, by decide +kernel⟩
theorem ok_isname {f : Addr} {fd : FuncData} {k : Nat} {tk : Tok} (F : Fun K "is_name" "is_name" sIsName f fd) (B : Bts mg) (mL : mg "LONGEST_NAME" = some (.int 8 tk)) : FnOk P w K mg base CX0 (k + 1) f fd ["thing"] (spIsName K) := by
  refine F.ok scIN (fun vs H Q E h => ?_) (fun cdv A outer s H vs Q E hr h => ?_)
  · obtain ⟨v, d, rfl, _⟩ := h
    rfl
  · obtain ⟨v, d, rfl, hv, hz, kk⟩ := h
    refine ⟨_, pss_cons (ps_if (PW.pt (pw_or (pt_not (pt_val (pe_callB call_isi (by rfl) B.isinstance (by decide +kernel) (pa_cons (pv 0) (pa_cons (pe_bltn (v := .ty "str") (by rfl) B.str (by decide +kernel) rfl) pa_nil)))))
          (pw_or1 (pt_cmpR op_gt (pe_callB call_len_str (by rfl) B.len PySem.boot_len (pa_cons (pv 0) pa_nil)) (pe_glob (v := .int 8) rfl mL ⟨tk, rfl⟩) (by rfl)))))
        (pss_one (ps_ret pe_bl)) pss_nil)
      (pss_one (ps_ret (pe_and (pe_bm0 PySem.F.plainAttrs_str PySem.F.slot_str_isascii PySem.F.type_str_isascii mt_isascii (pv 0))
        (pe_and (pe_bm0 PySem.F.plainAttrs_str PySem.F.slot_str_isalpha PySem.F.type_str_isalpha mt_isalpha (pv 0))
        (pe_one (pe_bm0 PySem.F.plainAttrs_str PySem.F.slot_str_islower PySem.F.type_str_islower mt_islower (pv 0))))))), ?_⟩
    by_cases hs : ∃ z, d = .str z
    · obtain ⟨z, rfl⟩ := hs
      have hl := hz z rfl
      cases hv
      refine ⟨_, rfl, _, _, _, _, true, rfl, .ty _, TyX.base (TyOf.str z), kit_ty (by decide +kernel), _, rfl, iteF ?_⟩
      refine ⟨_, rfl, z, rfl, Nat.le_trans hl (by decide), _, _, rfl, rfl, _, rfl, ite2 (fun h => ?_) (fun h => ?_)⟩
      · have h8 : 8 < z.length := by have := of_decide_eq_true h; omega
        have e : nmS z = false := by unfold nmS; rw [decide_eq_true h8]; rfl
        show Q (.bl false) H
        have kk : Q (.bl (nmS z)) H := kk
        rw [e] at kk
        exact kk
      · have h8 : ¬ 8 < z.length := fun q => h (decide_eq_true (by omega))
        have e : nmS z = (Txt.isascii z && (Txt.isalpha z && Txt.islower z)) := by unfold nmS; rw [decide_eq_false h8]; rfl
        have kk : Q (.bl (nmS z)) H := kk
        rw [e] at kk
        refine ⟨_, rfl, rfl, z, rfl, rfl, True.intro, _, rfl, ite2 (fun ha => ?_) (fun ha => ?_)⟩
        · rw [ha, Bool.true_and] at kk
          refine ⟨_, rfl, rfl, z, rfl, rfl, True.intro, _, rfl, ite2 (fun hb => ?_) (fun hb => ?_)⟩
          · rw [hb, Bool.true_and] at kk
            exact ⟨_, rfl, rfl, z, rfl, rfl, True.intro, kk⟩
          · rw [Bool.eq_false_iff.mpr hb, Bool.false_and] at kk
            exact kk
        · rw [Bool.eq_false_iff.mpr ha, Bool.false_and] at kk
          exact kk
    · have e : nmD d = false := by
        cases d with
        | str z => exact absurd ⟨z, rfl⟩ hs
        | _ => rfl
      have kt : kitB (tyName d) "str" = some false := by
        cases d with
        | str z => exact absurd ⟨z, rfl⟩ hs
        | none => exact (by decide +kernel : kitB "NoneType" "str" = some false)
        | bool b => exact (by decide +kernel : kitB "bool" "str" = some false)
        | int i => exact (by decide +kernel : kitB "int" "str" = some false)
        | list l => exact (by decide +kernel : kitB "list" "str" = some false)
        | tuple l => exact (by decide +kernel : kitB "tuple" "str" = some false)
        | dict l => cases hv
      rw [e] at kk
      exact ⟨_, rfl, _, _, _, _, false, rfl, .ty _, ty_of hv, kit_ty kt, _, rfl, iteT (iteT kk)⟩
end
/-! ### what contents are made of -/
def longest : Int := 10 ^ 30
def isIntD : PyData → Bool
  | .int _ => true
  | _ => false
def okLenD : PyData → Bool
  | .int n => decide (0 ≤ n) && decide (n ≤ longest)
  | _ => false
/-- the members of a list or a tuple -/
def mem : PyData → List PyData
  | .list l => l
  | .tuple l => l
  | _ => []
def okL (most : Nat) (p : PyData → Bool) (d : PyData) : Bool := isLT d && (decide ((mem d).length ≤ most) && (mem d).all p)
def okAns : PyData → Bool := okL 1000 tyB
def okLens : PyData → Bool := okL 1000 okLenD
def okLoad : PyData → Bool := okL 100 nmD
def okLoads : PyData → Bool := okL 1000 okLoad
/-- small enough to be looked at -/
def sz : Nat → PyData → Prop
  | 0, _ => False
  | _ + 1, .str z => z.length ≤ 100000
  | m + 1, .list xs => xs.length ≤ 1000000 ∧ ∀ x ∈ xs, sz m x
  | m + 1, .tuple xs => xs.length ≤ 1000000 ∧ ∀ x ∈ xs, sz m x
  | _ + 1, _ => True
theorem sz_mem {m : Nat} {d : PyData} (h : sz (m + 1) d) : (mem d).length ≤ 1000000 ∧ ∀ x ∈ mem d, sz m x := by
  cases d with
  | list l => simp only [sz] at h; exact h
  | tuple l => simp only [sz] at h; exact h
  | _ => exact ⟨Nat.zero_le _, fun _ h => nomatch h⟩
theorem dp_seq {K : PySem.W.Frag} {H : Hp} {v : V} {d : PyData} (h : Dp K H v d) (e : isLT d = true) : ∃ a xs, v = .ref a ∧ (∀ {H2}, Same H H2 → SqL K H2 a xs ∨ SqT K H2 a xs) ∧ DpAll K H xs (mem d) := by
  cases h with
  | lst h1 h2 => exact ⟨_, _, rfl, fun s => .inl (s.seq h1), h2⟩
  | tup h1 h2 => exact ⟨_, _, rfl, fun s => .inr (Same.seqT s h1), h2⟩
  | _ => cases e
def spIsInt (K : PySem.W.Frag) : Sp := fun vs H Q _ => ∃ (v : V) (d : PyData), vs = [v] ∧ Dp K H v d ∧ Q (.bl (isIntD d)) H
def spIsLen (K : PySem.W.Frag) : Sp := fun vs H Q _ => ∃ (v : V) (d : PyData), vs = [v] ∧ Dp K H v d ∧ Q (.bl (okLenD d)) H
def spIsList (K : PySem.W.Frag) : Sp := fun vs H Q _ => ∃ (v : V) (d : PyData) (most : Nat), vs = [v, .int (most : Int)] ∧ Dp K H v d ∧ ∀ H', Same H H' → Q (.bl (isLT d && decide ((mem d).length ≤ most))) H'
/-- what tells whether data is so -/
def spTell (K : PySem.W.Frag) (m : Nat) (p : PyData → Bool) : Sp := fun vs H Q _ => ∃ (v : V) (d : PyData), vs = [v] ∧ Dp K H v d ∧ sz m d ∧ ∀ H', Same H H' → Q (.bl (p d)) H'
/-- all([.. for x in xs]) over a list or a tuple -/
theorem rd_all {K : PySem.W.Frag} {te : TE} {H : Hp} {Q : VK} {a : Addr} {xs : List V} {ds : List PyData} {p : PyData → Bool} (hq : ∀ {H2}, Same H H2 → SqL K H2 a xs ∨ SqT K H2 a xs) (hds : DpAll K H xs ds) (hl : ds.length ≤ 1000)
    (hte : ∀ (x : V) (d : PyData) (H2 : Hp) (R : VK), d ∈ ds → Dp K H2 x d → (∀ H3, Same H2 H3 → R (.bl (p d)) H3) → te [some (.ref a), some x] H2 R) (q : ∀ H', Same H H' → Q (.bl (ds.all p)) H') :
    tLc (fun σ H R => iList K (tVar 0) σ H R ∨ iTup K (tVar 0) σ H R) (gName 1) tYes te [1] [some (.ref a), none] H fun y H1 => rAll K [y] H1 Q := by
  have lx := dpAll_len hds
  have core : ∀ (D : Addr), H D = none → ∃ Pv : Nat → Hp → Prop, Pv 0 (upd H D (.lst [])) ∧ (∀ i H2, Pv i H2 → Same H H2) ∧
      (∀ i x H2, xs[i]? = some x → Pv i H2 → te [some (.ref a), some x] H2 fun y H4 => ∃ acc, H4 D = some (.lst acc) ∧ acc.length < sizeLine ∧ Pv (i + 1) (upd H4 D (.lst (acc ++ [y])))) ∧ (∀ H2, Pv xs.length H2 → rAll K [.ref D] H2 Q) := by
    intro D nD
    refine ⟨fun i H2 => H2 D = some (.lst (((ds.take i).map p).map V.bl)) ∧ Same H H2, ⟨upd_same, same_new nD⟩, fun i H2 h => h.2, ?_, ?_⟩
    · rintro i x H2 hx ⟨eD, s2⟩
      obtain ⟨d, ed, hd⟩ := dpAll_at hds hx
      refine hte x d H2 _ (List.mem_of_getElem? ed) (dp_same s2 _ _ hd) fun H3 s3 => ⟨_, s3 _ _ eD, ?_, ?_, ?_⟩
      · rw [List.length_map, List.length_map, List.length_take]; exact small1000 (by omega)
      · rw [upd_same, List.take_add_one, ed, List.map_append, List.map_append]; rfl
      · intro b o e
        rw [upd_ne (ne_of_none e nD)]
        exact s3 _ _ (s2 _ _ e)
    · rintro H2 ⟨eD, s2⟩
      rw [lx, List.take_length] at eD
      refine ⟨D, ds.map p, rfl, SqL.of eD, ?_⟩
      have e : (ds.map p).all id = ds.all p := by rw [List.all_map]; rfl
      rw [e]
      exact q _ s2
  rcases hq (Same.refl H) with h | h
  · refine .inl ⟨_, rfl, a, rfl, ⟨_, h⟩, fun D nD => ?_⟩
    obtain ⟨Pv, p0, p1, p2, p3⟩ := core D nD
    refine lc_list (K := K) (a := a) (xs := xs) Pv p0 (fun i H2 _ hp => (p1 i H2 hp).seq h) (fun i x H2 hx hp => ⟨rfl, ?_⟩) p3
    exact p2 i x H2 hx hp
  · refine .inr ⟨_, rfl, a, rfl, ⟨_, h⟩, fun D nD => ?_⟩
    obtain ⟨Pv, p0, p1, p2, p3⟩ := core D nD
    refine lc_tup (K := K) (a := a) (xs := xs) Pv p0 (fun i H2 _ hp => Same.seqT (p1 i H2 hp) h) (fun i x H2 hx hp => ⟨rfl, ?_⟩) p3
    exact p2 i x H2 hx hp
section
variable {P : Program} {w : World} {K : PySem.W.Frag} {mg : Str → Option Value} {base : Heap}
theorem scII : FnScope ["thing"] ["thing"] (defScope sIsInt) := ⟨rfl, rfl, rfl, by decide +kernel, rfl, by decide +kernel, by decide +kernel⟩
theorem ok_isint {f : Addr} {fd : FuncData} {k : Nat} (F : Fun K "is_int" "is_int" sIsInt f fd) (B : Bts mg) : FnOk P w K mg base CX0 (k + 1) f fd ["thing"] (spIsInt K) := by
  refine F.ok scII (fun vs H Q E h => ?_) (fun cdv A outer s H vs Q E hr h => ?_)
  · obtain ⟨v, d, rfl, _⟩ := h
    rfl
  · obtain ⟨v, d, rfl, hv, kk⟩ := h
    refine ⟨_, pss_one (ps_ret (pe_and (pe_callB call_isi (by rfl) B.isinstance (by decide +kernel) (pa_cons (pv 0) (pa_cons (pe_bltn (v := .ty "int") (by rfl) B.int (by decide +kernel) rfl) pa_nil))) (pe_one (pe_not (pe_callB call_isi (by rfl) B.isinstance (by decide +kernel) (pa_cons (pv 0) (pa_cons (pe_bltn (v := .ty "bool") (by rfl) B.bool (by decide +kernel) rfl) pa_nil))))))), ?_⟩
    refine ⟨_, rfl, _, _, _, _, _, rfl, .ty _, ty_of hv, kit_ty (kitI hv), _, rfl, ?_⟩
    cases e1 : tyI d with
    | false =>
      refine iteF ?_
      have e : isIntD d = false := by cases d <;> first | rfl | cases e1
      rw [e] at kk; exact kk
    | true =>
      refine iteT ⟨_, rfl, _, _, _, _, _, rfl, .ty _, ty_of hv, kit_ty (kitBo hv), _, rfl, ?_⟩
      have e : isIntD d = !tyB d := by cases d <;> first | rfl | cases e1
      show Q (.bl (!tyB d)) H
      rw [e] at kk; exact kk
theorem scIL : FnScope ["given"] ["given"] (defScope sIsLength) := ⟨rfl, rfl, rfl, by decide +kernel, rfl, by decide +kernel, by decide +kernel⟩
theorem ok_islen {f fI : Addr} {fd fdI : FuncData} {tk : Tok} (F : Fun K "is_length" "is_length" sIsLength f fd) (GI : FnOk P w K mg base CX0 1 fI fdI ["thing"] (spIsInt K)) (mI : mg "is_int" = some (.ref fI)) (kI : PySem.W.keepIn K (.ref fI) = true) (bI : Binds K fdI ["thing"] [])
    (mL : mg "LONGEST_ROW" = some (.int longest tk)) : FnOk P w K mg base CX0 2 f fd ["given"] (spIsLen K) := by
  refine F.ok scIL (fun vs H Q E h => ?_) (fun cdv A outer s H vs Q E hrI h => ?_)
  · obtain ⟨v, d, rfl, _⟩ := h
    rfl
  · obtain ⟨v, d, rfl, hv, kk⟩ := h
    refine ⟨_, pss_one (ps_ret (pe_and (pe_call GI hrI (by rfl) mI kI bI .nil pass0 (pa_cons (pv 0) pa_nil)) (pe_one (pe_chain op_le op_le pe_int (pv 0) (pe_glob (v := .int longest) rfl mL ⟨tk, rfl⟩))))), ?_⟩
    refine ⟨_, rfl, v, d, rfl, hv, ?_⟩
    cases d with
    | int n =>
      cases hv
      refine ⟨_, rfl, iteT ⟨_, rfl, 0, n, rfl, rfl, _, rfl, ?_⟩⟩
      refine ite2 (fun h0 => ?_) (fun h0 => ?_)
      · refine ⟨n, longest, rfl, rfl, ?_⟩
        have e : okLenD (.int n) = decide (n ≤ longest) := by show (decide (0 ≤ n) && _) = _; rw [h0]; rfl
        show Q (.bl (decide (n ≤ longest))) H
        rw [← e]; exact kk
      · have e : okLenD (.int n) = false := by show (decide (0 ≤ n) && _) = _; rw [Bool.eq_false_iff.mpr h0]; rfl
        show Q (.bl false) H
        rw [← e]; exact kk
    | _ => exact ⟨_, rfl, iteF kk⟩
theorem scLi : FnScope ["given", "most"] ["given", "most"] (defScope sIsList) := ⟨rfl, rfl, rfl, by decide +kernel, rfl, by decide +kernel, by decide +kernel⟩
theorem ok_islist {f : Addr} {fd : FuncData} {k : Nat} (F : Fun K "_is_list" "_is_list" sIsList f fd) (B : Bts mg) : FnOk P w K mg base CX0 (k + 1) f fd ["given", "most"] (spIsList K) := by
  refine F.ok scLi (fun vs H Q E h => ?_) (fun cdv A outer s H vs Q E hr h => ?_)
  · obtain ⟨v, d, most, rfl, _⟩ := h
    rfl
  · obtain ⟨v, d, most, rfl, hv, kk⟩ := h
    refine ⟨_, pss_one (ps_ret (pe_and (pe_callB call_isiT (by rfl) B.isinstance (by decide +kernel) (pa_cons (pv 0) (pa_cons (pe_tup (pa_cons (pe_bltn (v := .ty "list") (by rfl) B.list (by decide +kernel) rfl) (pa_cons (pe_bltn (v := .ty "tuple") (by rfl) B.tuple (by decide +kernel) rfl) pa_nil))) pa_nil))) (pe_one (pe_cmpR op_le (pe_callB call_len_seq (by rfl) B.len PySem.boot_len (pa_cons (pv 0) pa_nil)) (pv 1) (nomark _))))), ?_⟩
    refine ⟨_, rfl, by show 2 ≤ sizeLine; decide, fun t nt => ?_⟩
    have s1 := same_new (o := .tup [.ty "list", .ty "tuple"]) nt
    have hv1 := dp_same s1 _ _ hv
    refine ⟨_, t, _, _, _, _, rfl, upd_same, .cons (ClsV.ty _) (.cons (ClsV.ty _) .nil), ty_of hv1, kit_lt hv1, _, rfl, ?_⟩
    have kk := kk _ s1
    cases he : isLT d with
    | false =>
      rw [he] at kk
      exact iteF kk
    | true =>
      rw [he, Bool.true_and] at kk
      obtain ⟨a, xs, rfl, hs, hds⟩ := dp_seq hv he
      refine iteT ⟨_, rfl, a, xs, rfl, hs s1, _, rfl, _, _, rfl, rfl, ?_⟩
      have e : decide ((xs.length : Int) ≤ (most : Int)) = decide ((mem d).length ≤ most) := by
        rw [← dpAll_len hds]
        exact decide_eq_decide.mpr (by omega)
      show Q (.bl (decide ((xs.length : Int) ≤ (most : Int)))) _
      rw [e]; exact kk
theorem scAn : FnScope ["answers", "answer"] ["answers"] (defScope sAns) := ⟨rfl, rfl, rfl, by decide +kernel, rfl, by decide +kernel, by decide +kernel⟩
theorem ok_ans {f fI : Addr} {fd fdI : FuncData} {tk : Tok} (F : Fun K "_are_answers" "_are_answers" sAns f fd) (B : Bts mg) (mA : mg "all" = none) (GI : FnOk P w K mg base CX0 1 fI fdI ["given", "most"] (spIsList K)) (mI : mg "_is_list" = some (.ref fI)) (kI : PySem.W.keepIn K (.ref fI) = true) (bI : Binds K fdI ["given", "most"] [])
    (mM : mg "MOST_MEMBERS" = some (.int 1000 tk)) : FnOk P w K mg base CX0 2 f fd ["answers"] (spTell K 6 okAns) := by
  refine F.ok scAn (fun vs H Q E h => ?_) (fun cdv A outer s H vs Q E hr h => ?_)
  · obtain ⟨v, d, rfl, _⟩ := h
    rfl
  · obtain ⟨v, d, rfl, hv, hz, kk⟩ := h
    have hrI : Room 1 _ := hr.mono (by decide)
    refine ⟨_, pss_one (ps_ret (pe_and (pe_call GI hrI (by rfl) mI kI bI .nil pass0 (pa_cons (pv 0) (pa_cons (pe_glob (v := .int 1000) rfl mM ⟨tk, rfl⟩) pa_nil))) (pe_one (pe_callB (cr_all rfl) (by rfl) mA (by decide +kernel) (pa_cons (pe_lc (own := [("answer", 1)]) (g := gName 1) (tt := tYes) rfl scAn.nd (pi_seq (pv 0)) (blkOk_by (N := ["answers", "answer"]) (sc := defScope sAns) (by decide +kernel)) (fun _ _ _ _ _ => (pg_name (i := 1) scAn.nd rfl (.inl rfl))) (fun _ _ _ _ _ => pts_nil) (fun _ _ _ _ _ => (pe_callB (callK (K := K) (r := rIsi) call_isi) (by rfl) B.isinstance (by decide +kernel) (pa_cons (pv 1) (pa_cons (pe_bltn (v := .ty "bool") (by rfl) B.bool (by decide +kernel) rfl) pa_nil))))) pa_nil))))), ?_⟩
    refine ⟨_, rfl, v, d, 1000, rfl, hv, fun H1 s1 => ⟨_, rfl, ?_⟩⟩
    cases hc : isLT d && decide ((mem d).length ≤ 1000) with
    | false =>
      refine iteF ?_
      have e : okAns d = false := by show (isLT d && (decide ((mem d).length ≤ 1000) && _)) = _; rw [← Bool.and_assoc, hc]; rfl
      rw [e] at kk
      exact kk H1 s1
    | true =>
      obtain ⟨he, hl⟩ := Bool.and_eq_true_iff.mp hc
      have e : okAns d = (mem d).all tyB := by show (isLT d && (decide ((mem d).length ≤ 1000) && _)) = _; rw [← Bool.and_assoc, hc]; rfl
      rw [e] at kk
      have hl := of_decide_eq_true hl
      obtain ⟨a, xs, rfl, hs, hds⟩ := dp_seq hv he
      refine iteT (rd_all (fun s => hs (s1.trans s)) (dpAll_same s1 _ _ hds) (by omega) (fun x d2 H2 R hm hd2 k2 => ?_) (fun H' s => kk H' (s1.trans s)))
      have hz2 := (sz_mem hz).2 d2 hm
      refine ⟨_, rfl, _, _, _, _, _, rfl, .ty _, ty_of hd2, kit_ty (kitBo hd2), k2 H2 (Same.refl _)⟩
theorem scLe : FnScope ["lengths", "length"] ["lengths"] (defScope sLens) := ⟨rfl, rfl, rfl, by decide +kernel, rfl, by decide +kernel, by decide +kernel⟩
theorem ok_lens {f fI fN : Addr} {fd fdI fdN : FuncData} {tk : Tok} (F : Fun K "_are_lengths" "_are_lengths" sLens f fd) (B : Bts mg) (mA : mg "all" = none) (GI : FnOk P w K mg base CX0 1 fI fdI ["given", "most"] (spIsList K)) (mI : mg "_is_list" = some (.ref fI)) (kI : PySem.W.keepIn K (.ref fI) = true) (bI : Binds K fdI ["given", "most"] []) (GN : FnOk P w K mg base CX0 2 fN fdN ["given"] (spIsLen K)) (mN : mg "is_length" = some (.ref fN)) (kN : PySem.W.keepIn K (.ref fN) = true) (bN : Binds K fdN ["given"] [])
    (mM : mg "MOST_MEMBERS" = some (.int 1000 tk)) : FnOk P w K mg base CX0 3 f fd ["lengths"] (spTell K 6 okLens) := by
  refine F.ok scLe (fun vs H Q E h => ?_) (fun cdv A outer s H vs Q E hr h => ?_)
  · obtain ⟨v, d, rfl, _⟩ := h
    rfl
  · obtain ⟨v, d, rfl, hv, hz, kk⟩ := h
    have hrI : Room 1 _ := hr.mono (by decide)
    have hrN : Room 2 _ := hr.mono (by decide)
    refine ⟨_, pss_one (ps_ret (pe_and (pe_call GI hrI (by rfl) mI kI bI .nil pass0 (pa_cons (pv 0) (pa_cons (pe_glob (v := .int 1000) rfl mM ⟨tk, rfl⟩) pa_nil))) (pe_one (pe_callB (cr_all rfl) (by rfl) mA (by decide +kernel) (pa_cons (pe_lc (own := [("length", 1)]) (g := gName 1) (tt := tYes) rfl scLe.nd (pi_seq (pv 0)) (blkOk_by (N := ["lengths", "length"]) (sc := defScope sLens) (by decide +kernel)) (fun _ _ _ _ _ => (pg_name (i := 1) scLe.nd rfl (.inl rfl))) (fun _ _ _ _ _ => pts_nil) (fun _ _ _ _ _ => (pe_call GN hrN (by rfl) mN kN bN .nil pass0 (pa_cons (pv 1) pa_nil)))) pa_nil))))), ?_⟩
    refine ⟨_, rfl, v, d, 1000, rfl, hv, fun H1 s1 => ⟨_, rfl, ?_⟩⟩
    cases hc : isLT d && decide ((mem d).length ≤ 1000) with
    | false =>
      refine iteF ?_
      have e : okLens d = false := by show (isLT d && (decide ((mem d).length ≤ 1000) && _)) = _; rw [← Bool.and_assoc, hc]; rfl
      rw [e] at kk
      exact kk H1 s1
    | true =>
      obtain ⟨he, hl⟩ := Bool.and_eq_true_iff.mp hc
      have e : okLens d = (mem d).all okLenD := by show (isLT d && (decide ((mem d).length ≤ 1000) && _)) = _; rw [← Bool.and_assoc, hc]; rfl
      rw [e] at kk
      have hl := of_decide_eq_true hl
      obtain ⟨a, xs, rfl, hs, hds⟩ := dp_seq hv he
      refine iteT (rd_all (fun s => hs (s1.trans s)) (dpAll_same s1 _ _ hds) (by omega) (fun x d2 H2 R hm hd2 k2 => ?_) (fun H' s => kk H' (s1.trans s)))
      have hz2 := (sz_mem hz).2 d2 hm
      exact ⟨_, rfl, x, d2, rfl, hd2, k2 H2 (Same.refl _)⟩
theorem scLd : FnScope ["load", "name"] ["load"] (defScope sLoad) := ⟨rfl, rfl, rfl, by decide +kernel, rfl, by decide +kernel, by decide +kernel⟩
theorem ok_load {f fI fN : Addr} {fd fdI fdN : FuncData} {tk : Tok} (F : Fun K "_is_load" "_is_load" sLoad f fd) (B : Bts mg) (mA : mg "all" = none) (GI : FnOk P w K mg base CX0 1 fI fdI ["given", "most"] (spIsList K)) (mI : mg "_is_list" = some (.ref fI)) (kI : PySem.W.keepIn K (.ref fI) = true) (bI : Binds K fdI ["given", "most"] []) (GN : FnOk P w K mg base CX0 1 fN fdN ["thing"] (spIsName K)) (mN : mg "is_name" = some (.ref fN)) (kN : PySem.W.keepIn K (.ref fN) = true) (bN : Binds K fdN ["thing"] [])
    (mM : mg "MOST_NAMES" = some (.int 100 tk)) : FnOk P w K mg base CX0 2 f fd ["load"] (spTell K 5 okLoad) := by
  refine F.ok scLd (fun vs H Q E h => ?_) (fun cdv A outer s H vs Q E hr h => ?_)
  · obtain ⟨v, d, rfl, _⟩ := h
    rfl
  · obtain ⟨v, d, rfl, hv, hz, kk⟩ := h
    have hrI : Room 1 _ := hr.mono (by decide)
    have hrN : Room 1 _ := hr.mono (by decide)
    refine ⟨_, pss_one (ps_ret (pe_and (pe_call GI hrI (by rfl) mI kI bI .nil pass0 (pa_cons (pv 0) (pa_cons (pe_glob (v := .int 100) rfl mM ⟨tk, rfl⟩) pa_nil))) (pe_one (pe_callB (cr_all rfl) (by rfl) mA (by decide +kernel) (pa_cons (pe_lc (own := [("name", 1)]) (g := gName 1) (tt := tYes) rfl scLd.nd (pi_seq (pv 0)) (blkOk_by (N := ["load", "name"]) (sc := defScope sLoad) (by decide +kernel)) (fun _ _ _ _ _ => (pg_name (i := 1) scLd.nd rfl (.inl rfl))) (fun _ _ _ _ _ => pts_nil) (fun _ _ _ _ _ => (pe_call GN hrN (by rfl) mN kN bN .nil pass0 (pa_cons (pv 1) pa_nil)))) pa_nil))))), ?_⟩
    refine ⟨_, rfl, v, d, 100, rfl, hv, fun H1 s1 => ⟨_, rfl, ?_⟩⟩
    cases hc : isLT d && decide ((mem d).length ≤ 100) with
    | false =>
      refine iteF ?_
      have e : okLoad d = false := by show (isLT d && (decide ((mem d).length ≤ 100) && _)) = _; rw [← Bool.and_assoc, hc]; rfl
      rw [e] at kk
      exact kk H1 s1
    | true =>
      obtain ⟨he, hl⟩ := Bool.and_eq_true_iff.mp hc
      have e : okLoad d = (mem d).all nmD := by show (isLT d && (decide ((mem d).length ≤ 100) && _)) = _; rw [← Bool.and_assoc, hc]; rfl
      rw [e] at kk
      have hl := of_decide_eq_true hl
      obtain ⟨a, xs, rfl, hs, hds⟩ := dp_seq hv he
      refine iteT (rd_all (fun s => hs (s1.trans s)) (dpAll_same s1 _ _ hds) (by omega) (fun x d2 H2 R hm hd2 k2 => ?_) (fun H' s => kk H' (s1.trans s)))
      have hz2 := (sz_mem hz).2 d2 hm
      exact ⟨_, rfl, x, d2, rfl, hd2, fun z ez => by subst ez; simp only [sz] at hz2; exact hz2, k2 H2 (Same.refl _)⟩
theorem scLds : FnScope ["loads", "load"] ["loads"] (defScope sLoads) := ⟨rfl, rfl, rfl, by decide +kernel, rfl, by decide +kernel, by decide +kernel⟩
theorem ok_loads {f fI fN : Addr} {fd fdI fdN : FuncData} {tk : Tok} (F : Fun K "_are_loads" "_are_loads" sLoads f fd) (B : Bts mg) (mA : mg "all" = none) (GI : FnOk P w K mg base CX0 1 fI fdI ["given", "most"] (spIsList K)) (mI : mg "_is_list" = some (.ref fI)) (kI : PySem.W.keepIn K (.ref fI) = true) (bI : Binds K fdI ["given", "most"] []) (GN : FnOk P w K mg base CX0 2 fN fdN ["load"] (spTell K 5 okLoad)) (mN : mg "_is_load" = some (.ref fN)) (kN : PySem.W.keepIn K (.ref fN) = true) (bN : Binds K fdN ["load"] [])
    (mM : mg "MOST_MEMBERS" = some (.int 1000 tk)) : FnOk P w K mg base CX0 3 f fd ["loads"] (spTell K 6 okLoads) := by
  refine F.ok scLds (fun vs H Q E h => ?_) (fun cdv A outer s H vs Q E hr h => ?_)
  · obtain ⟨v, d, rfl, _⟩ := h
    rfl
  · obtain ⟨v, d, rfl, hv, hz, kk⟩ := h
    have hrI : Room 1 _ := hr.mono (by decide)
    have hrN : Room 2 _ := hr.mono (by decide)
    refine ⟨_, pss_one (ps_ret (pe_and (pe_call GI hrI (by rfl) mI kI bI .nil pass0 (pa_cons (pv 0) (pa_cons (pe_glob (v := .int 1000) rfl mM ⟨tk, rfl⟩) pa_nil))) (pe_one (pe_callB (cr_all rfl) (by rfl) mA (by decide +kernel) (pa_cons (pe_lc (own := [("load", 1)]) (g := gName 1) (tt := tYes) rfl scLds.nd (pi_seq (pv 0)) (blkOk_by (N := ["loads", "load"]) (sc := defScope sLoads) (by decide +kernel)) (fun _ _ _ _ _ => (pg_name (i := 1) scLds.nd rfl (.inl rfl))) (fun _ _ _ _ _ => pts_nil) (fun _ _ _ _ _ => (pe_call GN hrN (by rfl) mN kN bN .nil pass0 (pa_cons (pv 1) pa_nil)))) pa_nil))))), ?_⟩
    refine ⟨_, rfl, v, d, 1000, rfl, hv, fun H1 s1 => ⟨_, rfl, ?_⟩⟩
    cases hc : isLT d && decide ((mem d).length ≤ 1000) with
    | false =>
      refine iteF ?_
      have e : okLoads d = false := by show (isLT d && (decide ((mem d).length ≤ 1000) && _)) = _; rw [← Bool.and_assoc, hc]; rfl
      rw [e] at kk
      exact kk H1 s1
    | true =>
      obtain ⟨he, hl⟩ := Bool.and_eq_true_iff.mp hc
      have e : okLoads d = (mem d).all okLoad := by show (isLT d && (decide ((mem d).length ≤ 1000) && _)) = _; rw [← Bool.and_assoc, hc]; rfl
      rw [e] at kk
      have hl := of_decide_eq_true hl
      obtain ⟨a, xs, rfl, hs, hds⟩ := dp_seq hv he
      refine iteT (rd_all (fun s => hs (s1.trans s)) (dpAll_same s1 _ _ hds) (by omega) (fun x d2 H2 R hm hd2 k2 => ?_) (fun H' s => kk H' (s1.trans s)))
      have hz2 := (sz_mem hz).2 d2 hm
      exact ⟨_, rfl, x, d2, rfl, hd2, hz2, k2⟩
end
/-! ### a static method called through its class; own == and str -/
structure SMet (K : PySem.W.Frag) (C : Addr) (m : Str) (p g : Addr) : Prop where
  at_ : PySem.W.findCls K (.ref C) (.type "type") m = some (.get (.builtin "staticmethod.__get__") (.ref p) .none (.ref C))
  rc : ∃ rest, PySem.W.recIn K p "staticmethod" = some (.ref g :: rest)
  kp : PySem.W.keepIn K (.ref g) = true
def tSMeth (C : Addr) (sp : Sp) (E : XK) (ta : TE) (t : TA) : TE := fun σ H Q => ta σ H fun x H1 => x = .ref C ∧ t σ H1 fun vs H2 => sp vs H2 Q E
section
variable {X : Cx} {CX : CXT} {k : Nat} {C p g : Addr} {sp : Sp} {E : XK} {o e : Expr} {es : List Expr} {m : Str} {pos apos : Pos} {ta : TE} {t : TA} {pl : Sem Bool}
theorem pe_smeth (he : PE X o ta) (r : ClX.CRead X.K C (.type "type")) (c : SMet X.K C m p g) (F : FnR X.prog X.w X.K X.mg X.base CX k g sp) (hr : Room k X.A) (hx : Passes CX X E) (ha : PA X (e :: es) t)
    (hst : starEach (e :: es) X.env = (false, eval e X.env) :: starEach es X.env := by rfl) (hpl : (backTo pos (starEach es X.env)).any (·.1) = false := by rfl)
    (ht : eval (.Call (.Attribute o m apos) (e :: es) [] pos) X.env = (do
      let ov ← eval o X.env
      standAt apos.atName
      let (f, first) ← holding [ov] (getMethod ov m pl)
      callWith pos f first (backTo pos (starEach (e :: es) X.env)) (backToKw pos (keywordEach [] X.env))) := by rfl) :
    PE X (.Call (.Attribute o m apos) (e :: es) [] pos) (tSMeth C sp E ta t) := by
  refine ⟨fun pins s σ H Q I h => ?_⟩
  refine PySem.W.methodCall_KW (pl := pl) (thn (he.run pins s σ H _ I h) fun u s1 ⟨x, H1, I1, rx, ex, q⟩ => ?_) ht
  subst ex
  obtain rfl : u = Value.ref C := rx
  obtain ⟨rest, hp⟩ := c.rc
  refine PySem.W.method_cls I1.kIn r.ga (PySem.W.cls_bind I1.kIn r.rd c.at_ (wpAny_call (PySem.W.sm_get I1.kIn hp (PySem.W.handed_on rfl ?_))))
  refine PySem.W.callWith_K (h₀ := X.base) (first := []) I.ok.mod.kin c.kp (thn (ha.run pos pins _ σ H1 _ (I1.tok _) q) fun us s2 ⟨vs, H2, I2, rv, q2⟩ => ⟨I2.kIn, ?_⟩) hst hpl
  exact wpAny_call (run_fnR F hr hx I2 rv q2)
/-- x == y by C's own __eq__, both of the class at C -/
def rEqOwn (C : Addr) (sp : Sp) (E : XK) : R2 := fun x y H Q => ∃ a dx fs b dy gs, x = .ref a ∧ y = .ref b ∧ H a = some (.ins C dx fs) ∧ H b = some (.ins C dy gs) ∧ sp [x, y] H Q E
theorem op_eqOwn (hs : PySem.W.findIn X.K (.ref C) "__eq__" = some (some (.ref g))) (hf : PySem.W.isFn X.K (.ref g) = true) (F : FnR X.prog X.w X.K X.mg X.base CX k g sp) (hr : Room k X.A) (hx : Passes CX X E) : OpR X (compareOp .Eq) (rEqOwn C sp E) := by
  intro pins s σ H x y v u Q I rx ry h
  obtain ⟨a, dx, fs, b, dy, gs, rfl, rfl, ha, hb, q⟩ := h
  cases (show v = Value.ref a from rx)
  cases (show u = Value.ref b from ry)
  obtain ⟨mA, O, _⟩ := ins_get I.hok ha
  obtain ⟨mB, O', _⟩ := ins_get I.hok hb
  obtain ⟨od, J, _⟩ := O.look
  obtain ⟨od', J', _⟩ := O'.look
  obtain ⟨m, hF⟩ := I.fr
  have hn : PySem.W.notFirst X.K C (.ref C) = true := by unfold PySem.W.notFirst; simp
  show wpAny _ _ (richCompare .Eq (.ref a) (.ref b)) _ _ _
  refine PySem.W.cmp_K (op := .Eq) (tb := .ref C) hr.units0 hF I.ok.mod.kin J J'.type hn hs hf ?_
  refine wpAny_mono (wpAny_call (run_fnR (us := [.ref a, .ref b]) (vs := [.ref a, .ref b]) F hr hx I (.cons rfl (.cons rfl .nil)) q)) (fun w s' z => ?_) fun _ _ x => x
  obtain ⟨z', H', I', rz, qz⟩ := z
  exact SlX.cmpback rz ⟨z', H', I', rz, qz⟩
/-- str(x) by C's own __str__ -/
def rStrOwn (C : Addr) (sp : Sp) (E : XK) : List V → Hp → VK → Prop := fun xs H Q => ∃ a dx fs, xs = [.ref a] ∧ H a = some (.ins C dx fs) ∧ sp [.ref a] H (fun z H' => ∃ x, z = .str x ∧ Q z H') E
theorem call_strOwn (hs : PySem.W.findIn X.K (.ref C) "__str__" = some (some (.ref g))) (hf : PySem.W.isFn X.K (.ref g) = true) (F : FnR X.prog X.w X.K X.mg X.base CX k g sp) (hr : Room (k + 2) X.A) (hx : Passes CX X E) : CallR X (.type "str") (rStrOwn C sp E) := by
  intro pins s σ H xs us Q I r h
  obtain ⟨a, dx, fs, rfl, ha, q⟩ := h
  obtain ⟨u, rfl, ru⟩ := r.one
  cases (show u = Value.ref a from ru)
  obtain ⟨mA, O, _⟩ := ins_get I.hok ha
  obtain ⟨od, J, _⟩ := O.look
  have hr2 : Room k X.A.in1.in1 := (show Room (k + 1) X.A.in1 from Room.in1 hr).in1
  refine PySem.W.kso_call hr2.units0 I.kIn J hs hf (wpAny_mono (wpAny_call (SlX.run_at (us := [.ref a]) (ws := [.ref a]) F hr2 I.env0.in1.in1 hx I (.cons rfl .nil) q)) (fun w s' z => ?_) fun _ _ x => x)
  obtain ⟨z', H', I', rz, x, ex, qz⟩ := z
  subst ex
  obtain ⟨t, rfl⟩ := (show ∃ t, w = Value.str x t from rz)
  exact ⟨.str x, H', I', ⟨t, rfl⟩, qz⟩
end
/-! ### len(x), x + y by the own methods of an instance's class -/
def rLenOwn (C : Addr) (sp : Sp) (E : XK) : List V → Hp → VK → Prop := fun xs H Q => ∃ a dx fs, xs = [.ref a] ∧ H a = some (.ins C dx fs) ∧ sp [.ref a] H (fun z H' => ∃ n : Int, z = .int n ∧ (0 ≤ n ∧ n < 2 ^ 63) ∧ Q (.int n) H') E
def rBinOwn (C : Addr) (sp : Sp) (E : XK) : R2 := fun x y H Q => ∃ a dx fs b dy gs, x = .ref a ∧ y = .ref b ∧ H a = some (.ins C dx fs) ∧ H b = some (.ins C dy gs) ∧ sp [x, y] H Q E
section
open PySem PySem.W PySem.Calls PyProof.Rows
theorem bin_same {prog : Program} {w : World} {A : Around} {E : Value → Shared → Prop} {s : Shared} {K : Frag} {x y C L f : Addr} {h₀ : Heap} {m : Str → Option Value} {ox oy : Obj} {od od' : Option Obj} {op : Operator} {Q : Value → Shared → Prop} (F : PyProof.Rows.Fr h₀ L s.heap m) (X₀ : K.In h₀) (I : InstAt s.heap x ox C od) (J : InstAt s.heap y oy C od') (hc : selfFirst K C = true)
    (hs : findIn K (.ref C) (PySem.dunder op.info.2) = some (some (.ref f))) (hf : isFn K (.ref f) = true)
    (h : wpAny (model prog w) A (call (.ref f) [.ref x, .ref y]) (PySem.W.CmpBack Q) E s) : wpAny (model prog w) A (binaryOp op (.ref x) (.ref y)) Q E s := by
  have X := X₀.keeps F.keep
  obtain ⟨cd, rest, hcd, hm⟩ := ksp_first hc
  rcases hi : op.info with ⟨sym, nm'⟩
  rw [hi] at hs
  dsimp only at hs
  have one := ksp_try X I hs hf h
  obtain ⟨hh, g, d, tt, os⟩ := s
  have L1 : Looks (model prog w) hh (typeOf (.ref x)) (.ref C) := I.type
  have L2 : Looks (model prog w) hh (typeOf (.ref y)) (.ref C) := J.type
  have L3 : Looks (model prog w) hh (fillsNumberSlot (.ref C) nm') true := fills_K X hcd hm hs
  have hne : (Value.ref C == Value.ref C) = true := by simp
  simp only [binaryOp, hi]
  refine wpAny_holding (wpAny_bind ?_)
  unfold binaryOp1
  refine wpAny_bind (L1.at (wpAny_bind (L2.at (wpAny_bind (L3.at ?_)))))
  simp only [hne, if_true]
  ksp_lk
  refine wpAny_mono one (fun r s' hr' => ?_) fun _ _ e => e
  obtain ⟨v, rfl, hq⟩ := hr'
  ksp_lk
  exact hq
end
section
variable {X : Cx} {CX : CXT} {k : Nat} {C g : Addr} {sp : Sp} {E : XK}
theorem call_lenOwn (hs : PySem.W.findIn X.K (.ref C) "__len__" = some (some (.ref g))) (hf : PySem.W.isFn X.K (.ref g) = true) (F : FnR X.prog X.w X.K X.mg X.base CX k g sp) (hr : Room (k + 1) X.A) (hx : Passes CX X E) : CallR X (.builtin "len") (rLenOwn C sp E) := by
  intro pins s σ H xs us Q I r h
  obtain ⟨a, dx, fs, rfl, ha, q⟩ := h
  obtain ⟨u, rfl, ru⟩ := r.one
  cases (show u = Value.ref a from ru)
  obtain ⟨mA, O, _⟩ := ins_get I.hok ha
  obtain ⟨od, J, _⟩ := O.look
  obtain ⟨m, hF⟩ := I.fr
  have hr2 : Room k X.A.in1 := hr.in1
  refine PySem.W.len_K hF I.ok.mod.kin J hs hf (wpAny_mono (wpAny_call (SlX.run_at (us := [.ref a]) (ws := [.ref a]) F hr2 I.env0.in1 hx I (.cons rfl .nil) q)) (fun w s' z => ?_) fun _ _ x => x)
  obtain ⟨z', H', I', rz, n, ez, hn, qz⟩ := z
  subst ez
  obtain ⟨t, rfl⟩ := (show ∃ t, w = Value.int n t from rz)
  exact ⟨hn, .int n, H', I'.tok _, ⟨_, rfl⟩, qz⟩
theorem op_binOwn {op : Operator} (hc : PySem.W.selfFirst X.K C = true) (hs : PySem.W.findIn X.K (.ref C) (PySem.dunder op.info.2) = some (some (.ref g))) (hf : PySem.W.isFn X.K (.ref g) = true) (F : FnR X.prog X.w X.K X.mg X.base CX k g sp) (hr : Room k X.A) (hx : Passes CX X E) : OpR X (binaryOp op) (rBinOwn C sp E) := by
  intro pins s σ H x y v u Q I rx ry h
  obtain ⟨a, dx, fs, b, dy, gs, rfl, rfl, ha, hb, q⟩ := h
  cases (show v = Value.ref a from rx)
  cases (show u = Value.ref b from ry)
  obtain ⟨mA, O, _⟩ := ins_get I.hok ha
  obtain ⟨mB, O', _⟩ := ins_get I.hok hb
  obtain ⟨od, J, _⟩ := O.look
  obtain ⟨od', J', _⟩ := O'.look
  obtain ⟨m, hF⟩ := I.fr
  refine bin_same hF I.ok.mod.kin J J' hc hs hf ?_
  refine wpAny_mono (wpAny_call (run_fnR (us := [.ref a, .ref b]) (vs := [.ref a, .ref b]) F hr hx I (.cons rfl (.cons rfl .nil)) q)) (fun w s' z => ?_) fun _ _ x => x
  obtain ⟨z', H', I', rz, qz⟩ := z
  exact SlX.cmpback rz ⟨z', H', I', rz, qz⟩
end
/-! ### repr of data: some text of bounded length, whatever is under way -/
/-- the text of x is some text, no longer than B; all objects stay -/
def Shows (prog : Program) (w : World) (g : Heap) (x : Value) (B c : Nat) : Prop :=
  ∀ (b : Nat), b + B ≤ sizeLine → ∀ (A : Around) (E : Value → Shared → Prop) (s : Shared) (Q : Str → Shared → Prop), A.units + c < cLine → (∀ d o, g.get? d = some o → s.heap.get? d = some o) →
    (∀ (m : Str) (h' : Heap) (tk : Nat), m.length ≤ B → (∀ d o, s.heap.get? d = some o → h'.get? d = some o) → Q m { s with heap := h', toks := tk }) → wpAny (model prog w) A (pyReprUnder b x) Q E s
inductive ShowsAll (prog : Program) (w : World) (g : Heap) (c : Nat) : List Value → List Nat → Prop
  | nil : ShowsAll prog w g c [] []
  | cons {x : Value} {B : Nat} {l : List Value} {Bs : List Nat} : Shows prog w g x B c → ShowsAll prog w g c l Bs → ShowsAll prog w g c (x :: l) (B :: Bs)
def pileN (Bs : List Nat) : Nat := (Bs.map (· + 2)).sum
theorem pileN_cons (B : Nat) (Bs : List Nat) : pileN (B :: Bs) = B + 2 + pileN Bs := by
  unfold pileN; rw [List.map_cons, List.sum_cons]
theorem showsAll_len {prog : Program} {w : World} {g : Heap} {c : Nat} : ∀ {l : List Value} {Bs : List Nat}, ShowsAll prog w g c l Bs → Bs.length = l.length
  | _, _, .nil => rfl
  | _, _, .cons _ t => by rw [List.length_cons, List.length_cons, showsAll_len t]
theorem Shows.of {prog : Program} {w : World} {g : Heap} {x : Value} {t : Str} {B c : Nat} (h : ReprIs prog w x t) (hl : t.length ≤ B) : Shows prog w g x B c :=
  fun b hb A E s Q _ _ hQ => h b (by omega) A E s Q fun tk => hQ t s.heap tk hl fun _ _ e => e
theorem tupText_len (ts : List Str) : (tupleText ts).length ≤ piled ts + 2 := PySem.fmt_text ts
theorem listText_len : ∀ ts : List Str, (listText ts).length ≤ piled ts + 2
  | [] => by decide +kernel
  | t :: r => by
    have h := textFrom_length_pos r 1 (("[" : Str) ++ (if (0 : Nat) > 0 then ", " else "" : String) ++ t) (Nat.succ_pos 0)
    have e : ((("[" : Str) ++ (if (0 : Nat) > 0 then ", " else "" : String) ++ t)).length = 1 + t.length := by
      rw [strLen_append, strLen_append]; rfl
    have e1 : (listText (t :: r)).length = (textFrom 0 "[" (t :: r)).length + 1 := by
      show (textFrom 0 "[" (t :: r) ++ "]").length = _
      rw [strLen_append]; rfl
    have e2 : (textFrom 0 "[" (t :: r)).length = (textFrom 1 (("[" : Str) ++ (if (0 : Nat) > 0 then ", " else "" : String) ++ t) r).length := rfl
    rw [e1, e2, h, e, piled_cons]; omega
section
variable {prog : Program} {w : World} {A : Around} {E : Value → Shared → Prop} {g : Heap} {c : Nat}
theorem fold_some : ∀ (l : List Value) (Bs : List Nat) (acc : Array Str) (n : Nat) (s : Shared) (Q : (Array Str × Nat) → Shared → Prop), ShowsAll prog w g c l Bs → n + pileN Bs ≤ sizeLine → A.units + c < cLine → (∀ d o, g.get? d = some o → s.heap.get? d = some o) →
    (∀ (ts : List Str) (h' : Heap) (tk : Nat), ts.length = l.length → piled ts ≤ pileN Bs → (∀ d o, s.heap.get? d = some o → h'.get? d = some o) → Q ⟨acc ++ ts.toArray, n + piled ts⟩ { s with heap := h', toks := tk }) →
    wpAny (model prog w) A (forIn l (⟨acc, n⟩ : (Array Str × Nat)) tupBody) Q E s := by
  intro l
  induction l with
  | nil =>
    intro Bs acc n s Q hT hn hu hk h
    have h0 := h [] s.heap s.toks rfl (Nat.zero_le _) fun _ _ e => e
    rw [List.forIn_nil]
    exact wpAny_pure (by simpa [piled] using h0)
  | cons x l ih =>
    intro Bs acc n s Q hT hn hu hk h
    cases hT with
    | @cons _ B _ Bs' hx hl =>
      rw [pileN_cons] at hn
      rw [List.forIn_cons]
      refine wpAny_bind (wpAny_bind (hx (n + 1) (by omega) _ _ s _ hu hk fun m h1 tk hm k1 => wpAny_pure ?_))
      refine ih Bs' (acc.push m) (n + (m.length + 2)) { s with heap := h1, toks := tk } Q hl (by omega) hu (fun d o e => k1 d o (hk d o e)) fun ts h2 tk2 el hp k2 => ?_
      have h3 := h (m :: ts) h2 tk2 (by rw [List.length_cons, List.length_cons, el]) (by rw [piled_cons, pileN_cons]; omega) fun d o e => k2 d o (k1 d o e)
      have e : n + piled (m :: ts) = n + (m.length + 2) + piled ts := by rw [piled_cons]; omega
      rw [e] at h3
      simpa using h3
theorem tupRest_some {s : Shared} {a : Addr} {o : Obj} {items : Array Value} {n b : Nat} {Bs : List Nat} {Q : Fin → Shared → Prop} (ha : s.heap.get? a = some o) (hd : o.data = .seq items n) (hT : ShowsAll prog w g c items.toList Bs) (hu : A.units + c < cLine)
    (hk : ∀ d o, g.get? d = some o → s.heap.get? d = some o) (hsz : b + pileN Bs + 2 ≤ sizeLine) (h : ∀ (m : Str) (h' : Heap) u tk, m.length ≤ pileN Bs + 2 → (∀ d o, s.heap.get? d = some o → h'.get? d = some o) → Q (.done (.ret (.str m u))) { s with heap := h', toks := tk }) :
    wpAny (model prog w) A (tupleReprRest b (.ref a)) Q E s := by
  unfold tupleReprRest Builtin.Tuple.tupleItemsOf
  refine wpAny_bind (wpAny_bind (wpAny_seqItems ha hd (wpAny_pure ?_)))
  rw [← Array.forIn_toList]
  refine wpAny_bind (fold_some _ Bs _ _ s _ hT (by omega) hu hk fun ts h' tk el hp k' => ?_)
  have et := tupText_len ts
  have hlen : ts.length = items.size := by simpa using el
  have hz : (tupleText ts).length ≤ sizeLine := by omega
  refine wpAny_bind (wpAny_mkStr (wpAny_pure ?_) (by simpa [tupleText, hlen] using hz))
  have h1 := h (tupleText ts) h' tk (tk + 1) (by omega) k'
  simpa [tupleText, hlen] using h1
theorem tup_some {s : Shared} {a : Addr} {o : Obj} {items : Array Value} {n b : Nat} {Bs : List Nat} {Q : Fin → Shared → Prop} (ha : s.heap.get? a = some o) (hd : o.data = .seq items n) (hT : ShowsAll prog w g c items.toList Bs) (hu : A.units + c < cLine)
    (hk : ∀ d o, g.get? d = some o → s.heap.get? d = some o) (hsz : b + pileN Bs + 5 ≤ sizeLine) (h : ∀ (m : Str) (h' : Heap) u tk, m.length ≤ pileN Bs + 5 → (∀ d o, s.heap.get? d = some o → h'.get? d = some o) → Q (.done (.ret (.str m u))) { s with heap := h', toks := tk }) :
    wpAny (model prog w) A (Builtin.tupleReprAt b ⟨[.ref a], []⟩) Q E s := by
  rw [tuple_repr_tree]
  refine wpAny_bind (PySem.fmt_underWay fun t => ?_)
  cases t with
  | true =>
    refine PySem.W.KFB.if_so rfl ?_
    refine wpAny_bind (wpAny_rule ?_)
    refine wpAny_bind (wpAny_mkStr (wpAny_pure ?_) (by decide +kernel))
    exact h "(...)" s.heap _ _ (Nat.le_trans PySem.fmt_way (Nat.le_add_left _ _)) fun _ _ e => e
  | false =>
    refine PySem.W.KFB.if_not rfl ?_
    exact tupRest_some ha hd hT hu hk (by omega) fun m h' u tk hm k' => h m h' u tk (by omega) k'
theorem Shows.tuple {a : Addr} {o : Obj} {items : Array Value} {n : Nat} {Bs : List Nat} (ha : g.get? a = some o) (hc : o.cls = .type "tuple") (hd : o.data = .seq items n) (hT : ShowsAll prog w g c items.toList Bs) : Shows prog w g (.ref a) (pileN Bs + 5) (c + 1) := fun b hb A E s Q hu hk hQ => by
  refine wpAny_pyReprUnder_ref (by omega) (wpAny_pyReprObjUnder_twin (twin := "tuple.__repr__.under") ⟨o, hk _ _ ha, hc⟩ F.slot_tuple_repr rfl (by omega) ?_)
  refine call_twin_own (F.quiet_tuple_repr_under _) F.entry_tuple_repr_under F.check_tuple_repr_under ⟨o, hk _ _ ha, hc⟩ F.slot_tuple_repr (F.args_tuple_repr_1 _) (wpOwn_of_wpAny ?_)
  refine tup_some (hk _ _ ha) hd hT ?_ hk (by omega) fun m h' u tk hm k' => ?_
  · have e : (A.under (Code.builtin "tuple.__repr__.under" { pos := [Value.ref a, rawInt ↑b] })).units = A.units + 1 := by first | rfl | simp [Around.under, Code.cUnits, Code.frames, Code.isFrame]
    rw [e]; omega
  · exact ⟨⟨_, _, rfl⟩, _, _, rfl, hQ m h' tk hm k'⟩
theorem list_head {M : Model} {s : Shared} {Q : Fin → Shared → Prop} {a : Addr} {o : Obj} {items : Array Value} {n b : Nat} (hget : s.heap.get? a = some o) (hd : o.data = .seq items n)
    (h0 : Q (.done (.ret (.str "[]" s.toks))) { s with toks := s.toks + 1 }) (h1 : Q (.done (.ret (.str "[...]" s.toks))) { s with toks := s.toks + 1 })
    (h2 : wpAny M A (do again (.builtin "list.__repr__.loop" ⟨[.ref a, rawInt 0, ← newList [], rawInt b], []⟩)) Q E s) : wpAny M A (Builtin.listReprAt b ⟨[.ref a], []⟩) Q E s := by
  intro Γ p hΓ
  have h3 := h2 Γ p hΓ
  unfold Builtin.listReprAt
  simp [slotArgs, Builtin.List.listItems, seqItems?, Sem.wp_load_of (h := hget), hd, stack]
  split
  · simp [rule, retStr, ret]
    exact h0
  · simp
    show Sem.wp M Γ (if (Γ.below.any _) = true then _ else _) _ _ p s
    generalize (Γ.below.any _) = z
    cases z with
    | true =>
      rw [if_pos rfl]
      simp [rule, retStr, ret]
      exact h1
    | false =>
      rw [if_neg (by decide)]
      exact h3
def atN (Bs : List Nat) : Nat := pileN Bs
theorem pileN_drop {Bs : List Nat} {i B : Nat} (h : Bs[i]? = some B) : pileN (Bs.drop i) = B + 2 + pileN (Bs.drop (i + 1)) := by
  obtain ⟨hi, e⟩ := List.getElem?_eq_some_iff.mp h
  rw [List.drop_eq_getElem_cons hi, e, pileN_cons]
theorem showsAll_at {prog : Program} {w : World} {g : Heap} {c : Nat} : ∀ {l : List Value} {Bs : List Nat} {i : Nat} {x : Value}, ShowsAll prog w g c l Bs → l[i]? = some x → ∃ B, Bs[i]? = some B ∧ Shows prog w g x B c
  | _, _, _, _, .nil, e => by simp at e
  | _, _, 0, _, .cons h _, e => by
    obtain rfl := Option.some.inj e
    exact ⟨_, rfl, h⟩
  | _, _, i + 1, _, .cons _ t, e => showsAll_at (i := i) t e
theorem loop_some {R : Result → Shared → Prop} {a P : Addr} {b : Nat} (hne : a ≠ P) {items : Array Value} {Bs : List Nat} (hT : ShowsAll prog w g c items.toList Bs) (hu : A.units + 1 + c < cLine) (hgP : ∀ o, g.get? P = some o → False) (hsz : b + pileN Bs + 5 ≤ sizeLine) (hit : items.size ≤ 100000) :
    ∀ (k i : Nat) (s : Shared) (oa : Obj) (na : Nat) (acc : Array Value) (cc : Nat) (done : List (Str × Tok)), items.size - i = k → i ≤ items.size → (∀ d o, g.get? d = some o → s.heap.get? d = some o) →
    s.heap.get? a = some oa → oa.data = .seq items na →
    s.heap.get? P = some { cls := .type "list", dict := none, data := .seq acc cc, slots := #[] } → acc.toList = strValues done → done.length = i → piled (done.map (·.1)) + pileN (Bs.drop i) ≤ pileN Bs →
    (∀ (m : Str) h' u tk, m.length ≤ pileN Bs + 5 → (∀ d o, d ≠ P → s.heap.get? d = some o → h'.get? d = some o) → R (.ok (.ret (.str m u))) { s with heap := h', toks := tk }) →
    codeAny (model prog w) A (.builtin "list.__repr__.loop" ⟨[.ref a, rawInt i, .ref P, rawInt ((b + piled (done.map (·.1)) : Nat) : Int)], []⟩) R s := by
  intro k
  induction k with
  | zero =>
    intro i s oa na acc cc done hk hi hg ha hda hP hacc hdone hpile hR
    have hin : i = items.size := by omega
    refine codeAny_builtin F.entry_list_repr_loop ?_
    show wpAny _ _ (Builtin.«list.__repr__.loop» ⟨[.ref a, .int i 0, .ref P, .int ((b + piled (done.map (·.1)) : Nat) : Int) 0], []⟩) _ _ s
    rw [repr_loop_tree]
    refine wpAny_bind (wpAny_listItems ha hda ?_)
    have hnone : items[(i : Int).toNat]? = none := by simp [hin]
    simp only [hnone]
    unfold reprEnd
    refine wpAny_bind (wpAny_listItems hP rfl ?_)
    rw [hacc, repr_fold]
    refine wpAny_bind (wpAny_pure ?_)
    have hl := listText_len (done.map (·.1))
    refine wpAny_bind (wpAny_mkStr (wpAny_pure ?_) (show (listText (done.map (·.1))).length ≤ sizeLine by omega))
    exact hR (listText (done.map (·.1))) s.heap _ _ (by omega) fun _ _ _ e => e
  | succ k ih =>
    intro i s oa na acc cc done hk hi hg ha hda hP hacc hdone hpile hR
    have hlt : i < items.size := by omega
    obtain ⟨B, hB, hrep⟩ := showsAll_at (i := i) (x := items[i]) hT (by simp [hlt])
    have hp1 := pileN_drop hB
    refine codeAny_builtin F.entry_list_repr_loop ?_
    show wpAny _ _ (Builtin.«list.__repr__.loop» ⟨[.ref a, .int i 0, .ref P, .int ((b + piled (done.map (·.1)) : Nat) : Int) 0], []⟩) _ _ s
    rw [repr_loop_tree]
    refine wpAny_bind (wpAny_listItems ha hda ?_)
    have hsome : items[(i : Int).toNat]? = some items[i] := by simp [hlt]
    simp only [hsome]
    rw [Int.toNat_natCast]
    have hun : (A.under (.builtin "list.__repr__.loop" ⟨[.ref a, rawInt i, .ref P, rawInt ((b + piled (done.map (·.1)) : Nat) : Int)], []⟩)).units = A.units + 1 := by first | rfl | simp [Around.under, Code.cUnits, Code.frames, Code.isFrame]
    refine wpAny_bind (wpAny_holding (hrep (b + piled (done.map (·.1)) + 1) (by omega) _ _ s _ (by first | (show A.units + 1 + c < cLine; omega) | (show A.units + c < cLine; omega)) hg fun m h1 tk hm k1 => ?_))
    refine wpAny_bind (wpAny_mkStr ?_ (by omega))
    refine wpAny_bind ?_
    show wpAny _ _ (updateSeq P _) _ _ _
    have hasz : acc.size ≤ sizeLine := by
      have e1 : acc.toList.length = acc.size := by simp
      have e2 : (strValues done).length = done.length := by simp [strValues]
      have e3 : (100000 : Nat) ≤ sizeLine := by decide
      rw [hacc] at e1; omega
    have hP1 := k1 _ _ hP
    refine wpAny_updateSeq hP1 rfl (wpAny_pure ⟨F.quiet_list_repr_loop _, ?_⟩) hasz
    have e1 : ((i : Int) + 1) = ((i + 1 : Nat) : Int) := by omega
    have e2 : b + piled (done.map (·.1)) + (m.length + 2) = b + piled ((done ++ [(m, tk)]).map (·.1)) := by
      rw [List.map_append, piled_append]
      show _ = b + (_ + piled [m])
      rw [piled_cons]; show _ = b + (_ + (m.length + 2 + 0)); omega
    rw [e1, e2]
    have e4 : piled ((done ++ [(m, tk)]).map (·.1)) = piled (done.map (·.1)) + (m.length + 2) := by omega
    refine ih (i + 1) _ oa na (acc.push (.str m tk)) _ (done ++ [(m, tk)]) (by omega) hlt (fun d o e => ?_) ((Heap.get?_update_other _ _ (fun h : P = a => hne h.symm)).trans (k1 _ _ ha)) hda (Heap.get?_update_self _ hP1 rfl) (by simp [hacc, strValues]) (by simp [hdone]) (by omega) fun m2 h' u tk' hm2 hh => ?_
    · exact (Heap.get?_update_other _ _ (fun h : P = d => by rw [← h] at e; exact hgP o e)).trans (k1 _ _ (hg _ _ e))
    · exact hR m2 h' u tk' hm2 fun d o hd e => hh d o hd ((Heap.get?_update_other _ _ (fun h : P = d => hd h.symm)).trans (k1 _ _ e))
theorem list_fin {R : Result → Shared → Prop} {s : Shared} {a : Addr} {oa : Obj} {items : Array Value} {na b : Nat} {Bs : List Nat} (ha : s.heap.get? a = some oa) (hda : oa.data = .seq items na) (hT : ShowsAll prog w g c items.toList Bs) (hu : A.units + 1 + c < cLine)
    (hg : ∀ d o, g.get? d = some o → s.heap.get? d = some o) (hsz : b + pileN Bs + 5 ≤ sizeLine) (hit : items.size ≤ 100000)
    (hR : ∀ (m : Str) h' u tk, m.length ≤ pileN Bs + 5 → (∀ d o, s.heap.get? d = some o → h'.get? d = some o) → R (.ok (.ret (.str m u))) { s with heap := h', toks := tk }) :
    wpAny (model prog w) A.in1 (Builtin.listReprAt b ⟨[.ref a], []⟩)
      (fun fin s' => match fin with | .done f => R (.ok f) s' | .again c' => c'.quiet = true ∧ codeAny (model prog w) A c' R s') (fun e s' => R (.error e) s') s := by
  have l1 : (("[]" : String) : Str).length ≤ pileN Bs + 5 := Nat.le_trans (by decide +kernel : (("[]" : String) : Str).length ≤ 5) (Nat.le_add_left _ _)
  have l2 : (("[...]" : String) : Str).length ≤ pileN Bs + 5 := Nat.le_trans (by decide +kernel : (("[...]" : String) : Str).length ≤ 5) (Nat.le_add_left _ _)
  refine list_head ha hda (hR "[]" s.heap _ _ l1 fun _ _ e => e) (hR "[...]" s.heap _ _ l2 fun _ _ e => e) ?_
  refine wpAny_bind (m := newList []) (wpAny_newObj_type ?_)
  refine wpAny_pure ⟨F.quiet_list_repr_loop _, ?_⟩
  have e0 : (b : Int) = ((b + piled ((([] : List (Str × Tok))).map (·.1)) : Nat) : Int) := by simp [piled]
  rw [e0]
  refine loop_some (P := s.heap.objs.size) (Nat.ne_of_lt (Heap.lt_size ha)) hT hu (fun o e => absurd (Heap.lt_size (hg _ _ e)) (Nat.lt_irrefl _)) hsz hit items.size 0 _ oa na #[] _ [] (by omega) (Nat.zero_le _) (fun d o e => Heap.get?_push_of_some _ (hg d o e)) (Heap.get?_push_of_some _ ha) hda
    (Heap.get?_push_size _ rfl) rfl rfl (by simp [piled]) fun m h' u tk hm hk => ?_
  exact hR m h' u tk hm fun d o e => hk d o (Nat.ne_of_lt (Heap.lt_size e)) (Heap.get?_push_of_some _ e)
theorem Shows.list {a : Addr} {o : Obj} {items : Array Value} {n : Nat} {Bs : List Nat} (ha : g.get? a = some o) (hc : o.cls = .type "list") (hd : o.data = .seq items n) (hT : ShowsAll prog w g c items.toList Bs) (hit : items.size ≤ 100000) : Shows prog w g (.ref a) (pileN Bs + 5) (c + 3) := fun b hb A E s Q hu hk hQ => by
  refine wpAny_pyReprUnder_ref (by omega) (wpAny_pyReprObjUnder_twin (twin := "list.__repr__.under") ⟨o, hk _ _ ha, hc⟩ F.slot_list_repr.toG rfl (by omega) ?_)
  refine call_twin_plain F.plain_list_repr_under F.entry_list_repr_under F.check_list_repr_under ⟨o, hk _ _ ha, hc⟩ F.slot_list_repr.toG (F.args_list_repr_1 _) ?_
  refine list_fin (R := callEnd (fun v s' => (∃ x u, v = .str x u) ∧ ∃ x u, v = .str x u ∧ Q x s') E) (hk _ _ ha) hd hT (by omega) hk (by omega) hit fun m h' u tk hm k' => ?_
  exact ⟨⟨_, _, rfl⟩, _, _, rfl, hQ m h' tk hm k'⟩
end
/-- small data -/
def sm : Nat → PyData → Prop
  | 0, _ => False
  | _ + 1, .none => True
  | _ + 1, .bool _ => True
  | _ + 1, .int i => i.natAbs < 10 ^ 100
  | _ + 1, .str x => x.length ≤ 100 ∧ ∀ c ∈ x.cps.toList, c < 1000
  | m + 1, .list xs => xs.length ≤ 12 ∧ ∀ x ∈ xs, sm m x
  | m + 1, .tuple xs => xs.length ≤ 12 ∧ ∀ x ∈ xs, sm m x
  | _ + 1, .dict _ => False
def bN : Nat → Nat
  | 0 => 2000
  | m + 1 => 12 * (bN m + 2) + 5
theorem bN_ge : ∀ m, 2000 ≤ bN m
  | 0 => Nat.le_refl _
  | m + 1 => by have := bN_ge m; simp only [bN]; omega
theorem log_small {i : Int} (h : i.natAbs < 10 ^ 100) : i.natAbs.log2 < 1920 := by
  refine PySem.Flt.log2_lt_of (by decide) (Nat.lt_of_lt_of_le h ?_)
  decide +kernel
theorem pile_const {B : Nat} : ∀ {n : Nat}, n ≤ 12 → pileN (List.replicate n B) ≤ 12 * (B + 2) := by
  intro n h
  have e : pileN (List.replicate n B) = n * (B + 2) := by
    unfold pileN
    rw [List.map_replicate, List.sum_replicate_nat]
  rw [e]
  exact Nat.mul_le_mul_right _ h
theorem Shows.mono {prog : Program} {w : World} {g : Heap} {x : Value} {B C c d : Nat} (h : Shows prog w g x B c) (hb : B ≤ C) (hc : c ≤ d) : Shows prog w g x C d :=
  fun b hb' A E s Q hu hk hQ => h b (by omega) A E s Q (by omega) hk fun m h' tk hm => hQ m h' tk (by omega)
section
variable {X : Cx} {pins : List (Addr × Obj)} {σ : St} {H : Hp} {s : Shared}
theorem shows_all {B c : Nat} : ∀ {vs : List V} {us : List Value} {ds : List PyData}, Vals vs us → DpAll X.K H vs ds → (∀ d ∈ ds, ∀ v u, Dp X.K H v d → RelV v u → Shows X.prog X.w s.heap u B c) → ShowsAll X.prog X.w s.heap c us (List.replicate ds.length B)
  | _, _, _, .nil, .nil, _ => .nil
  | _, _, _, .cons r t, .cons h k, hd => .cons (hd _ List.mem_cons_self _ _ h r) (shows_all t k fun d hm => hd d (List.mem_cons_of_mem _ hm))
theorem shows_leaf (I : Inv X pins σ H s) (m : Nat) : ∀ (d : PyData) (v : V) (u : Value), Dp X.K H v d → RelV v u → sm (m + 1) d → (∀ xs, d ≠ .list xs) → (∀ xs, d ≠ .tuple xs) → Shows X.prog X.w s.heap u 2000 0 := by
  intro d v u hv r hd n1 n2
  cases hv with
  | non =>
    obtain rfl : u = .none := r
    exact .of ReprIs.none (by decide +kernel)
  | bl b =>
    obtain rfl : u = .bool b := r
    exact .of (ReprIs.bool b) (by cases b <;> decide +kernel)
  | int i =>
    obtain ⟨t, rfl⟩ := r
    simp only [sm] at hd
    exact .of (ReprIs.int t (log_small hd)) (Nat.le_trans (PyProof.Rows.int_text_len_1921 (log_small hd)) (by decide))
  | str x =>
    obtain ⟨t, rfl⟩ := r
    simp only [sm] at hd
    have hl := StrLaws.reprText_len x fun c hc => Nat.lt_trans (hd.2 c hc) (by decide)
    exact .of (ReprIs.str x t (by have : (2000 : Nat) ≤ sizeLine := by decide
                                  omega)) (by omega)
  | lst h1 h2 => exact absurd rfl (n1 _)
  | tup h1 h2 => exact absurd rfl (n2 _)
theorem shows_lst (I : Inv X pins σ H s) {B c : Nat} {v : V} {u : Value} {ds : List PyData} (hv : Dp X.K H v (.list ds)) (r : RelV v u) (hl : ds.length ≤ 12) (hd : ∀ d ∈ ds, ∀ v u, Dp X.K H v d → RelV v u → Shows X.prog X.w s.heap u B c) :
    Shows X.prog X.w s.heap u (12 * (B + 2) + 5) (c + 3) := by
  obtain ⟨a, xs, rfl, h1, h2⟩ := dp_lst hv
  obtain rfl : u = .ref a := r
  obtain ⟨its, rv, ⟨o, n, ho, hc, _, hdt⟩, hz⟩ := I.list h1
  have e1 := dpAll_len h2
  have e2 := rv.length
  refine (Shows.list ho hc hdt (shows_all rv h2 hd) (by rw [List.size_toArray]; omega)).mono ?_ (Nat.le_refl _)
  have := pile_const (B := B) hl
  omega
theorem shows_tup (I : Inv X pins σ H s) {B c : Nat} {v : V} {u : Value} {ds : List PyData} (hv : Dp X.K H v (.tuple ds)) (r : RelV v u) (hl : ds.length ≤ 12) (hd : ∀ d ∈ ds, ∀ v u, Dp X.K H v d → RelV v u → Shows X.prog X.w s.heap u B c) :
    Shows X.prog X.w s.heap u (12 * (B + 2) + 5) (c + 3) := by
  obtain ⟨a, xs, rfl, h1, h2⟩ := dp_tup hv
  obtain rfl : u = .ref a := r
  obtain ⟨its, rv, ⟨o, ho, hc, n, hdt⟩, hz⟩ := I.tuple h1
  refine (Shows.tuple ho hc hdt (shows_all rv h2 hd)).mono ?_ (by omega)
  have := pile_const (B := B) hl
  omega
theorem shows_sm (I : Inv X pins σ H s) : ∀ (m : Nat) (d : PyData) (v : V) (u : Value), Dp X.K H v d → RelV v u → sm (m + 1) d → Shows X.prog X.w s.heap u (bN (m + 1)) (3 * m + 3) := by
  intro m
  induction m with
  | zero =>
    intro d v u hv r hd
    cases d with
    | list ds =>
      simp only [sm] at hd
      exact (shows_lst (B := 2000) (c := 0) I hv r hd.1 fun d hm => absurd (hd.2 d hm) (by simp)).mono (Nat.le_refl _) (by omega)
    | tuple ds =>
      simp only [sm] at hd
      exact (shows_tup (B := 2000) (c := 0) I hv r hd.1 fun d hm => absurd (hd.2 d hm) (by simp)).mono (Nat.le_refl _) (by omega)
    | dict ds => simp [sm] at hd
    | _ => exact (shows_leaf I 0 _ v u hv r hd (fun _ z => by cases z) (fun _ z => by cases z)).mono (bN_ge 1) (by omega)
  | succ m ih =>
    intro d v u hv r hd
    cases d with
    | list ds =>
      simp only [sm] at hd
      exact (shows_lst I hv r hd.1 fun d hm v u h1 h2 => ih d v u h1 h2 (hd.2 d hm)).mono (Nat.le_refl _) (by omega)
    | tuple ds =>
      simp only [sm] at hd
      exact (shows_tup I hv r hd.1 fun d hm v u h1 h2 => ih d v u h1 h2 (hd.2 d hm)).mono (Nat.le_refl _) (by omega)
    | dict ds => simp [sm] at hd
    | _ => exact (shows_leaf I (m + 1) _ v u hv r hd (fun _ z => by cases z) (fun _ z => by cases z)).mono (bN_ge _) (by omega)
/-- repr itself, for an f-string -/
theorem repr_obj (I : Inv X pins σ H s) {d : PyData} {v : V} {u : Value} {E : Value → Shared → Prop} {Q : Value → Shared → Prop} {A : Around} (hv : Dp X.K H v d) (r : RelV v u) (hd : sm 3 d) (hu : A.units + 40 < cLine)
    (hQ : ∀ (m : Str) (h' : Heap) u tk, m.length ≤ 3500000 → (∀ d o, s.heap.get? d = some o → h'.get? d = some o) → Q (.str m u) { s with heap := h', toks := tk }) : wpAny (model X.prog X.w) A (pyReprObj u) Q E s := by
  have line : (3500100 : Nat) ≤ sizeLine := by decide
  have b2 : 12 * (bN 2 + 2) + 5 ≤ 3500000 := by decide
  cases d with
  | none =>
    cases hv
    obtain rfl : u = .none := r
    exact pyReprObj_none (hQ "None" s.heap _ _ (Nat.le_trans (by decide +kernel : _ ≤ 10) (by decide)) fun _ _ e => e)
  | bool b =>
    cases hv
    obtain rfl : u = .bool b := r
    exact pyReprObj_bool (hQ _ s.heap _ _ (Nat.le_trans (by cases b <;> decide +kernel : _ ≤ 10) (by decide)) fun _ _ e => e)
  | int i =>
    cases hv
    obtain ⟨t, rfl⟩ := r
    simp only [sm] at hd
    exact pyReprObj_int (log_small hd) (hQ _ s.heap _ _ (Nat.le_trans (PyProof.Rows.int_text_len_1921 (log_small hd)) (by decide)) fun _ _ e => e)
  | str x =>
    cases hv
    obtain ⟨t, rfl⟩ := r
    simp only [sm] at hd
    have hl := StrLaws.reprText_len x fun c hc => Nat.lt_trans (hd.2 c hc) (by decide)
    exact pyReprObj_str (hQ _ s.heap _ _ (by omega) fun _ _ e => e) (by omega)
  | dict kvs => simp [sm] at hd
  | list ds =>
    simp only [sm] at hd
    obtain ⟨a, xs, rfl, h1, h2⟩ := dp_lst hv
    obtain rfl : u = .ref a := r
    obtain ⟨its, rv, ⟨o, n, ho, hc, _, hdt⟩, hz⟩ := I.list h1
    have hT : s.TypeIs (.ref a) "list" := ⟨o, ho, hc⟩
    have e1 := dpAll_len h2
    have e2 := rv.length
    have all := shows_all (B := bN 2) (c := 6) rv h2 fun d hm v u h1 h2 => shows_sm I 1 d v u h1 h2 (hd.2 d hm)
    have hp := pile_const (B := bN 2) hd.1
    unfold pyReprObj
    refine wpAny_bind (wpAny_cRoomFor (by omega) ?_)
    refine wpAny_bind (wpAny_specialOf (name := Str.ofString "__repr__") hT F.slot_list_repr.lookup ?_)
    refine wpAny_bind (m := callSpecialIfBound? (.ref a) (Str.ofString "__repr__")) (wpAny_callSpecialIfBound?_slot (name := Str.ofString "__repr__") hT F.slot_list_repr ?_)
    refine wpAny_call (codeAny_call_builtin F.slot_list_repr.plain F.entry_list_repr (F.slot_list_repr.check _ _ _ _ _ _ _ _ hT (F.args_list_repr_1 _) ?_))
    refine list_fin (b := 0) (g := s.heap) (c := 6) (R := callEnd _ E) ho hdt all (by omega) (fun _ _ e => e) (by omega) (by rw [List.size_toArray]; omega) fun m h' u tk hm k' => ?_
    exact wpAny_bind (wpAny_isInstance (T := "str") (b := true) rfl isSubtype_str_str (wpAny_pure (hQ m h' u tk (by omega) k')))
  | tuple ds =>
    simp only [sm] at hd
    obtain ⟨a, xs, rfl, h1, h2⟩ := dp_tup hv
    obtain rfl : u = .ref a := r
    obtain ⟨its, rv, ⟨o, ho, hc, n, hdt⟩, hz⟩ := I.tuple h1
    have hT : s.TypeIs (.ref a) "tuple" := ⟨o, ho, hc⟩
    have all := shows_all (B := bN 2) (c := 6) rv h2 fun d hm v u h1 h2 => shows_sm I 1 d v u h1 h2 (hd.2 d hm)
    have hp := pile_const (B := bN 2) hd.1
    unfold pyReprObj
    refine wpAny_bind (wpAny_cRoomFor (by omega) ?_)
    refine wpAny_bind (wpAny_specialOf (name := Str.ofString "__repr__") hT F.slot_tuple_repr.lookup ?_)
    refine wpAny_bind (m := callSpecialIfBound? (.ref a) (Str.ofString "__repr__")) (wpAny_callSpecialIfBound?_slotG (name := Str.ofString "__repr__") hT F.slot_tuple_repr ?_)
    refine wpAny_call (codeAny_call_builtin_own (Code.quiet_builtin _ (by decide +kernel)) F.entry_tuple_repr (F.slot_tuple_repr.check _ _ _ _ _ _ _ _ hT (F.args_tuple_repr_1 _) (wpOwn_of_wpAny ?_)))
    refine tup_some (b := 0) (g := s.heap) (c := 6) ho hdt all ?_ (fun _ _ e => e) (by omega) fun m h' u tk hm k' => ?_
    · have e : (A.under (Code.builtin "tuple.__repr__" { pos := [Value.ref a] })).units = A.units + 1 := by first | rfl | simp [Around.under, Code.cUnits, Code.frames, Code.isFrame]
      rw [e]; omega
    · exact wpAny_bind (wpAny_isInstance (T := "str") (b := true) rfl isSubtype_str_str (wpAny_pure (hQ m h' u tk (by omega) k')))
/-- {x!r} of small data: some text -/
def tShow (K : PySem.W.Frag) (te : TE) : TE := fun σ H Q => te σ H fun x H1 => ∃ d, Dp K H1 x d ∧ sm 3 d ∧ ∀ m : Str, m.length ≤ 3500000 → Q (.str m) H1
theorem pe_show {k : Nat} {e : Expr} {te : TE} {pos : Pos} (hr : Room k X.A) (he : PE X e te) : PE X (.FormattedValue e 114 none pos) (tShow X.K te) := by
  refine ⟨fun pins s σ H Q I h => ?_⟩
  have hu := hr.units
  refine wpAny_FormattedValue_repr (thn (he.run pins s σ H _ I h) fun v s1 hv => ?_)
  obtain ⟨x, H1, I1, r1, d, hd, hs, q⟩ := hv
  refine repr_obj I1 hd r1 hs (by omega) fun m h' u tk hm k' => ?_
  have line : (3500100 : Nat) ≤ sizeLine := by decide
  exact wpAny_formatField_str ⟨.str m, H1, I1.kept (t' := tk) k', ⟨_, rfl⟩, q m hm⟩ ⟨.str m, H1, (I1.kept (t' := tk) k').tok _, ⟨_, rfl⟩, q m hm⟩ (by omega)
end
/-! ### the errors' __init__: super().__init__(f"..{x!r}"); self.x = x -/
def eArgs (x : Str) (p1 p2 : Pos) : Arguments := { posonlyargs := [], args := [{ arg := "self", annotation := none, pos := p1 }, { arg := x, annotation := none, pos := p2 }], vararg := none, kwonlyargs := [], kw_defaults := [], kwarg := none, defaults := [] }
def eSup (x txt : Str) (j : Nat) (p0 p1 p2 p3 p4 p5 p6 p7 : Pos) : Expr := .Call (.Attribute (.Call (.Name "super" p0) [] [] p1) "__init__" p2) [.JoinedStr [.Constant (.str txt) j p3, .FormattedValue (.Name x p4) 114 none p5] p6] [] p7
def eBody (x txt : Str) (j : Nat) (p0 p1 p2 p3 p4 p5 p6 p7 p8 q1 q2 q3 q4 : Pos) : List Stmt := [.Expr (eSup x txt j p0 p1 p2 p3 p4 p5 p6 p7) p8, .Assign [.Attribute (.Name "self" q1) x q2] (.Name x q3) q4]
def eScope (x : Str) (mr : List (Str × Const)) : Scope := { kind := .function, names := [("self", .local), (x, .local), ("__class__", .free), ("super", .globalImplicit)], isGenerator := false, isCoroutine := false, more := mr }
/-- how the call of super().__init__ is evaluated -/
def SupEv (x txt : Str) (j : Nat) (p0 p1 p2 p3 p4 p5 p6 p7 : Pos) : Prop := ∀ env : Env, ∃ pl : Sem Bool, eval (eSup x txt j p0 p1 p2 p3 p4 p5 p6 p7) env = (do
  let ov ← attributeBase (.Call (.Name "super" p0) [] [] p1) "__init__" env (eval (.Call (.Name "super" p0) [] [] p1) env)
  standAt p2.atName
  let (f, first) ← holding [ov] (getMethod ov "__init__" pl)
  callWith p7 f first (backTo p7 (starEach [.JoinedStr [.Constant (.str txt) j p3, .FormattedValue (.Name x p4) 114 none p5] p6] env)) [])
structure NmOk (x : Str) : Prop where
  n1 : (x == ("self" : Str)) = false
  n2 : (x == ("__class__" : Str)) = false
  n3 : (x == ("super" : Str)) = false
  n4 : (x == ("__debug__" : Str)) = false
  n5 : (x == ("__classdict__" : Str)) = false
theorem bne_symm {x y : Str} (h : (x == y) = false) : (y == x) = false := by
  have := beq_eq_false_iff_ne.mp h
  exact beq_eq_false_iff_ne.mpr (Ne.symm this)
theorem NmOk.loc {x : Str} (n : NmOk x) (mr : List (Str × Const)) : (eScope x mr).names.lookup x = some .local := by
  show List.lookup x [(("self" : Str), NameKind.local), (x, .local), ("__class__", .free), ("super", .globalImplicit)] = _
  simp only [List.lookup, n.n1, beq_self_eq_true]
/-- what the written part says of such a class at C, its __init__ at fI, the cell of __class__ at cc -/
structure ErrIn (P : Program) (K : PySem.W.Frag) (mg : Str → Option Value) (name x : Str) (C fI cc : Addr) (fd : FuncData) : Prop where
  gC : mg name = some (.ref C)
  o : OexC K C
  noX : PySem.W.findIn K (.ref C) x = some none
  iC : PySem.W.findIn K (.ref C) "__init__" = some (some (.ref fI))
  tI : PySem.W.typeIn K (.ref fI) = some (.type "function")
  fn : ∃ (oc : Value) (od : Option Addr) (qual txt : Str) (j : Nat) (mr : List (Str × Const)) (doc pm : Value) (an : Option Addr) (cda : Addr) (ct : Value) (osl : Array (Option Value)) (r1 r2 p0 p1 p2 p3 p4 p5 p6 p7 p8 q1 q2 q3 q4 : Pos),
    fd = PySem.W.ksFn "__init__" qual (eArgs x r1 r2) (eBody x txt j p0 p1 p2 p3 p4 p5 p6 p7 p8 q1 q2 q3 q4) (eScope x mr) .none .none doc pm an (.ref cda) ct cc ∧
    K.lookup fI = some ⟨oc, od, .func fd, osl⟩ ∧ PySem.W.codeIn K (.ref cda) qual = true ∧ txt.length ≤ 1000 ∧ SupEv x txt j p0 p1 p2 p3 p4 p5 p6 p7 ∧
    ∃ (ccl : Value) (cdd : Option Addr) (vs : Array Value) (ccs : Array (Option Value)) (file : Str) (tf : Tok), K.lookup cda = some ⟨ccl, cdd, .fields vs, ccs⟩ ∧ vs[2]? = some (.str file tf) ∧ ((P.main.file : Str) == file) = true
  cell : ∃ (cl : Value) (cld : Option Addr) (csl : Array (Option Value)), K.lookup cc = some ⟨cl, cld, .cell (some (.ref C)), csl⟩
  cls : ∃ cd, PySem.W.clsIn K C = some cd
  subC : PySem.W.mroIn K C (.ref C) = some true
  sup : mg "super" = none
  top : (P.main.scope.names.lookup ("super" : Str)).isSome = false
  opq : PySem.W.nsIn K cStatics "thirdparty.any" = some none
  up : PySem.W.ks_superIn K C C "__init__" = some (some (.builtin "ValueError.__init__"))
  subV : PySem.W.subIn K (.ref C) (.type "ValueError") = some true
/-- C(x): the error keeps what it was given -/
def spErr (K : PySem.W.Frag) (C : Addr) (x : Str) : Sp := fun vs H Q _ => ∃ (a : Addr) (v : V) (d : PyData), vs = [.ref a, v] ∧ H a = some (exo a C none) ∧ Dp K H v d ∧ sm 3 d ∧
  ∀ dx, H dx = none → dx ≠ a → Q .non (upd (upd H dx (exd dx [(x, v)])) a (exo a C (some dx)))
section
variable {P : Program} {w : World} {K : PySem.W.Frag} {mg : Str → Option Value} {base : Heap}
def cxE (P : Program) (w : World) (K : PySem.W.Frag) (mg : Str → Option Value) (base : Heap) (x qual : Str) (sc : Scope) (f cc : Addr) (cd : Value) (A : Around) (outer : List Env) (s : Shared) (H : Hp) : Cx where
  prog := P
  w := w
  K := K
  mg := mg
  base := base
  A := A.deeper (PySem.W.ksEnv qual sc s.heap.objs.size f cd cc)
  N := ["self", x]
  s_0 := s
  H_0 := H
  env := PySem.W.ksEnv qual sc s.heap.objs.size f cd cc
  outer := outer
  stack := PySem.W.ksEnv qual sc s.heap.objs.size f cd cc :: outer
  ex := []
  calm := true
  fn := fun _ => false
  pn := []
  xe := fun _ _ => False
theorem inv_err {x qual : Str} {mr : List (Str × Const)} {f cc : Addr} {cd : Value} {A : Around} {outer : List Env} {s : Shared} {H : Hp} {h1 : Heap} {tk : Nat} {u0 u1 : Value} {v0 v1 : V} {oc : Obj} {cv : Value} (nx : NmOk x) (hd : A.handled = none) (e0 : Env0 P w K mg base A outer s H)
    (hc : K.lookup cc = some oc) (hcc : oc.data = .cell (some cv)) (r0 : RelV v0 u0) (r1 : RelV v1 u1) (hns : h1.Ns s.heap.objs.size (fun y => [(("self" : Str), u0), (x, u1)].reverse.lookup y)) (hk : ∀ b o, s.heap.get? b = some o → h1.get? b = some o) :
    Inv (cxE P w K mg base x qual (eScope x mr) f cc cd A outer s H) [] [some v0, some v1] H { s with heap := h1, toks := tk } := by
  have hb : base.get? cc = some oc := e0.mod.kin _ _ hc
  obtain ⟨hs, hH⟩ := e0.bs _ _ hb
  have one : ∀ y c, List.lookup y [(("__class__" : Str), cc)] = some c → y = "__class__" ∧ c = cc := fun y c h => by
    cases q : (y == ("__class__" : Str)) with
    | true =>
      simp only [List.lookup, q] at h
      exact ⟨beq_iff_eq.mp q, (Option.some.inj h).symm⟩
    | false => simp [List.lookup, q] at h
  have noA : ∀ b : Addr, b ∉ (cxE P w K mg base x qual (eScope x mr) f cc cd A outer s H).ex := fun b z => absurd (show b ∈ ([] : List Addr) from z) (by simp)
  refine ⟨⟨e0.mod, rfl, rfl, rfl, Nat.le_refl _, fun y z c h1 h2 => ?_, fun y hy => ?_, fun y c h => (by cases h), fun _ => hd, Around.frames_deeper e0.frames, .inr ⟨rfl, rfl⟩, fun b z => absurd z (noA b), e0.bs, e0.bsz, fun b _ _ => noA b, fun b z => absurd z (noA b), e0.funs, e0.frf⟩,
    rfl, e0.bare, Un.kept hk, ⟨_, hns, fun i y v h1 h2 h3 => ?_⟩, fun y c h => ?_, e0.hok.fresh (Nat.le_refl _), fun y c h => ?_, fun p hp => absurd (show p ∈ ([] : List (Addr × Obj)) from hp) (by simp), e0.hok.kept hk, rfl⟩
  · rw [(one _ _ h1).1, (one _ _ h2).1]
  · have hy : (eScope x mr).names.lookup y = some .cell ∨ (eScope x mr).names.lookup y = some .free := hy
    have : y = "__class__" := by
      have e : (eScope x mr).names.lookup y = List.lookup y [(("self" : Str), NameKind.local), (x, .local), ("__class__", .free), ("super", .globalImplicit)] := rfl
      rw [e] at hy
      cases a1 : (y == ("self" : Str)) with
      | true => simp [List.lookup, a1] at hy
      | false =>
        cases a2 : (y == x) with
        | true => simp [List.lookup, a1, a2] at hy
        | false =>
          cases a3 : (y == ("__class__" : Str)) with
          | true => exact beq_iff_eq.mp a3
          | false =>
            cases a4 : (y == ("super" : Str)) with
            | true => simp [List.lookup, a1, a2, a3, a4] at hy
            | false => simp [List.lookup, a1, a2, a3, a4] at hy
    subst this
    exact ⟨cc, rfl⟩
  · have hy : [("self" : Str), x][i]? = some y := h1
    cases i with
    | zero =>
      obtain rfl := Option.some.inj hy
      obtain rfl : v0 = v := Option.some.inj (Option.some.inj h2)
      refine ⟨u0, r0, .inl ⟨rfl, ?_⟩⟩
      show List.lookup ("self" : Str) [(x, u1), (("self" : Str), u0)] = some u0
      have z := bne_symm nx.n1
      simp only [List.lookup, z, beq_self_eq_true]
    | succ i =>
      cases i with
      | zero =>
        obtain rfl := Option.some.inj hy
        obtain rfl : v1 = v := Option.some.inj (Option.some.inj h2)
        refine ⟨u1, r1, .inl ⟨nx.loc mr, ?_⟩⟩
        show List.lookup x [(x, u1), (("self" : Str), u0)] = some u1
        simp only [List.lookup, beq_self_eq_true]
      | succ i => simp at hy
  · obtain ⟨_, rfl⟩ := one _ _ h
    exact ⟨_, oc, hk _ _ hs, hcc⟩
  · obtain ⟨_, rfl⟩ := one _ _ h
    exact hH
/-- behind the wrapper's call: the arguments are laid anew, the error stays as it is told -/
theorem call_wrap {X : Cx} {pins : List (Addr × Obj)} {σ : St} {H : Hp} {s : Shared} {u a C : Addr} {us : List Value} {A : Around} {E : Value → Shared → Prop} {Q : Value → Shared → Prop} (T : OexC X.K C) (I : Inv X pins σ H s) (hu : s.heap.get? u = some (PySem.W.kxs_mw "ValueError.__init__" a)) (e : H a = some (exo a C none)) (hl : us.length ≤ sizeLine)
    (h : ∀ s', Inv X pins σ H s' → Q .none s') : wpAny (model X.prog X.w) A (call (.ref u) us) Q E s := by
  obtain ⟨nm, q, N, bs, bm, sn, sub, ab, col, dd, k0, k1, k2, k3, k5, hC, hbm⟩ := T.cls
  obtain ⟨t1, ho⟩ := exo_at I.hok e
  obtain ⟨hp, g, d, t, os⟩ := s
  refine wpAny_call (codeAny_of_tree ?_)
  show wpAny _ A.in1 (callAny (.ref u) ⟨us, []⟩) _ _ _
  simp only [callAny]
  refine wpAny_bind (wpAny_load hu ?_)
  simp only [PySem.W.kxs_mw, show (Value.type "method-wrapper" == Value.type "method" || Value.type "method-wrapper" == Value.type "builtin_function_or_method" || Value.type "method-wrapper" == Value.type "method-wrapper") = true by decide, if_true]
  refine PySem.W.KFB.if_so (by decide) ?_
  refine wpAny_bind (PySem.W.check_bound_init F.excBase_ValueError.toExcCallFacts (I.kIn _ _ hC) ho rfl ?_)
  refine wpAny_bind (wpAny_pure (wpAny_pure ?_))
  refine ⟨plainId_quiet F.excBase_ValueError.init.plain _, codeAny_builtin F.excBase_ValueError.initEntry ?_⟩
  refine PySem.W.exc_init_tree (cls := .ref C) (t0 := t1) (dv := none) (c2 := .none) (c3 := .none) (b4 := .bool false) ho hl fun h' k he _ => ?_
  have J := I.write (t' := t) (x := a) (e := a) (o := exo a C none) (by rw [e]; exact True.intro) (.inl rfl) k ⟨_, he⟩ (exo_ok he)
  have eu : upd H a (exo a C none) = H := by
    funext b
    by_cases hb : b = a
    · rw [hb, upd_same, e]
    · rw [upd_ne hb]
  rw [eu] at J
  exact h _ J
theorem ok_err {name x : Str} {C fI cc : Addr} {fd : FuncData} (nx : NmOk x) (T : ErrIn P K mg name x C fI cc fd) : FnOk P w K mg base CX0 1 fI fd ["self", x] (spErr K C x) := by
  refine ⟨fun vs H Q E h => ?_, fun A outer s H args us vs Q E hr e0 hb r hsp => ?_⟩
  · obtain ⟨a, v, d, rfl, _⟩ := h
    rfl
  obtain ⟨oc, od, qual, txt, j, mr, doc, pm, an, cda, ct, osl, r1, r2, p0, p1, p2, p3, p4, p5, p6, p7, p8, q1, q2, q3, q4, rfl, lk, hcd, htl, hev, ccl, cdd, fvs, ccs, file, tf, hcode, hvs, hfile⟩ := T.fn
  obtain ⟨cl, cld, csl, hcell⟩ := T.cell
  obtain ⟨cdD, hD⟩ := T.cls
  obtain ⟨a, v, d, rfl, ha, hv, hsm, kk⟩ := hsp
  obtain ⟨u0, u1, rfl, ru0, ru1⟩ := Vals.two r
  obtain rfl : u0 = Value.ref a := ru0
  have KX : K.In s.heap := e0.mod.kin.keeps fun b o e => (e0.bs b o e).1
  have lim : s.heap.NoLimit := e0.mod.nolimit.keeps fun b o e => (e0.bs b o e).1
  refine PySem.ks_codeAny_call_defAt (fd := PySem.W.ksFn "__init__" qual (eArgs x r1 r2) (eBody x txt j p0 p1 p2 p3 p4 p5 p6 p7 p8 q1 q2 q3 q4) (eScope x mr) .none .none doc pm an (.ref cda) ct cc)
    (body := eBody x txt j p0 p1 p2 p3 p4 p5 p6 p7 p8 q1 q2 q3 q4) hr.depth (KX _ _ lk) rfl lim (PySem.W.codeRec_of KX hcd) rfl hb ?_ ?_ (fun h₁ hns hk₁ => ?_) rfl rfl rfl
  · intro y hy
    have hy' : y ∈ [(("self" : Str), NameKind.local), (x, .local), ("__class__", .free), ("super", .globalImplicit)] := hy
    simp only [List.mem_cons, List.not_mem_nil, or_false] at hy'
    rcases hy' with rfl | rfl | rfl | rfl <;> (intro z; cases z)
  · intro y hy
    have hy' : y ∈ [(("self" : Str), Value.ref a), (x, u1)] := hy
    simp only [List.mem_cons, List.not_mem_nil, or_false] at hy'
    rcases hy' with rfl | rfl
    · rfl
    · exact nx.loc mr
  have I : Inv (cxE P w K mg base x qual (eScope x mr) fI cc (.ref cda) A outer s H) [] [some (.ref a), some v] H { s with heap := h₁, toks := s.toks + 2 } := inv_err nx hr.hd e0 hcell rfl rfl ru1 hns hk₁
  have hdne : (("self" : Str) == ("__debug__" : Str)) = false := by decide
  have P1 : PE (cxE P w K mg base x qual (eScope x mr) fI cc (.ref cda) A outer s H) (.Name x p4) (tVar 1) := pe_var rfl (.inl (nx.loc mr)) nx.n4 nx.n5
  have P1' : PE (cxE P w K mg base x qual (eScope x mr) fI cc (.ref cda) A outer s H) (.Name x q3) (tVar 1) := pe_var rfl (.inl (nx.loc mr)) nx.n4 nx.n5
  have P0 : PE (cxE P w K mg base x qual (eScope x mr) fI cc (.ref cda) A outer s H) (.Name "self" q1) (tVar 0) := pe_var rfl (.inl rfl) hdne (by decide)
  have hr0 : Room 0 (cxE P w K mg base x qual (eScope x mr) fI cc (.ref cda) A outer s H).A := hr.deeper _
  have PJ1 : PE (cxE P w K mg base x qual (eScope x mr) fI cc (.ref cda) A outer s H) (.JoinedStr [.Constant (.str txt) j p3, .FormattedValue (.Name x p4) 114 none p5] p6) _ := pe_joined (.cons pe_str (.cons (pe_show hr0 P1) .nil))
  obtain ⟨pl, hev⟩ := hev (PySem.W.ksEnv qual (eScope x mr) s.heap.objs.size fI (.ref cda) cc)
  refine PySem.ks_wpAt_execs_cons (PySem.ks_wpAt_Expr_any (PySem.ks_wpAt_MethodCall (pl := pl) ?_ hev))
  have hs1 := hk₁ _ _ (KX _ _ lk)
  have zs : List.lookup ("super" : Str) [(("self" : Str), NameKind.local), (x, .local), ("__class__", .free), ("super", .globalImplicit)] = some .globalImplicit := by
    have z1 := bne_symm nx.n3
    have z2 : (("super" : Str) == ("self" : Str)) = false := by decide
    have z3 : (("super" : Str) == ("__class__" : Str)) = false := by decide
    simp only [List.lookup, z1, z2, z3, beq_self_eq_true]
  have zc : List.lookup ("__class__" : Str) [(("self" : Str), NameKind.local), (x, .local), ("__class__", .free), ("super", .globalImplicit)] = some .free := by
    have z1 := bne_symm nx.n2
    have z2 : (("__class__" : Str) == ("self" : Str)) = false := by decide
    simp only [List.lookup, z1, z2, beq_self_eq_true]
  have zn : List.lookup ("self" : Str) [(x, u1), (("self" : Str), Value.ref a)] = some (.ref a) := by
    have z1 := bne_symm nx.n1
    simp only [List.lookup, z1, beq_self_eq_true]
  obtain ⟨mb, hmb1, hmb2⟩ := I.mod.blt
  obtain ⟨oD, hoD1, hoD2⟩ : ∃ oD, h₁.get? C = some oD ∧ oD.data = .cls cdD := by
    unfold PySem.W.clsIn at hD
    split at hD
    · rename_i c d cd' sl ho
      cases hD
      exact ⟨_, hk₁ _ _ (KX _ _ ho), rfl⟩
    · cases hD
  obtain ⟨t1, hoa⟩ := exo_at I.hok ha
  refine PySem.ks_wpAt_super_base (env := PySem.W.ksEnv qual (eScope x mr) s.heap.objs.size fI (.ref cda) cc) zs zc (by decide) rfl hs1 rfl (ar := { arg := "self", annotation := none, pos := r1 }) rfl rfl (hk₁ _ _ (KX _ _ hcode)) rfl hvs hfile T.top ?_
  refine PySem.W.ks_loadName_global rfl zs (Calls.loadGlobal_builtin (env := PySem.W.ksEnv qual (eScope x mr) s.heap.objs.size fI (.ref cda) cc) (I.mod.glob.keeps I.bk) T.sup (hmb1.keeps I.bk) ((hmb2 _ (by decide)).trans PyProof.Rows.Boot.«super») ⟨rfl, ?_⟩)
  refine wpAny_loadName_free rfl zc rfl ⟨_, hk₁ _ _ (KX _ _ hcell), rfl⟩ ?_
  refine wpAny_loadName_local rfl rfl hns zn ?_
  refine PySem.ks_wpAny_isType_cls hoD1 hoD2 ⟨rfl, ?_⟩
  refine PySem.ks_wpAny_call_super hoD1 hoD2 hoa rfl (fun c z => by cases z) (PySem.W.looks_mroIn I.kIn T.subC) (fun h2 hso k2 => ?_)
  have I2 := I.kept (t' := s.toks + 2) k2
  have hIn : PySem.W.InstAt h2 a (PySem.HandSPX.excO C t1) C none := ⟨k2 _ _ hoa, rfl, rfl, trivial⟩
  have hup := T.up
  unfold PySem.W.ks_superIn at hup
  rw [hD] at hup
  refine PySem.W.kxs_getMethod PySem.W.kxs_ValueError hso (PySem.W.looks_opaque I2.kIn T.opq) (l₀ := cdD.mro) (fun A Q E s k q => wpAny_bind ((PySem.W.looks_clsIn I2.kIn hD) A _ E s k (wpAny_pure q))) rfl I2.kIn hup (hIn.type.andThen (PySem.W.looks_subIn I2.kIn T.subV)) (PySem.W.ks_ne I2.kIn hIn hD) (by decide) ?_
  have k3 : ∀ b o, h2.get? b = some o → (h2.push (PySem.W.kxs_mw "ValueError.__init__" a)).get? b = some o := fun b o e => Heap.get?_push_of_some _ e
  have I3 := I2.kept (t' := s.toks + 2 + 1) k3
  have hu : (h2.push (PySem.W.kxs_mw "ValueError.__init__" a)).get? h2.objs.size = some (PySem.W.kxs_mw "ValueError.__init__" a) := Heap.get?_push_size _ rfl
  have I4 := I3.pins_of (pins' := [(h2.objs.size, PySem.W.kxs_mw "ValueError.__init__" a)]) fun p hp => by
    obtain rfl := List.mem_singleton.mp hp
    refine ⟨hu, I2.hok.fresh (Nat.le_refl _), ?_, ?_, fun v z => by cases z⟩
    · exact Nat.ne_of_gt I2.lt
    · exact I2.nofs (Nat.le_refl _)
  show wpAny _ _ (callWith p7 (.ref h2.objs.size) [] [(false, eval (.JoinedStr [.Constant (.str txt) j p3, .FormattedValue (.Name x p4) 114 none p5] p6) (PySem.W.ksEnv qual (eScope x mr) s.heap.objs.size fI (.ref cda) cc))] []) _ _ _
  refine PySem.W.kxs_callWith (i := "ValueError.__init__") (x := a) (u := h2.objs.size) rfl (Calls.evalArgs_plain (Calls.spliced_cons (wpAny_mono (PJ1.run _ _ _ H (fun _ H' => H' = H) I4 ?_) (fun v5 s5 hh => ?_) fun _ _ z => z.elim)))
  · have line : (3600000 : Nat) ≤ sizeLine := by decide
    have le0 : Str.empty.length = 0 := rfl
    refine ⟨_, rfl, ?_, _, rfl, d, hv, hsm, fun m hm => ⟨_, rfl, ?_, rfl⟩⟩
    · rw [strLen_append, le0]; omega
    · rw [strLen_append, strLen_append, le0]; omega
  · obtain ⟨v6, H5, I5, r5, eH⟩ := hh
    rw [eH] at I5
    refine Calls.spliced_nil ?_
    have hu5 := (I5.pin (h2.objs.size, PySem.W.kxs_mw "ValueError.__init__" a) (by simp)).1
    refine ⟨hu5, call_wrap T.o I5 hu5 ha ?_ fun s6 I6 => ?_⟩
    · show ([v5] : List Value).length ≤ sizeLine
      rw [sizeLine_eq]; show 1 ≤ 16777216; decide
    · have PS1 : PSs (cxE P w K mg base x qual (eScope x mr) fI cc (.ref cda) A outer s H) [.Assign [.Attribute (.Name "self" q1) x q2] (.Name x q3) q4] _ := pss_one (ps_ost P0 P1')
      have I7 : Inv (cxE P w K mg base x qual (eScope x mr) fI cc (.ref cda) A outer s H) [] [some (.ref a), some v] H s6 := I6.pins_of fun p hp => nomatch hp
      refine wpAt_of_wpAny (wpAny_mono (PS1.run [] s6 _ H { nx := fun _ H' => Q .non H', rt := Q } I7 ?_) (fun fl s8 hs => ?_) fun _ _ z => z.elim)
      · refine ⟨_, rfl, _, rfl, a, C, rfl, T.o, T.noX, .inl ⟨ha, fun dx hdx hne => ?_⟩⟩
        exact kk dx hdx hne
      · have fin : ∀ {σ' : St} {H' : Hp} {v : V} {u : Value}, Inv (cxE P w K mg base x qual (eScope x mr) fI cc (.ref cda) A outer s H) [] σ' H' s8 → RelV v u → Q v H' → CE outer P w H s Q u s8 :=
          fun J rv q => ⟨_, _, J.os, J.bare, J.base, J.hok, rv, q⟩
        cases fl with
        | ret u =>
          obtain ⟨v', σ', H', J, rv, q⟩ := hs
          exact fin J rv q
        | next =>
          obtain ⟨σ', H', J, q⟩ := hs
          exact fin (v := V.non) (u := Value.none) J rfl q
        | brk =>
          obtain ⟨_, _, _, q⟩ := hs
          exact False.elim q
        | cont =>
          obtain ⟨_, _, _, q⟩ := hs
          exact False.elim q
end
/-- what a raised error of one attribute leaves -/
abbrev Rais (f : Str) (C : Addr) (v : V) (H : Hp) (E : XK) : Prop := ∀ (dx : Addr) (H' : Hp), Same H H' → H' dx = some (.xd [(f, v)]) → E (.ref C) (some dx) H'
theorem rais_in {K : PySem.W.Frag} {C : Addr} {f : Str} {v : V} {d : PyData} {H1 : Hp} {E : XK} (hv : Dp K H1 v d) (hd : sm 3 d) (q : Rais f C v H1 E) : ([v] : List V).length ≤ 1000 ∧ ∀ a, H1 a = none → spErr K C f (.ref a :: ([v] ++ [])) (upd H1 a (exo a C none))
    (fun v2 H2 => v2 = .non ∧ ∃ (dx : Addr) (fs : List (Str × V)), H2 a = some (exo a C (some dx)) ∧ H2 dx = some (exd dx fs) ∧ H1 dx = none ∧ E (.ref C) (some dx) (upd (del H2 a) dx (.xd fs))) (fun _ _ _ => False) := by
  refine ⟨Nat.le_of_ble_eq_true rfl, fun a na => ?_⟩
  have s1 : Same H1 (upd H1 a (exo a C none)) := same_new na
  refine ⟨a, v, d, rfl, upd_same, dp_same s1 _ _ hv, hd, fun dx ndx hne => ⟨rfl, dx, [(f, v)], upd_same, by rw [upd_ne hne, upd_same], ?_, ?_⟩⟩
  · rw [upd_ne hne] at ndx; exact ndx
  · have ndx1 : H1 dx = none := by rw [upd_ne hne] at ndx; exact ndx
    refine q dx _ (fun b o e => ?_) upd_same
    have nb : b ≠ a := ne_of_none e na
    have nbd : b ≠ dx := ne_of_none e ndx1
    rw [upd_ne nbd, del_ne nb, upd_ne nb, upd_ne nbd, upd_ne nb]
    exact e
/-- the class of such an error and its def -/
structure RaisC (P : Program) (K : PySem.W.Frag) (mg : Str → Option Value) (n f : Str) (C fI cc : Addr) (fd : FuncData) : Prop where
  nx : NmOk f
  T : ErrIn P K mg n f C fI cc fd
  b : Binds K fd ["self", f] []
/-! ### Contents made -/
theorem passF {P : Program} {w : World} {X : Cx} : Passes (L2.CX P w) X (fun _ _ _ => False) := fun _ _ _ _ _ _ _ ⟨_, _, _, _, _, _, _, _, _, _, _, _, h⟩ => h.elim
def cnF (ta tl to : Addr) : List (Str × V) := [("answers", .ref ta), ("lengths", .ref tl), ("loads", .ref to)]
structure CnIn (K : PySem.W.Frag) (mg : Str → Option Value) (C : Addr) : Prop where
  m : mg "Contents" = some (.ref C)
  cls : Cls K C
  na : NoAttr K C "answers"
  nl : NoAttr K C "lengths"
  no : NoAttr K C "loads"
  rd : ClX.CRead K C (.type "type")
  ca : PySem.W.findIn K (.ref C) "__class__" = some (some (.builtin "object.__class__"))
  cn : PySem.W.specialIn K (.builtin "object.__class__") "__get__" = some (some (.builtin "getset_descriptor.__get__"))
  ct : PySem.W.takesIn K (.builtin "object.__class__") = some true
  cm : PySem.W.mroIn K C (.type "object") = some true
/-- contents at x; l is changed by others -/
def ContAt (K : PySem.W.Frag) (l : List Addr) (H : Hp) (C x : Addr) (as ls os : List PyData) : Prop :=
  x ∉ l ∧ ∃ dx ta tl to, H x = some (.ins C dx (cnF ta tl to)) ∧ Dp K (mask (x :: l) H) (.ref ta) (.tuple as) ∧ Dp K (mask (x :: l) H) (.ref tl) (.tuple ls) ∧ Dp K (mask (x :: l) H) (.ref to) (.tuple os)
theorem ContAt.same {K : PySem.W.Frag} {l : List Addr} {H H' : Hp} {C x : Addr} {as ls os : List PyData} (s : Same H H') (h : ContAt K l H C x as ls os) : ContAt K l H' C x as ls os := by
  obtain ⟨nx, dx, ta, tl, to, h0, h1, h2, h3⟩ := h
  exact ⟨nx, dx, ta, tl, to, s _ _ h0, dp_same (mask_same s) _ _ h1, dp_same (mask_same s) _ _ h2, dp_same (mask_same s) _ _ h3⟩
theorem ContAt.keep {K : PySem.W.Frag} {p q : Addr} {l : List Addr} {H H' : Hp} {C x : Addr} {as ls os : List PyData} (hp : p ∈ l) (hq : q ∈ l) (k : Keeps p q H H') (h : ContAt K l H C x as ls os) : ContAt K l H' C x as ls os := by
  obtain ⟨nx, dx, ta, tl, to, h0, h1, h2, h3⟩ := h
  have s := k.maskL (List.mem_cons_of_mem x hp) (List.mem_cons_of_mem x hq)
  exact ⟨nx, dx, ta, tl, to, k _ _ (fun e => nx (by rw [e]; exact hp)) (fun e => nx (by rw [e]; exact hq)) h0, dp_same s _ _ h1, dp_same s _ _ h2, dp_same s _ _ h3⟩
def tupOf (d : PyData) : PyData := .tuple (mem d)
def spCInit (K : PySem.W.Frag) (C BC : Addr) : Sp := fun vs H Q E => ∃ (l : List Addr) (x dx : Addr) (va vl vo : V) (da dl do_ : PyData), vs = [.ref x, va, vl, vo] ∧ H x = some (.ins C dx []) ∧ Alive l H ∧ x ∉ l ∧
  Dp K (mask (x :: l) H) va da ∧ Dp K (mask (x :: l) H) vl dl ∧ Dp K (mask (x :: l) H) vo do_ ∧ sz 6 da ∧ sz 6 dl ∧ sz 6 do_ ∧
  (okAns da = true → okLens dl = true → okLoads do_ = true → ∀ H', (∀ b o, b ≠ x → H b = some o → H' b = some o) → ContAt K l H' C x (mem da) (mem dl) ((mem do_).map tupOf) → Q .non H') ∧
  (okAns da = false → ∀ (dy : Addr) (H' : Hp), Same H H' → H' dy = some (.xd [("part", .str "answers")]) → E (.ref BC) (some dy) H') ∧
  (okAns da = true → okLens dl = false → ∀ (dy : Addr) (H' : Hp), Same H H' → H' dy = some (.xd [("part", .str "lengths")]) → E (.ref BC) (some dy) H') ∧
  (okAns da = true → okLens dl = true → okLoads do_ = false → ∀ (dy : Addr) (H' : Hp), Same H H' → H' dy = some (.xd [("part", .str "loads")]) → E (.ref BC) (some dy) H')
theorem dp_free {K : PySem.W.Frag} {H : Hp} {l : List Addr} {v : V} {d : PyData} (h : Dp K (mask l H) v d) : Dp K H v d := dp_same (mask_sub l H) _ _ h
theorem mask_up {l : List Addr} {H : Hp} {x : Addr} {o : HO} : Same (mask (x :: l) H) (mask (x :: l) (upd H x o)) := mask_at List.mem_cons_self
/-- tuple(v) of data -/
theorem rd_tup {K : PySem.W.Frag} {l : List Addr} {H : Hp} {v : V} {d : PyData} {Q : VK} (al : Alive l H) (h : Dp K (mask l H) v d) (e : isLT d = true) (q : ∀ (t : Addr) (H' : Hp), Same H H' → Dp K (mask l H') (.ref t) (tupOf d) → Q (.ref t) H') : rTupOf K [v] H Q := by
  cases d with
  | list ds =>
    obtain ⟨a, xs, rfl, h1, h2⟩ := dp_lst h
    refine ⟨⟨a, xs, rfl, .inl ⟨(mask_sub l H).seq h1, fun t nt => ?_⟩⟩⟩
    exact q t _ (same_new nt) (.tup (SqT.of (mask_upd (al.not nt))) (dpAll_same (mask_same (same_new nt)) _ _ h2))
  | tuple ds =>
    obtain ⟨a, xs, rfl, h1, h2⟩ := dp_tup h
    exact ⟨⟨a, xs, rfl, .inr ⟨Same.seqT (mask_sub l H) h1, q a H (Same.refl H) h⟩⟩⟩
  | _ => cases e
theorem okL_parts {most : Nat} {p : PyData → Bool} {d : PyData} (h : okL most p d = true) : isLT d = true ∧ (mem d).length ≤ most ∧ ∀ x ∈ mem d, p x = true := by
  obtain ⟨h1, h2⟩ := Bool.and_eq_true_iff.mp h
  obtain ⟨h2, h3⟩ := Bool.and_eq_true_iff.mp h2
  exact ⟨h1, of_decide_eq_true h2, List.all_eq_true.mp h3⟩
section
variable {P : Program} {w : World} {K : PySem.W.Frag} {mg : Str → Option Value} {base : Heap}
theorem scCI : FnScope ["self", "answers", "lengths", "loads", "load"] ["self", "answers", "lengths", "loads"] (defScope (co 0)) := ⟨rfl, rfl, rfl, by decide +kernel, rfl, by decide +kernel, by decide +kernel⟩
theorem ok_cinit {f C BC fB cB fA fL fO : Addr} {fd fdB fdA fdL fdO : FuncData} (T : CnIn K mg C) {dv : List V} (F : FunD K "__init__" "Contents.__init__" (defArgs (co 0)) (defBody (co 0)) (defScope (co 0)) dv [] f fd) (B : Bts mg) (R : RaisC P K mg "BadContents" "part" BC fB cB fdB)
    (GA : FnOk P w K mg base CX0 2 fA fdA ["answers"] (spTell K 6 okAns)) (mA : mg "_are_answers" = some (.ref fA)) (kA : PySem.W.keepIn K (.ref fA) = true) (bA : Binds K fdA ["answers"] [])
    (GL : FnOk P w K mg base CX0 3 fL fdL ["lengths"] (spTell K 6 okLens)) (mL : mg "_are_lengths" = some (.ref fL)) (kL : PySem.W.keepIn K (.ref fL) = true) (bL : Binds K fdL ["lengths"] [])
    (GO : FnOk P w K mg base CX0 3 fO fdO ["loads"] (spTell K 6 okLoads)) (mO : mg "_are_loads" = some (.ref fO)) (kO : PySem.W.keepIn K (.ref fO) = true) (bO : Binds K fdO ["loads"] []) :
    FnOk P w K mg base (L2.CX P w) 4 f fd ["self", "answers", "lengths", "loads"] (spCInit K C BC) := by
  refine F.ok scCI (fun vs H Q E h => ?_) (fun cdv A outer s H vs Q E hr h => ?_)
  · obtain ⟨l, x, dx, va, vl, vo, da, dl, do_, rfl, _⟩ := h
    rfl
  · obtain ⟨l, x, dx, va, vl, vo, da, dl, do_, rfl, hx, al, nxl, ha, hl, ho, za, zl, zo, kk, k1, k2, k3⟩ := h
    have hrA : Room 2 _ := hr.mono (by decide)
    have hrL : Room 3 _ := hr
    have hrO : Room 3 _ := hr
    have hr1 : Room 1 _ := hr.mono (by decide)
    have tk := takes_of (X := cxOf (L2.CX P w) P w K mg base ["self", "answers", "lengths", "loads", "load"] "Contents.__init__" (defScope (co 0)) f cdv A outer s H E) rfl rfl rfl rfl
    refine ⟨_, pss_cons (ps_if (pt_not (pt_val (pe_call GA hrA (by rfl) mA kA bA .nil pass0 (pa_cons (pv 1) pa_nil))))
        (pss_one (ps_raise rfl tk (pmk_oex R.T.o R.T.iC R.T.tI (ok_err (base := base) (w := w) R.nx R.T) hrA R.b .nil pass0 (by rfl) R.T.gC (pa_cons pe_str pa_nil))))
        pss_nil)
      (pss_cons (ps_if (pt_not (pt_val (pe_call GL hrL (by rfl) mL kL bL .nil pass0 (pa_cons (pv 2) pa_nil))))
        (pss_one (ps_raise rfl tk (pmk_oex R.T.o R.T.iC R.T.tI (ok_err (base := base) (w := w) R.nx R.T) hrA R.b .nil pass0 (by rfl) R.T.gC (pa_cons pe_str pa_nil))))
        pss_nil)
      (pss_cons (ps_if (pt_not (pt_val (pe_call GO hrO (by rfl) mO kO bO .nil pass0 (pa_cons (pv 3) pa_nil))))
        (pss_one (ps_raise rfl tk (pmk_oex R.T.o R.T.iC R.T.tI (ok_err (base := base) (w := w) R.nx R.T) hrA R.b .nil pass0 (by rfl) R.T.gC (pa_cons pe_str pa_nil))))
        pss_nil)
      (pss_cons (ps_fld (pv 0) (pe_callTy call_tupS (by rfl) B.tuple (by decide +kernel) (pa_cons (pv 1) pa_nil)) rfl)
      (pss_cons (ps_fld (pv 0) (pe_callTy call_tupS (by rfl) B.tuple (by decide +kernel) (pa_cons (pv 2) pa_nil)) rfl)
      (pss_one (ps_fld (pv 0) (pe_callTy call_tupS (by rfl) B.tuple (by decide +kernel) (pa_cons (pe_lc (own := [("load", 4)]) (g := gName 4) (tt := tYes) rfl scCI.nd (pi_seq (pv 3)) (blkOk_by (N := ["self", "answers", "lengths", "loads", "load"]) (sc := defScope (co 0)) (by decide +kernel)) (fun _ _ _ _ _ => (pg_name (i := 4) scCI.nd rfl (.inl rfl))) (fun _ _ _ _ _ => pts_nil) (fun _ _ _ _ _ => (pe_callTy (callK (K := K) (r := rTupOf) call_tupS) (by rfl) B.tuple (by decide +kernel) (pa_cons (pv 4) pa_nil)))) pa_nil)) rfl)))))), ?_⟩
    have alx : Alive (x :: l) H := fun a m => by
      rcases List.mem_cons.mp m with rfl | m
      · exact ⟨_, hx⟩
      · exact al a m
    -- answers
    refine ⟨_, rfl, va, da, rfl, dp_free ha, za, fun H1 s1 => ⟨_, rfl, ?_⟩⟩
    cases e1 : okAns da with
    | false => exact iteT (rais_in (.str _) (by simp only [sm]; exact ⟨by decide +kernel, fun c hc => of_decide_eq_true (List.all_eq_true.mp (by decide +kernel : ("answers" : Str).cps.toList.all (fun c => decide (c < 1000)) = true) c hc)⟩) fun dy H' s hd => k1 e1 dy H' (s1.trans s) hd)
    | true =>
    refine iteF ⟨_, rfl, vl, dl, rfl, dp_same s1 _ _ (dp_free hl), zl, fun H2 s2 => ⟨_, rfl, ?_⟩⟩
    cases e2 : okLens dl with
    | false => exact iteT (rais_in (.str _) (by simp only [sm]; exact ⟨by decide +kernel, fun c hc => of_decide_eq_true (List.all_eq_true.mp (by decide +kernel : ("lengths" : Str).cps.toList.all (fun c => decide (c < 1000)) = true) c hc)⟩) fun dy H' s hd => k2 e1 e2 dy H' ((s1.trans s2).trans s) hd)
    | true =>
    have s12 := s1.trans s2
    refine iteF ⟨_, rfl, vo, do_, rfl, dp_same s12 _ _ (dp_free ho), zo, fun H3 s3 => ⟨_, rfl, ?_⟩⟩
    cases e3 : okLoads do_ with
    | false => exact iteT (rais_in (.str _) (by simp only [sm]; exact ⟨by decide +kernel, fun c hc => of_decide_eq_true (List.all_eq_true.mp (by decide +kernel : ("loads" : Str).cps.toList.all (fun c => decide (c < 1000)) = true) c hc)⟩) fun dy H' s hd => k3 e1 e2 e3 dy H' (s12.trans (s3.trans s)) hd)
    | true =>
    have s13 := s12.trans s3
    have hx3 := s13 _ _ hx
    have al3 := alx.same s13
    have ha3 := dp_same (mask_same s13) _ _ ha
    have hl3 := dp_same (mask_same s13) _ _ hl
    have ho3 := dp_same (mask_same s13) _ _ ho
    have kp3 : ∀ b o, b ≠ x → H b = some o → H3 b = some o := fun b o _ e => s13 _ _ e
    clear s1 s2 s3 s12 s13 ha hl ho alx
    obtain ⟨l1, _, _⟩ := okL_parts e1
    obtain ⟨l2, _, _⟩ := okL_parts e2
    obtain ⟨l3, n3, p3⟩ := okL_parts e3
    refine iteF ⟨_, rfl, ?_⟩
    refine rd_tup al3 ha3 l1 fun ta H4 s4 ht4 => ?_
    refine ⟨_, rfl, x, C, dx, _, rfl, s4 _ _ hx3, T.cls, T.na, by decide, ?_⟩
    have hta : Dp K (mask (x :: l) (upd H4 x (.ins C dx (putF "answers" (.ref ta) [])))) (.ref ta) (tupOf da) := dp_same mask_up _ _ ht4
    have hl5 : Dp K (mask (x :: l) (upd H4 x (.ins C dx (putF "answers" (.ref ta) [])))) vl dl := dp_same ((mask_same s4).trans mask_up) _ _ hl3
    have ho5 : Dp K (mask (x :: l) (upd H4 x (.ins C dx (putF "answers" (.ref ta) [])))) vo do_ := dp_same ((mask_same s4).trans mask_up) _ _ ho3
    have hx5 : (upd H4 x (.ins C dx (putF "answers" (.ref ta) []))) x = some (.ins C dx (putF "answers" (.ref ta) [])) := upd_same
    have kp5 : ∀ b o, b ≠ x → H b = some o → (upd H4 x (.ins C dx (putF "answers" (.ref ta) []))) b = some o := fun b o nb e => by rw [upd_ne nb]; exact s4 _ _ (kp3 b o nb e)
    have al5 : Alive (x :: l) (upd H4 x (.ins C dx (putF "answers" (.ref ta) []))) := fun a m => by
      by_cases q : a = x
      · rw [q]; exact ⟨_, upd_same⟩
      · rw [upd_ne q]; exact (al3.same s4) a m
    generalize upd H4 x (.ins C dx (putF "answers" (.ref ta) [])) = H5 at *
    clear s4 ht4 ha3 hl3 ho3 al3 kp3 hx3
    refine ⟨_, rfl, ?_⟩
    refine rd_tup al5 hl5 l2 fun tl H6 s6 htl => ?_
    refine ⟨_, rfl, x, C, dx, _, rfl, s6 _ _ hx5, T.cls, T.nl, by show 1 < 1000; decide, ?_⟩
    have hta : Dp K (mask (x :: l) (upd H6 x (.ins C dx (putF "lengths" (.ref tl) (putF "answers" (.ref ta) []))))) (.ref ta) (tupOf da) := dp_same ((mask_same s6).trans mask_up) _ _ hta
    have htl : Dp K (mask (x :: l) (upd H6 x (.ins C dx (putF "lengths" (.ref tl) (putF "answers" (.ref ta) []))))) (.ref tl) (tupOf dl) := dp_same mask_up _ _ htl
    have ho7 : Dp K (mask (x :: l) (upd H6 x (.ins C dx (putF "lengths" (.ref tl) (putF "answers" (.ref ta) []))))) vo do_ := dp_same ((mask_same s6).trans mask_up) _ _ ho5
    have hx7 : (upd H6 x (.ins C dx (putF "lengths" (.ref tl) (putF "answers" (.ref ta) [])))) x = some (.ins C dx (putF "lengths" (.ref tl) (putF "answers" (.ref ta) []))) := upd_same
    have kp7 : ∀ b o, b ≠ x → H b = some o → (upd H6 x (.ins C dx (putF "lengths" (.ref tl) (putF "answers" (.ref ta) [])))) b = some o := fun b o nb e => by rw [upd_ne nb]; exact s6 _ _ (kp5 b o nb e)
    have al7 : Alive (x :: l) (upd H6 x (.ins C dx (putF "lengths" (.ref tl) (putF "answers" (.ref ta) [])))) := fun a m => by
      by_cases q : a = x
      · rw [q]; exact ⟨_, upd_same⟩
      · rw [upd_ne q]; exact (al5.same s6) a m
    generalize upd H6 x (.ins C dx (putF "lengths" (.ref tl) (putF "answers" (.ref ta) []))) = H7 at *
    clear s6 hl5 ho5 al5 kp5 hx5
    -- loads
    obtain ⟨a, xs, rfl, hq, hds⟩ := dp_seq ho7 l3
    have lx := dpAll_len hds
    have core : ∀ (D : Addr), H7 D = none → ∃ Pv : Nat → Hp → Prop, Pv 0 (upd H7 D (.lst [])) ∧ (∀ i H2, Pv i H2 → Same H7 H2) ∧
        (∀ i y H2, xs[i]? = some y → Pv i H2 → rTupOf K [y] H2 fun y H4 => ∃ acc, H4 D = some (.lst acc) ∧ acc.length < sizeLine ∧ Pv (i + 1) (upd H4 D (.lst (acc ++ [y])))) ∧
        (∀ H2, Pv xs.length H2 → ∃ ys, H2 D = some (.lst ys) ∧ Same H7 H2 ∧ DpAll K (mask (x :: l) H2) ys ((mem do_).map tupOf)) := by
      intro D nD
      have nDl : D ∉ x :: l := al7.not nD
      refine ⟨fun i H2 => ∃ ys, H2 D = some (.lst ys) ∧ ys.length = i ∧ Same H7 H2 ∧ DpAll K (mask (D :: x :: l) H2) ys (((mem do_).take i).map tupOf), ⟨[], upd_same, rfl, same_new nD, .nil⟩, fun i H2 ⟨_, _, _, s, _⟩ => s, ?_, ?_⟩
      · rintro i y H2 hy ⟨ys, eD, el, s2, hys⟩
        obtain ⟨d, ed, hd⟩ := dpAll_at hds hy
        have hm := List.mem_of_getElem? ed
        have al2 : Alive (D :: x :: l) H2 := fun b m => by
          rcases List.mem_cons.mp m with rfl | m
          · exact ⟨_, eD⟩
          · exact (al7.same s2) b m
        have hd2 : Dp K (mask (D :: x :: l) H2) y d := dp_same ((mask_new nD).trans (mask_same s2)) _ _ hd
        refine rd_tup al2 hd2 (okL_parts (p3 d hm)).1 fun t H3 s3 ht => ⟨_, s3 _ _ eD, small1000 ?_, ys ++ [.ref t], upd_same, by rw [List.length_append, el]; rfl, ?_, ?_⟩
        · have := (List.getElem?_eq_some_iff.mp ed).1
          omega
        · intro b o e
          rw [upd_ne (ne_of_none e nD)]
          exact s3 _ _ (s2 _ _ e)
        · rw [List.take_add_one, ed, List.map_append]
          exact dpAll_app (dpAll_same ((mask_same s3).trans (mask_at List.mem_cons_self)) _ _ hys) (.cons (dp_same (mask_at List.mem_cons_self) _ _ ht) .nil)
      · rintro H2 ⟨ys, eD, el, s2, hys⟩
        rw [lx, List.take_length] at hys
        exact ⟨ys, eD, s2, dpAll_same mask_less _ _ hys⟩
    have fin : ∀ (D : Addr) (H2 : Hp) (ys : List V) (Q2 : VK), H2 D = some (.lst ys) → Same H7 H2 → DpAll K (mask (x :: l) H2) ys ((mem do_).map tupOf) → (∀ t H', Same H7 H' → Dp K (mask (x :: l) H') (.ref t) (.tuple ((mem do_).map tupOf)) → Q2 (.ref t) H') → rTupOf K [.ref D] H2 Q2 := fun D H2 ys Q2 eD s2 hys q2 =>
      ⟨⟨D, ys, rfl, .inl ⟨SqL.of eD, fun t nt => q2 t _ (s2.trans (same_new nt)) (.tup (SqT.of (mask_upd ((al7.same s2).not nt))) (dpAll_same (mask_same (same_new nt)) _ _ hys))⟩⟩⟩
    have last : ∀ t H', Same H7 H' → Dp K (mask (x :: l) H') (.ref t) (.tuple ((mem do_).map tupOf)) → Q .non (upd H' x (.ins C dx (putF "loads" (.ref t) (putF "lengths" (.ref tl) (putF "answers" (.ref ta) []))))) := fun t H' s ht => by
      have s9 := (mask_same (l := x :: l) s).trans (mask_up (o := .ins C dx (putF "loads" (.ref t) (putF "lengths" (.ref tl) (putF "answers" (.ref ta) [])))))
      refine kk e1 e2 e3 _ (fun b o nb e => ?_) ⟨nxl, dx, ta, tl, t, upd_same, dp_same s9 _ _ hta, dp_same s9 _ _ htl, dp_same mask_up _ _ ht⟩
      rw [upd_ne nb]
      exact s _ _ (kp7 b o nb e)
    rcases hq (Same.refl _) with h | h
    · refine .inl ⟨_, rfl, a, rfl, ⟨_, (mask_sub _ _).seq h⟩, fun D nD => ?_⟩
      obtain ⟨Pv, p0, p1, p2, p3⟩ := core D nD
      refine lc_list (K := K) (a := a) (xs := xs) Pv p0 (fun i H2 _ hp => (p1 i H2 hp).seq ((mask_sub _ _).seq h)) (fun i y H2 hy hp => ⟨rfl, _, rfl, p2 i y H2 hy hp⟩) fun H2 hp => ?_
      obtain ⟨ys, eD, s2, hys⟩ := p3 H2 hp
      refine fin D H2 ys _ eD s2 hys fun t H' s ht => ?_
      exact ⟨_, rfl, x, C, dx, _, rfl, s _ _ hx7, T.cls, T.no, by show 2 < 1000; decide, last t H' s ht⟩
    · refine .inr ⟨_, rfl, a, rfl, ⟨_, Same.seqT (mask_sub _ _) h⟩, fun D nD => ?_⟩
      obtain ⟨Pv, p0, p1, p2, p3⟩ := core D nD
      refine lc_tup (K := K) (a := a) (xs := xs) Pv p0 (fun i H2 _ hp => Same.seqT (p1 i H2 hp) (Same.seqT (mask_sub _ _) h)) (fun i y H2 hy hp => ⟨rfl, _, rfl, p2 i y H2 hy hp⟩) fun H2 hp => ?_
      obtain ⟨ys, eD, s2, hys⟩ := p3 H2 hp
      refine fin D H2 ys _ eD s2 hys fun t H' s ht => ?_
      exact ⟨_, rfl, x, C, dx, _, rfl, s _ _ hx7, T.cls, T.no, by show 2 < 1000; decide, last t H' s ht⟩
end
/-! ### _law_names -/
theorem abc_is (k : Nat) (h : k < 26) : abc.cps.toList[k]? = some (97 + k) := by
  have all : ∀ k : Fin 26, abc.cps.toList[k.val]? = some (97 + k.val) := by decide +kernel
  exact all ⟨k, h⟩
theorem cps_app (a b : Str) : (a ++ b).cps.toList = a.cps.toList ++ b.cps.toList := by
  show (a.cps ++ b.cps).toList = _
  rw [Array.toList_append]
/-- the sign that tells a name from the others -/
def signOf (fr : Bool) (z : Str) : Option Nat := if fr = true then z.cps.toList.head? else z.cps.toList.getLast?
theorem sign_front (c : Nat) (w : Str) : signOf true ((⟨#[c]⟩ : Str) ++ w) = some c := by
  unfold signOf
  rw [if_pos rfl, cps_app]
  rfl
theorem sign_back (c : Nat) (w : Str) : signOf false (w ++ (⟨#[c]⟩ : Str)) = some c := by
  unfold signOf
  rw [if_neg (by decide), cps_app]
  show (w.cps.toList ++ [c]).getLast? = some c
  rw [List.getLast?_append]
  rfl
theorem signs_nodup {fr : Bool} {ns : List Str} (h : ∀ (j : Nat) (z : Str), ns[j]? = some z → signOf fr z = some (97 + j)) : ns.Nodup := by
  refine List.pairwise_iff_getElem.mpr fun i j hi hj hij e => ?_
  have h1 := h i _ (List.getElem?_eq_getElem hi)
  have h2 := h j _ (List.getElem?_eq_getElem hj)
  rw [e, h2] at h1
  have := Option.some.inj h1
  omega
theorem strLen_one (c : Nat) : (⟨#[c]⟩ : Str).length = 1 := rfl
def spLNames : Sp := fun vs H Q _ => ∃ (p q : Addr) (n many : Nat), vs = [.ref p, .int (many : Int)] ∧ PoolAt H p q n ∧ n < 900000 ∧ many ≤ 26 ∧
  ∀ (r : Addr) (ns : List Str) (n' : Nat) (H' : Hp), H r = none → ns.length = many → (∀ x ∈ ns, IsWord x) → ns.Nodup → n ≤ n' → n' ≤ n + 2 + 8 * many → PoolAt H' p q n' → Keeps p q H H' → H' r = some (.lst (ns.map V.str)) → Q (.ref r) H'
section
variable {P : Program} {w : World} {K : PySem.W.Frag} {mg : Str → Option Value} {base : Heap}
theorem scLN : FnScope ["pool", "many", "letters", "size", "front", "names", "k", "word", "j"] ["pool", "many"] (defScope sLNames) := ⟨rfl, rfl, rfl, by decide +kernel, rfl, by decide +kernel, by decide +kernel⟩
theorem ok_lnames {f fD : Addr} {fd fdD : FuncData} (F : Fun K "_law_names" "_law_names" sLNames f fd) (GD : FnOk P w K mg base CX0 1 fD fdD ["pool", "many"] spDraw) (mD : mg "_law_draw" = some (.ref fD)) (kD : PySem.W.keepIn K (.ref fD) = true)
    (bD : Binds K fdD ["pool", "many"] []) (mr : mg "range" = none) : FnOk P w K mg base CX0 2 f fd ["pool", "many"] spLNames := by
  refine F.ok scLN (fun vs H Q E h => ?_) (fun cdv A outer s H vs Q E hr h => ?_)
  · obtain ⟨p, q, n, many, rfl, _⟩ := h
    rfl
  · obtain ⟨p, q, n, many, rfl, hP, hn, hm, kk⟩ := h
    refine ⟨_, pss_cons (ps_set (i := 2) scLN.nd rfl (.inr rfl) pe_str)
      (pss_cons (ps_set (i := 3) scLN.nd rfl (.inl rfl) (pe_call GD hr (by rfl) mD kD bD .nil pass0 (pa_cons (pv 0) (pa_cons pe_int pa_nil))))
      (pss_cons (ps_set (i := 4) scLN.nd rfl (.inl rfl) (pe_call GD hr (by rfl) mD kD bD .nil pass0 (pa_cons (pv 0) (pa_cons pe_int pa_nil))))
      (pss_cons (ps_set (i := 5) scLN.nd rfl (.inl rfl) (pe_lst pa_nil))
      (pss_cons (ps_for PassesOwn.never rfl (pi_range1 (by rfl) mr (pa_cons (pv 1) pa_nil)) (pg_name (i := 6) scLN.nd rfl (.inl rfl))
        (pss_cons (ps_set (i := 7) scLN.nd rfl (.inl rfl) (pe_join pe_str (pe_lc (own := [("j", 8)]) (g := gName 8) (tt := tYes) rfl scLN.nd
            (pi_range1 (by rfl) mr (pa_cons (pv 3) pa_nil)) (blkOk_by (N := ["pool", "many", "letters", "size", "front", "names", "k", "word", "j"]) (sc := defScope sLNames) (by decide +kernel))
            (fun _ _ _ _ _ => pg_name (i := 8) scLN.nd rfl (.inl rfl)) (fun _ _ _ _ _ => pts_nil)
            (fun _ _ _ _ _ => pe_ix ix_str (pv 2) (pe_call GD hr (by rfl) mD kD bD .nil pass0 (pa_cons (pv 0) (pa_cons pe_int pa_nil))) (fun _ _ => rfl)))))
        (pss_one (ps_expr (pe_bm PySem.F.plainAttrs_list PySem.F.slot_list_append PySem.F.type_list_append mt_append (pv 5)
          (pa_cons (pe_ifExp (pt_truth (pv 4) (by intro _; rfl)) (pe_op op_add_str (pe_ix ix_str (pv 2) (pv 6) (fun _ _ => rfl)) (pv 7)) (pe_op op_add_str (pv 7) (pe_ix ix_str (pv 2) (pv 6) (fun _ _ => rfl)))) pa_nil))))))
      (pss_one (ps_ret (pv 5))))))), ?_⟩
    refine ⟨.ref p, rfl, p, q, n, 8, rfl, hP, by omega, by decide, by decide, fun d H1 h0 h1 P1 K1 => ?_⟩
    refine ⟨.ref p, rfl, p, q, n + 1, 2, rfl, P1, by omega, by decide, by decide, fun fr H2 f0 f1 P2 K2 => ?_⟩
    refine ⟨by show 0 ≤ sizeLine; decide, fun r nr => ?_⟩
    have K12 : Keeps p q H H2 := K1.trans K2
    have alv : Alive [p, q] H2 := P2.alive
    have nrp : r ≠ p := fun z => alv.not nr (by rw [z]; exact List.mem_cons_self)
    have nrq : r ≠ q := fun z => alv.not nr (by rw [z]; exact List.mem_cons_of_mem _ List.mem_cons_self)
    have nrH : H r = none := K12.free nr nrp nrq
    have er : (upd H2 r (.lst [])) r = some (.lst (([] : List Str).map V.str)) := upd_same
    have P3 : PoolAt (upd H2 r (.lst [])) p q (n + 2) := P2.new nr
    have K3 : Keeps p q H (upd H2 r (.lst [])) := K12.trans (.upd_new nr)
    generalize upd H2 r (.lst []) = H3 at *
    have fb : ∃ fb : Bool, fb = (fr != 0) := ⟨_, rfl⟩
    obtain ⟨fb, efb⟩ := fb
    refine ⟨_, rfl, many, rfl, by omega, by omega, for_range (lo := 0) (n := many) (fun i σ H4 => ∃ (y6 y7 : Option V) (ns : List Str) (m : Nat), σ = [some (.ref p), some (.int (many : Int)), some (.str abc), some (.int d), some (.int fr), some (.ref r), y6, y7, none] ∧
        H4 r = some (.lst (ns.map V.str)) ∧ ns.length = i ∧ (∀ x ∈ ns, IsWord x) ∧ (∀ (j : Nat) (z : Str), ns[j]? = some z → signOf fb z = some (97 + j)) ∧ n ≤ m ∧ m ≤ n + 2 + 8 * i ∧ PoolAt H4 p q m ∧ (∀ x o, x ≠ p → x ≠ q → x ≠ r → H3 x = some o → H4 x = some o))
      ⟨none, none, [], n + 2, rfl, er, rfl, fun x h => (by cases h), fun j z h => (by simp at h), by omega, by omega, P3, fun x o _ _ _ e => e⟩ ?_ ?_⟩
    · rintro i σ H4 hi ⟨y6, y7, ns, m, rfl, eN, el, hw, hsg, hm1, hm2, P4, K4⟩
      refine ⟨⟨_, rfl⟩, .int d, rfl, d, rfl, by omega, by omega, fun D nD => ?_⟩
      obtain ⟨op, ep⟩ := P4.p_some
      obtain ⟨oq, eq⟩ := P4.q_some
      have nDp : D ≠ p := (ne_of_none ep nD).symm
      have nDq : D ≠ q := (ne_of_none eq nD).symm
      have nDr : D ≠ r := (ne_of_none eN nD).symm
      refine lc_range (lo := 0) (n := d.toNat) (fun j H5 => ∃ ys : List Str, H5 D = some (.lst (ys.map V.str)) ∧ ys.length = j ∧ (∀ y ∈ ys, ∃ c, y = ⟨#[c]⟩ ∧ 97 ≤ c ∧ c ≤ 122) ∧ PoolAt H5 p q (m + j) ∧ Keeps p q H4 H5)
        ⟨[], upd_same, rfl, fun y hy => (by cases hy), P4.new nD, .upd_new nD⟩ (fun j H5 hj hI => ?_) (fun H5 hI => ?_)
      · obtain ⟨ys, eD, el2, hy, P5, K5⟩ := hI
        refine ⟨rfl, ?_⟩
        refine ⟨_, rfl, _, rfl, p, q, m + j, 26, rfl, P5, by omega, by decide, by decide, fun d2 H6 h02 h12 P6 K6 => ?_⟩
        obtain ⟨c, ec, hc1, hc2⟩ := abc_at d2 h02 h12
        have eD6 : H6 D = some (.lst (ys.map V.str)) := K6 D _ nDp nDq eD
        refine ⟨abc, d2, c, rfl, rfl, by rw [abc_len]; decide, ec, _, eD6, small1000 (by rw [List.length_map]; omega), ys ++ [⟨#[c]⟩], ?_, by simp [el2], fun y hm => ?_, ?_, ?_⟩
        · rw [upd_same, List.map_append]; rfl
        · rcases List.mem_append.mp hm with hm | hm
          · exact hy y hm
          · exact ⟨c, List.mem_singleton.mp hm, hc1, hc2⟩
        · have e : m + (j + 1) = m + j + 1 := by omega
          rw [e]
          obtain ⟨npq, cs, b, c0, e1, e2, r⟩ := P6
          exact ⟨npq, cs, b, c0, by rw [upd_ne nDp.symm]; exact e1, by rw [upd_ne nDq.symm]; exact e2, r⟩
        · intro x o hx1 hx2 nH
          have ex := K6 x o hx1 hx2 (K5 x o hx1 hx2 nH)
          by_cases hxD : x = D
          · subst hxD
            rw [nH] at nD
            cases nD
          · rw [upd_ne hxD]; exact ex
      · obtain ⟨ys, eD, el2, hy, P5, K5⟩ := hI
        obtain ⟨j1, j2⟩ := join_letters (sep := "") (by decide +kernel) ys hy
        have e1 : ∀ y ∈ ys, y.length = 1 := fun y hm => by
          obtain ⟨c, rfl, _⟩ := hy y hm
          rfl
        have e2 : (ys.map (·.length)).sum = ys.length := sum_ones _ e1
        refine ⟨_, D, ys, rfl, rfl, .inl (SqL.of eD), ?_, ?_⟩
        · rw [e2, show (Str.ofString "").length = 0 by decide +kernel]; omega
        rw [show Txt.join _ ys = Str.join _ ys from StrLaws.glued_eq_join _ _]
        generalize hwd : Str.join _ ys = wd at j1 j2 ⊢
        have eN5 : H5 r = some (.lst (ns.map V.str)) := K5 r _ nrp nrq eN
        have hk : abc.cps.toList[i]? = some (97 + i) := abc_is i (by omega)
        have hat : atI abc.cps.toList (0 + (i : Int)) = some (97 + i) := by rw [Int.zero_add]; exact atI_nat hk
        have fin : ∀ z : Str, IsWord z → signOf fb z = some (97 + i) → ∃ (y6 y7 : Option V) (ns' : List Str) (m' : Nat), [some (V.ref p), some (.int (many : Int)), some (.str abc), some (.int d), some (.int fr), some (.ref r), some (.int (0 + (i : Int))), some (.str wd), none] = [some (V.ref p), some (.int (many : Int)), some (.str abc), some (.int d), some (.int fr), some (.ref r), y6, y7, none] ∧
            (upd H5 r (.lst (ns.map V.str ++ [.str z]))) r = some (.lst (ns'.map V.str)) ∧ ns'.length = i + 1 ∧ (∀ x ∈ ns', IsWord x) ∧ (∀ (j : Nat) (z : Str), ns'[j]? = some z → signOf fb z = some (97 + j)) ∧ n ≤ m' ∧ m' ≤ n + 2 + 8 * (i + 1) ∧ PoolAt (upd H5 r (.lst (ns.map V.str ++ [.str z]))) p q m' ∧ (∀ x o, x ≠ p → x ≠ q → x ≠ r → H3 x = some o → (upd H5 r (.lst (ns.map V.str ++ [.str z]))) x = some o) := fun z hz hs => by
          refine ⟨_, _, ns ++ [z], m + d.toNat, rfl, by rw [upd_same, List.map_append]; rfl, by rw [List.length_append, el]; rfl, fun x hx => ?_, fun j z' ej => ?_, by omega, by omega, ?_, fun x o h1 h2 h3 e => ?_⟩
          · rcases List.mem_append.mp hx with hx | hx
            · exact hw x hx
            · rw [List.mem_singleton.mp hx]; exact hz
          · by_cases q1 : j < ns.length
            · rw [List.getElem?_append_left q1] at ej
              exact hsg j z' ej
            · rw [List.getElem?_append_right (by omega)] at ej
              have ej0 : j = i := by
                have := (List.getElem?_eq_some_iff.mp ej).1
                simp only [List.length_cons, List.length_nil] at this
                omega
              subst ej0
              rw [el, Nat.sub_self] at ej
              cases Option.some.inj ej
              exact hs
          · obtain ⟨npq, cs, b, c0, e1, e2, r'⟩ := P5
            exact ⟨npq, cs, b, c0, by rw [upd_ne nrp.symm]; exact e1, by rw [upd_ne nrq.symm]; exact e2, r'⟩
          · rw [upd_ne h3]
            exact K5 x o h1 h2 (K4 x o h1 h2 h3 e)
        have len1 : ∀ c : Nat, (⟨#[c]⟩ : Str).length = 1 := fun _ => rfl
        have l8 : ys.length = d.toNat := el2
        refine ⟨_, rfl, .inl ⟨rfl, _, SqL.of eN5⟩, _, rfl, fb, ?_, ?_⟩
        · rw [efb]; rfl
        · cases efb2 : fb with
          | true =>
            rw [efb2] at fin
            refine iteT ⟨_, rfl, _, rfl, abc, _, _, rfl, rfl, by rw [abc_len]; decide, hat, _, rfl, _, _, rfl, rfl, ?_, ?_⟩
            · rw [len1]; exact len1000 (by omega)
            · refine ⟨r, _, _, rfl, rfl, eN5, small1000 (by rw [List.length_map]; omega), ?_⟩
              refine fin _ ⟨?_, ?_, fun c hc => ?_⟩ (sign_front _ _)
              · rw [strLen_append, len1]; omega
              · rw [strLen_append, len1]; omega
              · rw [cps_app] at hc
                rcases List.mem_append.mp hc with hc | hc
                · rw [List.mem_singleton.mp hc]; omega
                · exact j2 c hc
          | false =>
            rw [efb2] at fin
            refine iteF ⟨_, rfl, _, rfl, _, rfl, abc, _, _, rfl, rfl, by rw [abc_len]; decide, hat, _, _, rfl, rfl, ?_, ?_⟩
            · rw [len1]; exact len1000 (by omega)
            · refine ⟨r, _, _, rfl, rfl, eN5, small1000 (by rw [List.length_map]; omega), ?_⟩
              refine fin _ ⟨?_, ?_, fun c hc => ?_⟩ (sign_back _ _)
              · rw [strLen_append, len1]; omega
              · rw [strLen_append, len1]; omega
              · rw [cps_app] at hc
                rcases List.mem_append.mp hc with hc | hc
                · exact j2 c hc
                · rw [List.mem_singleton.mp hc]; omega
    · rintro σ H4 ⟨y6, y7, ns, m, rfl, eN, el, hw, hsg, hm1, hm2, P4, K4⟩
      refine ⟨_, rfl, ?_⟩
      exact kk r ns m H4 nrH el hw (signs_nodup hsg) hm1 hm2 P4 (fun x o h1 h2 e => K4 x o h1 h2 (ne_of_none e nrH) (K3 x o h1 h2 e)) eN
end
/-! ### a triple drawn -/
/-- what _law_triple makes -/
structure TripAt (H : Hp) (r a b c : Addr) (ts : List Addr) (says : List Bool) (sizes : List Int) (loads : List (List Str)) : Prop where
  hr : H r = some (.lst [.ref a, .ref b, .ref c])
  ha : H a = some (.lst (says.map V.bl))
  hb : H b = some (.lst (sizes.map V.int))
  hc : H c = some (.lst (ts.map V.ref))
  ht : Paired (fun t load => H t = some (.tup (load.map V.str))) ts loads
structure TripOk (most : Nat) (says : List Bool) (sizes : List Int) (loads : List (List Str)) : Prop where
  l1 : says.length < most
  l2 : sizes.length < most
  l3 : loads.length < most
  s : ∀ n ∈ sizes, 0 ≤ n ∧ n ≤ longest
  o : ∀ load ∈ loads, load.length ≤ 4 ∧ ∀ x ∈ load, IsWord x
def spTriple : Sp := fun vs H Q _ => ∃ (p q : Addr) (n most : Nat), vs = [.ref p, .int (most : Int)] ∧ PoolAt H p q n ∧ n < 800000 ∧ 0 < most ∧ most ≤ 40 ∧
  ∀ (r a b c : Addr) (ts : List Addr) (says : List Bool) (sizes : List Int) (loads : List (List Str)) (n' : Nat) (H' : Hp), (∀ y ∈ r :: a :: b :: c :: ts, H y = none) → r ∉ a :: b :: c :: ts → TripAt H' r a b c ts says sizes loads → TripOk most says sizes loads → n ≤ n' → n' ≤ n + 3000 → PoolAt H' p q n' → Keeps p q H H' → Q (.ref r) H'
theorem Keeps.newOf {p q a : Addr} {H H1 : Hp} {n : Nat} (k : Keeps p q H H1) (P : PoolAt H1 p q n) (na : H1 a = none) : H a = none ∧ a ≠ p ∧ a ≠ q := by
  have al := P.alive
  have nl := al.not na
  have h1 : a ≠ p := fun e => nl (by rw [e]; exact List.mem_cons_self)
  have h2 : a ≠ q := fun e => nl (by rw [e]; exact List.mem_cons_of_mem _ List.mem_cons_self)
  exact ⟨k.free na h1 h2, h1, h2⟩
theorem PoolAt.upd {H : Hp} {p q a : Addr} {n : Nat} {o : HO} (P : PoolAt H p q n) (h1 : a ≠ p) (h2 : a ≠ q) : PoolAt (upd H a o) p q n := by
  obtain ⟨npq, cs, b, c0, e1, e2, r⟩ := P
  exact ⟨npq, cs, b, c0, by rw [upd_ne h1.symm]; exact e1, by rw [upd_ne h2.symm]; exact e2, r⟩
theorem Keeps.updNew {p q a : Addr} {H H1 : Hp} {o : HO} (k : Keeps p q H H1) (na : H a = none) : Keeps p q H (upd H1 a o) := fun x u h1 h2 e => by
  rw [upd_ne (ne_of_none e na)]; exact k x u h1 h2 e
theorem atI_pos {α : Type} {xs : List α} {i : Int} {v : α} (h : 0 ≤ i) (e : xs[i.toNat]? = some v) : atI xs i = some v := by
  obtain ⟨k, rfl⟩ : ∃ k : Nat, i = (k : Int) := ⟨i.toNat, by omega⟩
  exact atI_nat e
theorem pow30 : ((10 : Int) ^ (30 : Int).toNat) = longest := rfl
theorem paired_len {α β : Type} {R : α → β → Prop} : ∀ {xs : List α} {ys : List β}, Paired R xs ys → xs.length = ys.length
  | _, _, .nil => rfl
  | _, _, .cons _ t => by rw [List.length_cons, List.length_cons, paired_len t]
theorem paired_imp {α β : Type} {R S : α → β → Prop} : ∀ {xs : List α} {ys : List β}, Paired R xs ys → (∀ x y, x ∈ xs → R x y → S x y) → Paired S xs ys
  | _, _, .nil, _ => .nil
  | _, _, .cons h t, f => .cons (f _ _ List.mem_cons_self h) (paired_imp t fun x y m r => f x y (List.mem_cons_of_mem _ m) r)
theorem paired_snoc {α β : Type} {R : α → β → Prop} : ∀ {xs : List α} {ys : List β} {x : α} {y : β}, Paired R xs ys → R x y → Paired R (xs ++ [x]) (ys ++ [y])
  | _, _, _, _, .nil, h => .cons h .nil
  | _, _, _, _, .cons h t, r => .cons h (paired_snoc t r)
theorem paired_mem {α β : Type} {R : α → β → Prop} : ∀ {xs : List α} {ys : List β} {x : α}, Paired R xs ys → x ∈ xs → ∃ y ∈ ys, R x y
  | _, _, _, .cons h t, m => by
    rcases List.mem_cons.mp m with rfl | m
    · exact ⟨_, List.mem_cons_self, h⟩
    · obtain ⟨y, hy, r⟩ := paired_mem t m
      exact ⟨y, List.mem_cons_of_mem _ hy, r⟩
section
variable {P : Program} {w : World} {K : PySem.W.Frag} {mg : Str → Option Value} {base : Heap}
theorem scTp : FnScope ["pool", "most", "says", "k", "sizes", "pick", "near", "far", "stocks", "names", "j"] ["pool", "most"] (defScope sTriple) := ⟨rfl, rfl, rfl, by decide +kernel, rfl, by decide +kernel, by decide +kernel⟩
theorem ok_triple {f fD fL : Addr} {fd fdD fdL : FuncData} (F : Fun K "_law_triple" "_law_triple" sTriple f fd) (B : Bts mg) (GD : FnOk P w K mg base CX0 1 fD fdD ["pool", "many"] spDraw) (mD : mg "_law_draw" = some (.ref fD)) (kD : PySem.W.keepIn K (.ref fD) = true)
    (bD : Binds K fdD ["pool", "many"] []) (GL : FnOk P w K mg base CX0 2 fL fdL ["pool", "many"] spLNames) (mL : mg "_law_names" = some (.ref fL)) (kL : PySem.W.keepIn K (.ref fL) = true) (bL : Binds K fdL ["pool", "many"] []) : FnOk P w K mg base CX0 3 f fd ["pool", "most"] spTriple := by
  refine F.ok scTp (fun vs H Q E h => ?_) (fun cdv A outer s H vs Q E hr h => ?_)
  · obtain ⟨p, q, n, most, rfl, _⟩ := h
    rfl
  · obtain ⟨p, q, n, most, rfl, hP, hn, hm0, hm1, kk⟩ := h
    have hrD : Room 1 _ := hr.mono (by decide)
    have hrL : Room 2 _ := hr.mono (by decide)
    refine ⟨_, pss_cons (ps_setLc (i := 2) (own := [("k", 3)]) (g := gName 3) (tt := tYes) rfl scTp.nd rfl rfl (sw_true rfl rfl rfl (by decide +kernel)) (pi_range1 (by rfl) B.range (pa_cons (pe_call GD hrD (by rfl) mD kD bD .nil pass0 (pa_cons (pv 0) (pa_cons (pv 1) pa_nil))) pa_nil)) (blkOk_by (N := ["pool", "most", "says", "k", "sizes", "pick", "near", "far", "stocks", "names", "j"]) (sc := defScope sTriple) (by decide +kernel)) (fun _ _ _ _ _ => (pg_name (i := 3) scTp.nd rfl (.inl rfl))) (fun _ _ _ _ _ => pts_nil) (fun _ _ _ _ _ => (pe_cmpR op_eq (pe_call GD hrD (by rfl) mD kD bD .nil pass0 (pa_cons (pv 0) (pa_cons pe_int pa_nil))) pe_int (nomark _))))
      (pss_cons (ps_set (i := 4) scTp.nd rfl (.inl rfl) (pe_lst pa_nil))
      (pss_cons (ps_for PassesOwn.never rfl (pi_range1 (by rfl) B.range (pa_cons (pe_call GD hrD (by rfl) mD kD bD .nil pass0 (pa_cons (pv 0) (pa_cons (pv 1) pa_nil))) pa_nil)) (pg_name (i := 3) scTp.nd rfl (.inl rfl))
        (pss_cons (ps_set (i := 5) scTp.nd rfl (.inl rfl) (pe_call GD hrD (by rfl) mD kD bD .nil pass0 (pa_cons (pv 0) (pa_cons pe_int pa_nil))))
          (pss_cons (ps_set (i := 6) scTp.nd rfl (.inl rfl) (pe_call GD hrD (by rfl) mD kD bD .nil pass0 (pa_cons (pv 0) (pa_cons pe_int pa_nil))))
          (pss_cons (ps_set (i := 7) scTp.nd rfl (.inl rfl) (pe_call GD hrD (by rfl) mD kD bD .nil pass0 (pa_cons (pv 0) (pa_cons (pe_op op_add (pe_op op_pow pe_int pe_int) pe_int) pa_nil))))
          (pss_one (ps_expr (pe_bm PySem.F.plainAttrs_list PySem.F.slot_list_append PySem.F.type_list_append mt_append (pv 4) (pa_cons (pe_ix ix_list (pe_lst (pa_cons (pe_op op_sub (pe_op op_pow pe_int pe_int) (pv 6)) (pa_cons (pv 6) (pa_cons (pv 7) (pa_cons (pv 7) pa_nil))))) (pv 5) (fun _ _ => rfl)) pa_nil))))))))
      (pss_cons (ps_set (i := 8) scTp.nd rfl (.inl rfl) (pe_lst pa_nil))
      (pss_cons (ps_for PassesOwn.never rfl (pi_range1 (by rfl) B.range (pa_cons (pe_call GD hrD (by rfl) mD kD bD .nil pass0 (pa_cons (pv 0) (pa_cons (pv 1) pa_nil))) pa_nil)) (pg_name (i := 3) scTp.nd rfl (.inl rfl))
        (pss_cons (ps_set (i := 9) scTp.nd rfl (.inr rfl) (pe_call GL hrL (by rfl) mL kL bL .nil pass0 (pa_cons (pv 0) (pa_cons pe_int pa_nil))))
          (pss_one (ps_expr (pe_bm PySem.F.plainAttrs_list PySem.F.slot_list_append PySem.F.type_list_append mt_append (pv 8) (pa_cons (pe_callTy call_tupS (by rfl) B.tuple (by decide +kernel) (pa_cons (pe_lc (own := [("j", 10)]) (g := gName 10) (tt := tYes) rfl scTp.nd (pi_range1 (by rfl) B.range (pa_cons (pe_call GD hrD (by rfl) mD kD bD .nil pass0 (pa_cons (pv 0) (pa_cons pe_int pa_nil))) pa_nil)) (blkOk_by (N := ["pool", "most", "says", "k", "sizes", "pick", "near", "far", "stocks", "names", "j"]) (sc := defScope sTriple) (by decide +kernel)) (fun _ _ _ _ _ => (pg_name (i := 10) scTp.nd rfl (.inl rfl))) (fun _ _ _ _ _ => pts_nil) (fun _ _ _ _ _ => (pe_ix (ixK (K := K) (r := rIxL) ix_list) (pv 9) (pe_call GD hrD (by rfl) mD kD bD .nil pass0 (pa_cons (pv 0) (pa_cons pe_int pa_nil))) (fun _ _ => rfl)))) pa_nil)) pa_nil))))))
      (pss_one (ps_ret (pe_lst (pa_cons (pv 2) (pa_cons (pv 4) (pa_cons (pv 8) pa_nil)))))))))), ?_⟩
    have m40 : (most : Int) ≤ 10 ^ 40 := Int.le_trans (by omega : (most : Int) ≤ 100) (by decide)
    -- says
    refine ⟨_, rfl, _, rfl, p, q, n, most, rfl, hP, by omega, by omega, m40, fun d H1 d0 d1 P1 K1 => ?_⟩
    refine ⟨d, rfl, by omega, by omega, fun a na => ?_⟩
    obtain ⟨naH, nap, naq⟩ := K1.newOf P1 na
    refine lc_range (lo := 0) (n := d.toNat) (fun i H2 => ∃ says : List Bool, H2 a = some (.lst (says.map V.bl)) ∧ says.length = i ∧ PoolAt H2 p q (n + 1 + i) ∧ Keeps p q H H2)
      ⟨[], upd_same, rfl, P1.new na, K1.trans (.upd_new na)⟩ (fun i H2 hi ⟨says, eD, el, P2, K2⟩ => ?_) (fun H2 ⟨says, eD, el, P2, K2⟩ => ?_)
    · refine ⟨rfl, _, rfl, p, q, _, 2, rfl, P2, by omega, by decide, by decide, fun d2 H3 _ _ P3 K3 => ⟨rfl, _, K3 _ _ nap naq eD, small1000 (by rw [List.length_map]; omega), says ++ [decide (V.int d2 = V.int 1)], ?_, by rw [List.length_append, el]; rfl, ?_, ?_⟩⟩
      · rw [upd_same, List.map_append]; rfl
      · rw [show n + 1 + (i + 1) = n + 1 + i + 1 by omega]; exact P3.upd nap naq
      · exact (K2.trans K3).updNew naH
    have lsays : says.length < most := by omega
    have hn2 : n + 1 + d.toNat < 800000 + 100 := by omega
    generalize hm2 : n + 1 + d.toNat = m2 at P2 hn2
    have lm2 : n ≤ m2 ∧ m2 ≤ n + 41 := by omega
    -- sizes
    refine ⟨by show 0 ≤ sizeLine; decide, fun b nb => ?_⟩
    obtain ⟨nbH, nbp, nbq⟩ := K2.newOf P2 nb
    have nba : b ≠ a := (ne_of_none eD nb).symm
    refine ⟨_, rfl, _, rfl, p, q, m2, most, rfl, P2.new nb, by omega, by omega, m40, fun e H3 e0 e1 P3 K3 => ?_⟩
    have K23 := (K2.trans (.upd_new nb)).trans K3
    refine ⟨e, rfl, by omega, by omega, for_range (lo := 0) (n := e.toNat) (fun i σ H4 => ∃ (y3 y5 y6 y7 : Option V) (sizes : List Int) (m : Nat), σ = [some (.ref p), some (.int (most : Int)), some (.ref a), y3, some (.ref b), y5, y6, y7, none, none, none] ∧
        H4 a = some (.lst (says.map V.bl)) ∧ H4 b = some (.lst (sizes.map V.int)) ∧ sizes.length = i ∧ (∀ z ∈ sizes, 0 ≤ z ∧ z ≤ longest) ∧ m2 + 1 ≤ m ∧ m ≤ m2 + 1 + 3 * i ∧ PoolAt H4 p q m ∧ Keeps p q H H4)
      ⟨none, none, none, none, [], m2 + 1, rfl, K3 _ _ nap naq (same_new nb _ _ eD), K3 _ _ nbp nbq upd_same, rfl, fun z h => (nomatch h), by omega, by omega, P3, K23⟩ ?_ ?_⟩
    · rintro i σ H4 hi ⟨y3, y5, y6, y7, sizes, m, rfl, ea, eb, el2, hs, lm, lm', P4, K4⟩
      refine ⟨_, rfl, p, q, m, 4, rfl, P4, by omega, by decide, by decide, fun pk H5 pk0 pk1 P5 K5 => ?_⟩
      refine ⟨_, rfl, p, q, m + 1, 100, rfl, P5, by omega, by decide, by decide, fun nr H6 nr0 nr1 P6 K6 => ?_⟩
      refine ⟨_, rfl, _, _, rfl, rfl, ⟨by decide, by decide, by decide⟩, _, _, rfl, rfl, ?_⟩
      refine ⟨p, q, m + 1 + 1, _, rfl, P6, by omega, by decide, by decide, fun fa H7 fa0 fa1 P7 K7 => ?_⟩
      rw [pow30] at fa1
      have K57 := (K5.trans K6).trans K7
      have ea7 := K57 _ _ nap naq ea
      have eb7 := K57 _ _ nbp nbq eb
      refine ⟨_, rfl, .inl ⟨rfl, _, SqL.of eb7⟩, _, _, rfl, rfl, ⟨by decide, by decide, by decide⟩, _, rfl, _, _, rfl, rfl, _, rfl, _, rfl, _, rfl, by show 4 ≤ sizeLine; decide, fun g ng => ?_⟩
      obtain ⟨ngH, ngp, ngq⟩ := ((K4.trans K57).newOf P7 ng)
      have s8 := same_new (o := .lst [.int ((10 : Int) ^ (30 : Int).toNat - nr), .int nr, .int fa, .int fa]) ng
      have P8 := P7.new (o := .lst [.int ((10 : Int) ^ (30 : Int).toNat - nr), .int nr, .int fa, .int fa]) ng
      have K8 := (K4.trans K57).trans (Keeps.upd_new (o := .lst [.int ((10 : Int) ^ (30 : Int).toNat - nr), .int nr, .int fa, .int fa]) ng)
      have eg : (upd H7 g (.lst [.int ((10 : Int) ^ (30 : Int).toNat - nr), .int nr, .int fa, .int fa])) g = some (.lst [.int ((10 : Int) ^ (30 : Int).toNat - nr), .int nr, .int fa, .int fa]) := upd_same
      have ea8 := s8 _ _ ea7
      have eb8 := s8 _ _ eb7
      generalize upd H7 g (.lst [.int ((10 : Int) ^ (30 : Int).toNat - nr), .int nr, .int fa, .int fa]) = H8 at *
      have at_ : ∃ z : Int, atI [V.int ((10 : Int) ^ (30 : Int).toNat - nr), .int nr, .int fa, .int fa] pk = some (.int z) ∧ 0 ≤ z ∧ z ≤ longest := by
        have big : (100 : Int) ≤ longest := by decide
        obtain rfl | rfl | rfl | rfl : pk = 0 ∨ pk = 1 ∨ pk = 2 ∨ pk = 3 := by omega
        · exact ⟨longest - nr, atI_nat (j := 0) rfl, by omega, by omega⟩
        · exact ⟨nr, atI_nat (j := 1) rfl, by omega, by omega⟩
        · exact ⟨fa, atI_nat (j := 2) rfl, by omega, by omega⟩
        · exact ⟨fa, atI_nat (j := 3) rfl, by omega, by omega⟩
      obtain ⟨z, ez, hz⟩ := at_
      refine ⟨_, rfl, g, _, pk, _, rfl, rfl, SqL.of eg, ez, b, _, _, rfl, rfl, eb8, small1000 (by rw [List.length_map]; omega), ?_⟩
      refine ⟨_, _, _, _, sizes ++ [z], m + 1 + 1 + 1, rfl, by rw [upd_ne nba.symm]; exact ea8, by rw [upd_same, List.map_append]; rfl, by rw [List.length_append, el2]; rfl, fun z' hz' => ?_, by omega, by omega, P8.upd nbp nbq, K8.updNew nbH⟩
      rcases List.mem_append.mp hz' with h | h
      · exact hs z' h
      · rw [List.mem_singleton.mp h]; exact hz
    rintro σ H4 ⟨y3, y5, y6, y7, sizes, m, rfl, ea, eb, el2, hs, lm, lm', P4, K4⟩
    have lsizes : sizes.length < most := by omega
    -- stocks
    refine ⟨by show 0 ≤ sizeLine; decide, fun c nc => ?_⟩
    obtain ⟨ncH, ncp, ncq⟩ := K4.newOf P4 nc
    have nca : c ≠ a := (ne_of_none ea nc).symm
    have ncb : c ≠ b := (ne_of_none eb nc).symm
    refine ⟨_, rfl, _, rfl, p, q, m, most, rfl, P4.new nc, by omega, by omega, m40, fun g H5 g0 g1 P5 K5 => ?_⟩
    have K45 := (K4.trans (.upd_new nc)).trans K5
    refine ⟨g, rfl, by omega, by omega, for_range (lo := 0) (n := g.toNat) (fun i σ H6 => ∃ (y3 y5 y6 y7 y9 : Option V) (ts : List Addr) (loads : List (List Str)) (k : Nat), σ = [some (.ref p), some (.int (most : Int)), some (.ref a), y3, some (.ref b), y5, y6, y7, some (.ref c), y9, none] ∧
        H6 a = some (.lst (says.map V.bl)) ∧ H6 b = some (.lst (sizes.map V.int)) ∧ H6 c = some (.lst (ts.map V.ref)) ∧ Paired (fun t load => H6 t = some (.tup (load.map V.str))) ts loads ∧ loads.length = i ∧ (∀ y ∈ ts, H y = none ∧ y ≠ p ∧ y ≠ q) ∧ (∀ load ∈ loads, load.length ≤ 4 ∧ ∀ x ∈ load, IsWord x) ∧ m + 1 ≤ k ∧ k ≤ m + 1 + 50 * i ∧ PoolAt H6 p q k ∧ Keeps p q H H6)
      ⟨y3, y5, y6, y7, none, [], [], m + 1, rfl, K5 _ _ nap naq (same_new nc _ _ ea), K5 _ _ nbp nbq (same_new nc _ _ eb), K5 _ _ ncp ncq upd_same, .nil, rfl, fun y h => (nomatch h), fun y h => (nomatch h), by omega, by omega, P5, K45⟩ ?_ ?_⟩
    · rintro i σ H6 hi ⟨z3, z5, z6, z7, z9, ts, loads, k, rfl, ea6, eb6, ec6, ht6, el3, hts, ho, lk, lk', P6, K6⟩
      refine ⟨_, rfl, p, q, k, 4, rfl, P6, by omega, by decide, fun nm ns n2 H7 nnm lns wns nd l1 l2 P7 K7 enm => ?_⟩
      have K67 := K6.trans K7
      have nmH : H nm = none ∧ nm ≠ p ∧ nm ≠ q := by
        have e1 : nm ≠ p := fun e => by obtain ⟨o, eo⟩ := P6.p_some; rw [e, eo] at nnm; cases nnm
        have e2 : nm ≠ q := fun e => by obtain ⟨o, eo⟩ := P6.q_some; rw [e, eo] at nnm; cases nnm
        exact ⟨K6.free nnm e1 e2, e1, e2⟩
      have ea7 := K7 _ _ nap naq ea6
      have eb7 := K7 _ _ nbp nbq eb6
      have ec7 := K7 _ _ ncp ncq ec6
      have ht7 := paired_imp ht6 fun t load m h => K7 _ _ (hts t m).2.1 (hts t m).2.2 h
      refine ⟨_, rfl, .inl ⟨rfl, _, SqL.of ec7⟩, ?_⟩
      refine ⟨_, rfl, p, q, n2, 5, rfl, P7, by omega, by decide, by decide, fun u H8 u0 u1 P8 K8 => ?_⟩
      refine ⟨u, rfl, by omega, by omega, fun D nD => ?_⟩
      obtain ⟨nDH, nDp, nDq⟩ := (K67.trans K8).newOf P8 nD
      have cu := K8.trans (.upd_new (o := .lst []) nD)
      refine lc_range (lo := 0) (n := u.toNat) (fun j H9 => ∃ load : List Str, H9 D = some (.lst (load.map V.str)) ∧ load.length = j ∧ (∀ x ∈ load, IsWord x) ∧ PoolAt H9 p q (n2 + 1 + j) ∧ Keeps p q H7 H9)
        ⟨[], upd_same, rfl, fun x h => (nomatch h), P8.new nD, cu⟩ (fun j H9 hj ⟨load, eD, elD, hw, P9, K9⟩ => ?_) (fun H9 ⟨load, eD, elD, hw, P9, K9⟩ => ?_)
      · refine ⟨rfl, _, rfl, _, rfl, p, q, _, 4, rfl, P9, by omega, by decide, by decide, fun at_ H10 at0 at1 P10 K10 => ?_⟩
        have en := (K9.trans K10) _ _ nmH.2.1 nmH.2.2 enm
        have hlt : at_.toNat < ns.length := by omega
        have e1 : atI (ns.map V.str) at_ = some (.str ns[at_.toNat]) := by
          exact atI_pos at0 (by rw [List.getElem?_map, List.getElem?_eq_getElem hlt]; rfl)
        refine ⟨nm, _, at_, _, rfl, rfl, SqL.of en, e1, _, K10 _ _ nDp nDq eD, small1000 (by rw [List.length_map]; omega), load ++ [ns[at_.toNat]], ?_, by rw [List.length_append, elD]; rfl, fun x hx => ?_, ?_, ?_⟩
        · rw [upd_same, List.map_append]; rfl
        · rcases List.mem_append.mp hx with hx | hx
          · exact hw x hx
          · rw [List.mem_singleton.mp hx]; exact wns _ (List.getElem_mem hlt)
        · rw [show n2 + 1 + (j + 1) = n2 + 1 + j + 1 by omega]; exact P10.upd nDp nDq
        · exact (K9.trans K10).updNew (K8.free nD nDp nDq)
      · have K69 := K67.trans K9
        refine ⟨⟨D, _, rfl, .inl ⟨SqL.of eD, fun t nt => ?_⟩⟩⟩
        obtain ⟨ntH, ntp, ntq⟩ := K69.newOf P9 nt
        have s10 := same_new (o := .tup (load.map V.str)) nt
        have et : (upd H9 t (.tup (load.map V.str))) t = some (.tup (load.map V.str)) := upd_same
        have P10 := P9.new (o := .tup (load.map V.str)) nt
        have K10 := K69.trans (.upd_new (o := .tup (load.map V.str)) nt)
        have ea10 := s10 _ _ (K9 _ _ nap naq ea7)
        have eb10 := s10 _ _ (K9 _ _ nbp nbq eb7)
        have ec10 := s10 _ _ (K9 _ _ ncp ncq ec7)
        have ht10 := paired_imp ht7 fun t load m h => s10 _ _ (K9 _ _ (hts t m).2.1 (hts t m).2.2 h)
        have ntc : t ≠ c := fun e => by rw [e, (K9 _ _ ncp ncq ec7)] at nt; cases nt
        generalize upd H9 t (.tup (load.map V.str)) = H10 at *
        have lt := paired_len ht10
        refine ⟨c, _, _, rfl, rfl, ec10, small1000 (by rw [List.length_map]; omega), ?_⟩
        refine ⟨_, _, _, _, _, ts ++ [t], loads ++ [load], n2 + 1 + u.toNat, rfl, by rw [upd_ne nca.symm]; exact ea10, by rw [upd_ne ncb.symm]; exact eb10, by rw [upd_same, List.map_append]; rfl, ?_, by rw [List.length_append, el3]; rfl, fun y hy => ?_, fun y hy => ?_, by omega, by omega, P10.upd ncp ncq, K10.updNew ncH⟩
        · refine paired_snoc (paired_imp ht10 fun t' load' _ h => ?_) ?_
          · rw [upd_ne (fun e => by rw [e, ec10] at h; cases h)]; exact h
          · rw [upd_ne ntc]; exact et
        · rcases List.mem_append.mp hy with hy | hy
          · exact hts y hy
          · rw [List.mem_singleton.mp hy]; exact ⟨ntH, ntp, ntq⟩
        · rcases List.mem_append.mp hy with hy | hy
          · exact ho y hy
          · rw [List.mem_singleton.mp hy]; exact ⟨by omega, hw⟩
    rintro σ H6 ⟨z3, z5, z6, z7, z9, ts, loads, k, rfl, ea6, eb6, ec6, ht6, el3, hts, ho, lk, lk', P6, K6⟩
    refine ⟨_, rfl, _, rfl, _, rfl, by show 3 ≤ sizeLine; decide, fun r nr => ?_⟩
    obtain ⟨nrH, nrp, nrq⟩ := K6.newOf P6 nr
    have s7 := same_new (o := .lst [.ref a, .ref b, .ref c]) nr
    refine kk r a b c ts says sizes loads k _ (fun y hy => ?_) (fun hm => ?_) ⟨upd_same, s7 _ _ ea6, s7 _ _ eb6, s7 _ _ ec6, paired_imp ht6 fun t load _ h => s7 _ _ h⟩ ⟨lsays, lsizes, by omega, hs, ho⟩ (by omega) (by omega) (P6.new nr) (K6.updNew nrH)
    · simp only [List.mem_cons] at hy
      rcases hy with rfl | rfl | rfl | rfl | hy
      · exact nrH
      · exact naH
      · exact nbH
      · exact ncH
      · exact (hts y hy).1
    · simp only [List.mem_cons] at hm
      rcases hm with rfl | rfl | rfl | hm
      · rw [nr] at ea6; cases ea6
      · rw [nr] at eb6; cases eb6
      · rw [nr] at ec6; cases ec6
      · obtain ⟨y, _, hy⟩ := paired_mem ht6 hm
        rw [nr] at hy; cases hy
end
/-! ### len of contents; what contents have -/
theorem cn_look (ta tl to : Addr) : (cnF ta tl to).lookup ("answers" : Str) = some (.ref ta) ∧ (cnF ta tl to).lookup ("lengths" : Str) = some (.ref tl) ∧ (cnF ta tl to).lookup ("loads" : Str) = some (.ref to) := ⟨rfl, rfl, rfl⟩
def spCLen (K : PySem.W.Frag) (C : Addr) : Sp := fun vs H Q _ => ∃ (l : List Addr) (x : Addr) (as ls os : List PyData), vs = [.ref x] ∧ ContAt K l H C x as ls os ∧ as.length ≤ 100000 ∧ ls.length ≤ 100000 ∧ os.length ≤ 100000 ∧ ∀ H', Same H H' → Q (.int ((as.length + ls.length + os.length : Nat) : Int)) H'
/-- what has own methods told by __len__, __str__, __eq__, __add__ -/
structure CnLen (P : Program) (w : World) (K : PySem.W.Frag) (mg : Str → Option Value) (base : Heap) (C g : Addr) : Prop where
  f : PySem.W.findIn K (.ref C) "__len__" = some (some (.ref g))
  i : PySem.W.isFn K (.ref g) = true
  G : FnR P w K mg base CX0 1 g (spCLen K C)
/-- the triple that contents are held against: three lists or tuples -/
def spHas (K : PySem.W.Frag) (C : Addr) : Sp := fun vs H Q _ => ∃ (l : List Addr) (x : Addr) (v : V) (d0 d1 d2 : PyData), vs = [.ref x, v] ∧ ContAt K l H C x (mem d0) (mem d1) (mem d2) ∧ Dp K H v (.list [d0, d1, d2]) ∧ isLT d0 = true ∧ isLT d1 = true ∧ isLT d2 = true ∧ (mem d0).length ≤ 100000 ∧ (mem d1).length ≤ 100000 ∧ (mem d2).length ≤ 100000 ∧ (∀ d ∈ mem d0, dp 4 d) ∧ (∀ d ∈ mem d1, dp 4 d) ∧ (∀ d ∈ mem d2, dp 4 d) ∧ ∀ H', Same H H' → Q (.bl true) H'
section
variable {P : Program} {w : World} {K : PySem.W.Frag} {mg : Str → Option Value} {base : Heap}
theorem scCL : FnScope ["self"] ["self"] (defScope (co 3)) := ⟨rfl, rfl, rfl, by decide +kernel, rfl, by decide +kernel, by decide +kernel⟩
theorem ok_clen {f C : Addr} {fd : FuncData} {k : Nat} (T : CnIn K mg C) (F : Fun K "__len__" "Contents.__len__" (co 3) f fd) (B : Bts mg) : FnOk P w K mg base CX0 (k + 1) f fd ["self"] (spCLen K C) := by
  refine F.ok scCL (fun vs H Q E h => ?_) (fun cdv A outer s H vs Q E hr h => ?_)
  · obtain ⟨l, x, as, ls, os, rfl, _⟩ := h
    rfl
  · obtain ⟨l, x, as, ls, os, rfl, ⟨nx, dx, ta, tl, to, hx, h1, h2, h3⟩, n1, n2, n3, kk⟩ := h
    refine ⟨_, pss_one (ps_ret (pe_callB call_len_seq (by rfl) B.len PySem.boot_len (pa_cons (pe_tup (StX.pa_star (pe_fld (pv 0) rfl) (StX.pa_star (pe_fld (pv 0) rfl) (StX.pa_star (pe_fld (pv 0) rfl) pa_nil)))) pa_nil))), ?_⟩
    obtain ⟨a1, x1, e1, t1, p1⟩ := dp_tup (dp_free h1)
    obtain ⟨a2, x2, e2, t2, p2⟩ := dp_tup (dp_free h2)
    obtain ⟨a3, x3, e3, t3, p3⟩ := dp_tup (dp_free h3)
    cases e1; cases e2; cases e3
    have l1 := dpAll_len p1
    have l2 := dpAll_len p2
    have l3 := dpAll_len p3
    refine ⟨_, rfl, x, C, dx, _, _, rfl, hx, T.cls, T.na, (cn_look ta tl to).1, ta, x1, rfl, .inl t1, ?_⟩
    refine ⟨_, rfl, x, C, dx, _, _, rfl, hx, T.cls, T.nl, (cn_look ta tl to).2.1, tl, x2, rfl, .inl t2, ?_⟩
    refine ⟨_, rfl, x, C, dx, _, _, rfl, hx, T.cls, T.no, (cn_look ta tl to).2.2, to, x3, rfl, .inl t3, ?_⟩
    refine ⟨?_, fun t nt => ?_⟩
    · show (x1 ++ (x2 ++ (x3 ++ []))).length ≤ sizeLine
      simp only [List.length_append, List.length_nil]
      have : (400000 : Nat) ≤ sizeLine := by decide
      omega
    refine ⟨t, _, rfl, .inr (SqT.of upd_same), ?_⟩
    have e : ((x1 ++ (x2 ++ (x3 ++ []))).length : Int) = ((as.length + ls.length + os.length : Nat) : Int) := by
      simp only [List.length_append, List.length_nil, l1, l2, l3]
      omega
    show Q (.int ((x1 ++ (x2 ++ (x3 ++ []))).length : Int)) _
    rw [e]
    exact kk _ (same_new nt)
theorem scHa : FnScope ["contents", "triple", "told", "many"] ["contents", "triple"] (defScope sHas) := ⟨rfl, rfl, rfl, by decide +kernel, rfl, by decide +kernel, by decide +kernel⟩
theorem ok_has {f C g fS : Addr} {fd fdS : FuncData} (T : CnIn K mg C) (L : CnLen P w K mg base C g) (F : Fun K "_law_has" "_law_has" sHas f fd) (B : Bts mg) (GS : FnOk P w K mg base CX0 6 fS fdS ["actual", "due"] (spSame K 6)) (mS : mg "_law_same" = some (.ref fS)) (kS : PySem.W.keepIn K (.ref fS) = true) (bS : Binds K fdS ["actual", "due"] []) :
    FnOk P w K mg base CX0 7 f fd ["contents", "triple"] (spHas K C) := by
  refine F.ok scHa (fun vs H Q E h => ?_) (fun cdv A outer s H vs Q E hr h => ?_)
  · obtain ⟨l, x, v, d0, d1, d2, rfl, _⟩ := h
    rfl
  · obtain ⟨l, x, v, d0, d1, d2, rfl, hC, hv, i0, i1, i2, n0, n1, n2, q0, q1, q2, kk⟩ := h
    have hrS : Room 6 _ := hr
    have hr2 : Room 2 _ := hr.mono (by decide)
    refine ⟨_, pss_cons (ps_set (i := 2) scHa.nd rfl (.inl rfl) (pe_lst (pa_cons (pe_fld (pv 0) rfl) (pa_cons (pe_fld (pv 0) rfl) (pa_cons (pe_fld (pv 0) rfl) (pa_cons (pe_callB (call_lenOwn L.f L.i L.G hr2 pass0) (by rfl) B.len PySem.boot_len (pa_cons (pv 0) pa_nil)) pa_nil))))))
      (pss_cons (ps_set (i := 3) scHa.nd rfl (.inl rfl) (pe_op op_add (pe_op op_add (pe_callB call_len_seq (by rfl) B.len PySem.boot_len (pa_cons (pe_ix ix_list (pv 1) pe_int (fun _ _ => rfl)) pa_nil)) (pe_callB call_len_seq (by rfl) B.len PySem.boot_len (pa_cons (pe_ix ix_list (pv 1) pe_int (fun _ _ => rfl)) pa_nil))) (pe_callB call_len_seq (by rfl) B.len PySem.boot_len (pa_cons (pe_ix ix_list (pv 1) pe_int (fun _ _ => rfl)) pa_nil))))
      (pss_one (ps_ret (pe_call GS hrS (by rfl) mS kS bS .nil pass0 (pa_cons (pv 2) (pa_cons (pe_lst (pa_cons (pe_callTy call_tupS (by rfl) B.tuple (by decide +kernel) (pa_cons (pe_ix ix_list (pv 1) pe_int (fun _ _ => rfl)) pa_nil)) (pa_cons (pe_callTy call_tupS (by rfl) B.tuple (by decide +kernel) (pa_cons (pe_ix ix_list (pv 1) pe_int (fun _ _ => rfl)) pa_nil)) (pa_cons (pe_callTy call_tupS (by rfl) B.tuple (by decide +kernel) (pa_cons (pe_ix ix_list (pv 1) pe_int (fun _ _ => rfl)) pa_nil)) (pa_cons (pv 3) pa_nil))))) pa_nil)))))), ?_⟩
    obtain ⟨nx, dx, ta, tl, to, hx, h1, h2, h3⟩ := id hC
    refine ⟨_, rfl, x, C, dx, _, _, rfl, hx, T.cls, T.na, (cn_look ta tl to).1, ?_⟩
    refine ⟨_, rfl, x, C, dx, _, _, rfl, hx, T.cls, T.nl, (cn_look ta tl to).2.1, ?_⟩
    refine ⟨_, rfl, x, C, dx, _, _, rfl, hx, T.cls, T.no, (cn_look ta tl to).2.2, ?_⟩
    refine ⟨_, rfl, x, dx, _, rfl, hx, l, x, _, _, _, rfl, hC, n0, n1, n2, fun H1 s1 => ⟨_, rfl, ⟨by omega, Int.lt_of_le_of_lt (by omega : _ ≤ (300000 : Int)) (by decide)⟩, by show 4 ≤ sizeLine; decide, fun tD nt => ?_⟩⟩
    have s2 := s1.trans (same_new (o := .lst [.ref ta, .ref tl, .ref to, .int (((mem d0).length + (mem d1).length + (mem d2).length : Nat) : Int)]) nt)
    have hT : Dp K (upd H1 tD (.lst [.ref ta, .ref tl, .ref to, .int (((mem d0).length + (mem d1).length + (mem d2).length : Nat) : Int)])) (.ref tD) (.list [.tuple (mem d0), .tuple (mem d1), .tuple (mem d2), .int (((mem d0).length + (mem d1).length + (mem d2).length : Nat) : Int)]) :=
      .lst (SqL.of upd_same) (.cons (dp_same s2 _ _ (dp_free h1)) (.cons (dp_same s2 _ _ (dp_free h2)) (.cons (dp_same s2 _ _ (dp_free h3)) (.cons (.int _) .nil))))
    generalize upd H1 tD (.lst [.ref ta, .ref tl, .ref to, .int (((mem d0).length + (mem d1).length + (mem d2).length : Nat) : Int)]) = H2 at *
    obtain ⟨r, xs, rfl, hr0, hd⟩ := dp_lst (dp_same s2 _ _ hv)
    obtain ⟨v0, r1, rfl, b0, hd⟩ := dpAll_cons hd
    obtain ⟨v1, r2, rfl, b1, hd⟩ := dpAll_cons hd
    obtain ⟨v2, r3, rfl, b2, hd⟩ := dpAll_cons hd
    obtain rfl := dpAll_nil hd
    obtain ⟨a0, x0, rfl, g0, p0⟩ := dp_seq b0 i0
    obtain ⟨a1, x1, rfl, g1, p1⟩ := dp_seq b1 i1
    obtain ⟨a2, x2, rfl, g2, p2⟩ := dp_seq b2 i2
    have ix0 : atI [V.ref a0, .ref a1, .ref a2] 0 = some (.ref a0) := atI_nat (j := 0) rfl
    have ix1 : atI [V.ref a0, .ref a1, .ref a2] 1 = some (.ref a1) := atI_nat (j := 1) rfl
    have ix2 : atI [V.ref a0, .ref a1, .ref a2] 2 = some (.ref a2) := atI_nat (j := 2) rfl
    refine ⟨_, rfl, r, _, 0, _, rfl, rfl, hr0, ix0, a0, x0, rfl, g0 (Same.refl _), _, rfl, r, _, 1, _, rfl, rfl, hr0, ix1, a1, x1, rfl, g1 (Same.refl _), _, _, rfl, rfl, _, rfl, r, _, 2, _, rfl, rfl, hr0, ix2, a2, x2, rfl, g2 (Same.refl _), _, _, rfl, rfl, ?_⟩
    have em : ((x0.length : Int) + (x1.length : Int) + (x2.length : Int)) = (((mem d0).length + (mem d1).length + (mem d2).length : Nat) : Int) := by
      rw [dpAll_len p0, dpAll_len p1, dpAll_len p2]; omega
    have al0 : Alive [] H2 := alive_nil
    refine ⟨_, rfl, _, rfl, r, _, 0, _, rfl, rfl, hr0, ix0, ?_⟩
    refine rd_tup al0 b0 i0 fun t0 H3 s3 ht0 => ?_
    refine ⟨_, rfl, r, _, 1, _, rfl, rfl, s3.seq hr0, ix1, ?_⟩
    refine rd_tup (alive_nil (H := H3)) (dp_same s3 _ _ b1) i1 fun t1 H4 s4 ht1 => ?_
    refine ⟨_, rfl, r, _, 2, _, rfl, rfl, (s3.trans s4).seq hr0, ix2, ?_⟩
    refine rd_tup (alive_nil (H := H4)) (dp_same (s3.trans s4) _ _ b2) i2 fun t2 H5 s5 ht2 => ?_
    refine ⟨_, rfl, by show 4 ≤ sizeLine; decide, fun u nu => ?_⟩
    have s6 := same_new (o := .lst [.ref t0, .ref t1, .ref t2, .int ((x0.length : Int) + (x1.length : Int) + (x2.length : Int))]) nu
    have d4 : ∀ {d : PyData}, (mem d).length ≤ 100000 → (∀ y ∈ mem d, dp 4 y) → dp 5 (.tuple (mem d)) := fun h1 h2 => by
      simp only [dp]
      exact ⟨by omega, h2⟩
    refine ⟨_, _, _, rfl, dp_same ((s3.trans s4).trans (s5.trans s6)) _ _ hT, .lst (SqL.of upd_same) (.cons (dp_same ((s4.trans s5).trans s6) _ _ ht0) (.cons (dp_same (s5.trans s6) _ _ ht1) (.cons (dp_same s6 _ _ ht2) (.cons (em ▸ Dp.int _) .nil)))), ?_, fun H' s7 => kk H' ((s2.trans ((s3.trans s4).trans (s5.trans s6))).trans s7)⟩
    simp only [dp]
    refine ⟨Nat.le_of_ble_eq_true rfl, fun y hy => ?_⟩
    simp only [List.mem_cons, List.not_mem_nil, or_false] at hy
    rcases hy with rfl | rfl | rfl | rfl
    · exact d4 n0 q0
    · exact d4 n1 q1
    · exact d4 n2 q2
    · simp only [dp]
end
/-! ### texts of words: joined and split again -/
section
open SX
theorem free_mid {a m b : Nat} (ha : a ≠ m) : ∀ {p : List Nat}, m ∉ p → free [a, m, b] p = true
  | [], _ => rfl
  | c :: r, h => by
    show (!(TL.pre [a, m, b] (c :: (r ++ [a, m, b]))) && free [a, m, b] r) = true
    rw [free_mid ha (fun e => h (List.mem_cons_of_mem _ e)), Bool.and_true, Bool.not_eq_true']
    unfold TL.pre
    rw [beq_eq_false_iff_ne]
    intro e
    cases r with
    | nil => exact ha (by injection e with _ e; injection e)
    | cons d r => exact h (by injection e with _ e; injection e with e _; rw [← e]; exact List.mem_cons_of_mem _ List.mem_cons_self)
theorem last_mid {a m b : Nat} {p : List Nat} (h : m ∉ p) : ∀ i, i < p.length → TL.pre [a, m, b] (p.drop i) = false := fun i _ => by
  unfold TL.pre
  rw [beq_eq_false_iff_ne]
  intro e
  have : m ∈ (p.drop i).take 3 := by rw [show [a, m, b].length = 3 from rfl] at e; rw [e]; simp
  exact h (List.mem_of_mem_drop (List.mem_of_mem_take this))
theorem spl_mid {a m b : Nat} (ha : a ≠ m) : ∀ {parts : List (List Nat)}, parts ≠ [] → (∀ p ∈ parts, m ∉ p) → TL.spl [a, m, b] 0 [] (TL.joinL [a, m, b] parts) = parts
  | [], h, _ => absurd rfl h
  | [p], _, h => by
    have := TL.spl_last (acc := []) (last_mid (a := a) (b := b) (h p List.mem_cons_self))
    rw [List.nil_append] at this
    exact this
  | p :: q :: r, _, h => by
    show TL.spl [a, m, b] 0 [] (p ++ ([a, m, b] ++ TL.joinL [a, m, b] (q :: r))) = p :: q :: r
    rw [spl_free _ (List.cons_ne_nil _ _) (free_mid ha (h p List.mem_cons_self)), spl_mid ha (List.cons_ne_nil _ _) fun x hx => h x (List.mem_cons_of_mem _ hx)]
/-- split by what joined, a sign of which is in no part -/
theorem split_mid {y : Str} {a m b : Nat} {parts : List Str} (ey : TL.tl y = [a, m, b]) (hk : y.cps.all (· < 256) = true) (ha : a ≠ m) (hne : parts ≠ []) (h : ∀ p ∈ parts, m ∉ TL.tl p) : Txt.split (Txt.join y parts) y = parts := by
  refine TL.map_tl_inj ?_
  rw [TL.split_spl _ y (by rw [ey]; simp) (TL.kind_ok hk), TL.join_eq, TL.tl_join, ey]
  refine spl_mid ha (fun e => hne (List.map_eq_nil_iff.mp e)) fun p hp => ?_
  obtain ⟨x, hx, rfl⟩ := List.mem_map.mp hp
  exact h x hx
theorem joinL_mem {s : List Nat} {c : Nat} : ∀ {parts : List (List Nat)}, c ∈ TL.joinL s parts → c ∈ s ∨ ∃ p ∈ parts, c ∈ p
  | [], h => by cases h
  | [p], h => .inr ⟨p, List.mem_cons_self, h⟩
  | p :: q :: r, h => by
    have h : c ∈ p ++ (s ++ TL.joinL s (q :: r)) := h
    rcases List.mem_append.mp h with h | h
    · exact .inr ⟨p, List.mem_cons_self, h⟩
    rcases List.mem_append.mp h with h | h
    · exact .inl h
    · rcases joinL_mem h with h | ⟨x, hx, hc⟩
      · exact .inl h
      · exact .inr ⟨x, List.mem_cons_of_mem _ hx, hc⟩
theorem join_mem {sep : Str} {parts : List Str} {c : Nat} (h : c ∈ (Txt.join sep parts).cps.toList) : c ∈ sep.cps.toList ∨ ∃ p ∈ parts, c ∈ p.cps.toList := by
  have e : (Txt.join sep parts).cps.toList = TL.joinL sep.cps.toList (parts.map TL.tl) := by
    rw [TL.join_eq]; exact TL.tl_join sep parts
  rw [e] at h
  rcases joinL_mem h with h | ⟨p, hp, hc⟩
  · exact .inl h
  · obtain ⟨x, hx, rfl⟩ := List.mem_map.mp hp
    exact .inr ⟨x, hx, hc⟩
theorem joinL_len {s : List Nat} {B : Nat} : ∀ {parts : List (List Nat)}, (∀ p ∈ parts, p.length ≤ B) → (TL.joinL s parts).length ≤ parts.length * (B + s.length)
  | [], _ => Nat.zero_le _
  | [p], h => by
    have := h p List.mem_cons_self
    show p.length ≤ 1 * _
    omega
  | p :: q :: r, h => by
    have h1 := h p List.mem_cons_self
    have h2 := joinL_len (s := s) (parts := q :: r) fun x hx => h x (List.mem_cons_of_mem _ hx)
    show (p ++ (s ++ TL.joinL s (q :: r))).length ≤ _
    rw [List.length_append, List.length_append, List.length_cons (as := q :: r), Nat.succ_mul]
    omega
theorem join_len {sep : Str} {parts : List Str} {B : Nat} (h : ∀ p ∈ parts, p.length ≤ B) : (Txt.join sep parts).length ≤ parts.length * (B + sep.length) := by
  have e : (Txt.join sep parts).cps.toList = TL.joinL sep.cps.toList (parts.map TL.tl) := by
    rw [TL.join_eq]; exact TL.tl_join sep parts
  rw [TL.len_tl]
  show (Txt.join sep parts).cps.toList.length ≤ _
  rw [e]
  have := joinL_len (s := sep.cps.toList) (B := B) (parts := parts.map TL.tl) fun p hp => by
    obtain ⟨x, hx, rfl⟩ := List.mem_map.mp hp
    rw [← TL.len_tl]; exact h x hx
  rw [List.length_map] at this
  rw [TL.len_tl sep]; exact this
theorem sum_le {B : Nat} : ∀ {xs : List Str}, (∀ x ∈ xs, x.length ≤ B) → (xs.map (·.length)).sum ≤ B * xs.length
  | [], _ => Nat.zero_le _
  | x :: r, h => by
    rw [List.map_cons, List.sum_cons, List.length_cons, Nat.mul_succ]
    have := h x List.mem_cons_self
    have := sum_le (xs := r) fun y hy => h y (List.mem_cons_of_mem _ hy)
    omega
end
/-! ### the text of contents -/
def wdA (b : Bool) : Str := if b = true then "yes" else "no"
def wdL (n : Int) : Str := Str.ofString (toString n)
def wdO (load : List Str) : Str := if load = [] then "." else Txt.join "+" load
def partT (ws : List Str) : Str := if ws = [] then "-" else Txt.join " " ws
def textT (says : List Bool) (sizes : List Int) (loads : List (List Str)) : Str := Txt.join " / " [partT (says.map wdA), partT (sizes.map wdL), partT (loads.map wdO)]
/-- a word of a text of contents -/
def IsWd (z : Str) : Prop := z.length ≤ 1000 ∧ 32 ∉ TL.tl z ∧ 45 ∉ TL.tl z ∧ 47 ∉ TL.tl z
theorem wdA_wd (b : Bool) : IsWd (wdA b) := by
  cases b
  · exact ⟨by decide +kernel, by decide +kernel, by decide +kernel, by decide +kernel⟩
  · exact ⟨by decide +kernel, by decide +kernel, by decide +kernel, by decide +kernel⟩
theorem wdL_tl {n : Int} (h : 0 ≤ n) : TL.tl (wdL n) = TL.numL n.toNat := by
  obtain ⟨k, rfl⟩ : ∃ k : Nat, n = (k : Int) := ⟨n.toNat, by omega⟩
  exact TL.tl_num k
theorem wdL_len {n : Int} (h : 0 ≤ n) (h1 : n ≤ longest) : (wdL n).length ≤ 31 := by
  rw [TL.len_tl, wdL_tl h]
  refine TL.numL_len (by decide) ?_
  have : longest < 10 ^ 31 := by decide
  have : n.toNat < 10 ^ 31 := by
    have e : ((10 ^ 31 : Nat) : Int) = 10 ^ 31 := by decide
    omega
  exact this
theorem wdL_wd {n : Int} (h : 0 ≤ n) (h1 : n ≤ longest) : IsWd (wdL n) := by
  have := wdL_len h h1
  refine ⟨by omega, ?_, ?_, ?_⟩
  · rw [wdL_tl h]; exact TL.numL_free (.inl (by decide))
  · rw [wdL_tl h]; exact TL.numL_free (.inl (by decide))
  · rw [wdL_tl h]; exact TL.numL_free (.inl (by decide))
theorem wdO_wd {load : List Str} (hl : load.length ≤ 100) (h : ∀ x ∈ load, IsWord x) : IsWd (wdO load) := by
  unfold wdO
  by_cases e : load = []
  · rw [if_pos e]; exact ⟨by decide +kernel, by decide +kernel, by decide +kernel, by decide +kernel⟩
  · rw [if_neg e]
    have no : ∀ c, c ≠ 43 → ¬ (97 ≤ c ∧ c ≤ 122) → c ∉ TL.tl (Txt.join "+" load) := fun c h1 h2 hm => by
      rcases join_mem hm with hm | ⟨p, hp, hm⟩
      · have : ("+" : Str).cps.toList = [43] := by decide +kernel
        rw [this] at hm
        exact h1 (List.mem_singleton.mp hm)
      · exact h2 ((h p hp).2.2 c hm)
    refine ⟨?_, no _ (by decide) (by decide), no _ (by decide) (by decide), no _ (by decide) (by decide)⟩
    have := join_len (sep := "+") (B := 8) (parts := load) fun x hx => (h x hx).2.1
    have e1 : ("+" : Str).length = 1 := by decide +kernel
    rw [e1] at this
    omega
theorem partT_len {ws : List Str} (h : ∀ w ∈ ws, IsWd w) (hl : ws.length ≤ 1000) : (partT ws).length ≤ 1001000 := by
  unfold partT
  by_cases e : ws = []
  · rw [if_pos e]; exact Nat.le_trans (by decide +kernel : ("-" : Str).length ≤ 10) (by decide)
  · rw [if_neg e]
    have := join_len (sep := " ") (B := 1000) (parts := ws) fun x hx => (h x hx).1
    have e1 : (" " : Str).length = 1 := by decide +kernel
    rw [e1] at this
    omega
theorem partT_free {ws : List Str} (h : ∀ w ∈ ws, IsWd w) : 47 ∉ TL.tl (partT ws) := by
  unfold partT
  by_cases e : ws = []
  · rw [if_pos e]; decide +kernel
  · rw [if_neg e]
    intro hm
    rcases join_mem hm with hm | ⟨p, hp, hm⟩
    · have : (" " : Str).cps.toList = [32] := by decide +kernel
      rw [this] at hm
      exact absurd (List.mem_singleton.mp hm) (by decide)
    · exact (h p hp).2.2.2 hm
theorem partT_dash {ws : List Str} (h : ∀ w ∈ ws, IsWd w) (hne : ws ≠ []) : partT ws ≠ "-" := by
  unfold partT
  rw [if_neg hne]
  intro e
  have hm : 45 ∈ TL.tl (Txt.join " " ws) := by rw [e]; decide +kernel
  rcases join_mem hm with hm | ⟨p, hp, hm⟩
  · have : (" " : Str).cps.toList = [32] := by decide +kernel
    rw [this] at hm
    exact absurd (List.mem_singleton.mp hm) (by decide)
  · exact (h p hp).2.2.1 hm
theorem partT_split {ws : List Str} (h : ∀ w ∈ ws, IsWd w) (hne : ws ≠ []) : Txt.split (partT ws) " " = ws := by
  unfold partT
  rw [if_neg hne]
  exact TL.split_join (s := 32) (S := []) (by decide +kernel) (by decide +kernel) hne fun p hp => (h p hp).2.1
theorem textT_split {p0 p1 p2 : Str} (h0 : 47 ∉ TL.tl p0) (h1 : 47 ∉ TL.tl p1) (h2 : 47 ∉ TL.tl p2) : Txt.split (Txt.join " / " [p0, p1, p2]) " / " = [p0, p1, p2] :=
  split_mid (a := 32) (m := 47) (b := 32) (by decide +kernel) (by decide +kernel) (by decide) (by simp) fun p hp => by
    simp only [List.mem_cons, List.not_mem_nil, or_false] at hp
    rcases hp with rfl | rfl | rfl
    · exact h0
    · exact h1
    · exact h2
theorem wdA_yes (b : Bool) : decide (V.str (wdA b) = V.str "yes") = b := by
  cases b
  · exact decide_eq_false fun e => absurd (V.str.inj e) (by decide +kernel)
  · exact decide_eq_true rfl
theorem wdL_int {n : Int} (h : 0 ≤ n) (h1 : n ≤ longest) : intText? (wdL n) = some n := by
  have hl := wdL_len h h1
  rw [TL.len_tl, wdL_tl h] at hl
  obtain ⟨k, rfl⟩ : ∃ k : Nat, n = (k : Int) := ⟨n.toNat, by omega⟩
  exact TL.int_num (by have : (TL.numL (Int.toNat (k : Int))).length ≤ 31 := hl; rw [Int.toNat_natCast] at this; omega)
theorem digits_ok {z : Str} (hne : TL.tl z ≠ []) (h : NumText.AllDigits (TL.tl z)) : Txt.isascii z = true ∧ Txt.isdigit z = true := by
  have all : ∀ c ∈ z.cps, 48 ≤ c ∧ c ≤ 57 := fun c hc => h c (Array.mem_toList_iff.mpr hc)
  refine ⟨?_, ?_⟩
  · unfold Txt.isascii
    rw [Array.all_eq_true_iff_forall_mem]
    intro c hc
    have := all c hc
    exact decide_eq_true (by omega)
  · unfold Txt.isdigit
    rw [Bool.and_eq_true]
    refine ⟨decide_eq_true ?_, ?_⟩
    · have : 0 < (TL.tl z).length := List.length_pos_iff.mpr hne
      rw [← TL.len_tl] at this
      omega
    · rw [Array.all_eq_true_iff_forall_mem]
      intro c hc
      have := all c hc
      have d : ∀ k : Fin 10, Unicode.isDigit (48 + k.val) = true := by decide +kernel
      have := d ⟨c - 48, by omega⟩
      rw [show 48 + (c - 48) = c by omega] at this
      exact this
theorem wdO_dot {load : List Str} (h : ∀ x ∈ load, IsWord x) (hne : load ≠ []) : wdO load ≠ "." ∧ Txt.split (wdO load) "+" = load := by
  unfold wdO
  rw [if_neg hne]
  refine ⟨fun e => ?_, TL.split_join (s := 43) (S := []) (by decide +kernel) (by decide +kernel) hne fun p hp hm => ?_⟩
  · have hm : 46 ∈ TL.tl (Txt.join "+" load) := by rw [e]; decide +kernel
    rcases join_mem hm with hm | ⟨p, hp, hm⟩
    · have : ("+" : Str).cps.toList = [43] := by decide +kernel
      rw [this] at hm
      exact absurd (List.mem_singleton.mp hm) (by decide)
    · have := (h p hp).2.2 _ hm
      omega
  · have := (h p hp).2.2 _ hm
    omega
/-! ### contents written and read -/
theorem iteE {b : Bool} {A B : Prop} (e : b = true) (h : A) : if b = true then A else B := by rw [if_pos e]; exact h
theorem iteN {b : Bool} {A B : Prop} (e : b = false) (h : B) : if b = true then A else B := by rw [e]; exact iteF h
/-- a list that is made of the values ys, one a turn -/
theorem vals_core {H : Hp} {D : Addr} (ys : List V) (nD : H D = none) (hl : ys.length ≤ 1000000) : ∃ Pv : Nat → Hp → Prop, Pv 0 (upd H D (.lst [])) ∧ (∀ i H2, Pv i H2 → Same H H2) ∧
    (∀ i y H2 H3, ys[i]? = some y → Pv i H2 → Same H2 H3 → ∃ acc, H3 D = some (.lst acc) ∧ acc.length < sizeLine ∧ Pv (i + 1) (upd H3 D (.lst (acc ++ [y])))) ∧ (∀ H2, Pv ys.length H2 → H2 D = some (.lst ys) ∧ Same H H2) := by
  refine ⟨fun i H2 => H2 D = some (.lst (ys.take i)) ∧ Same H H2, ⟨upd_same, same_new nD⟩, fun i H2 h => h.2, ?_, ?_⟩
  · rintro i y H2 H3 hy ⟨eD, s2⟩ s3
    refine ⟨_, s3 _ _ eD, ?_, ?_, ?_⟩
    · rw [List.length_take]
      have : (1000000 : Nat) < sizeLine := by decide
      omega
    · rw [upd_same, List.take_add_one, hy]; rfl
    · intro b o e
      rw [upd_ne (ne_of_none e nD)]
      exact s3 _ _ (s2 _ _ e)
  · rintro H2 ⟨eD, s2⟩
    rw [List.take_length] at eD
    exact ⟨eD, s2⟩
theorem dp_bools {K : PySem.W.Frag} {H : Hp} : ∀ {bs : List Bool} {xs : List V}, DpAll K H xs (bs.map .bool) → xs = bs.map V.bl
  | [], _, .nil => rfl
  | _ :: _, _, .cons h r => by
    cases h
    rw [List.map_cons, dp_bools r]
theorem dp_ints {K : PySem.W.Frag} {H : Hp} : ∀ {ns : List Int} {xs : List V}, DpAll K H xs (ns.map .int) → xs = ns.map V.int
  | [], _, .nil => rfl
  | _ :: _, _, .cons h r => by
    cases h
    rw [List.map_cons, dp_ints r]
theorem dp_strs {K : PySem.W.Frag} {H : Hp} : ∀ {zs : List Str} {xs : List V}, DpAll K H xs (zs.map .str) → xs = zs.map V.str
  | [], _, .nil => rfl
  | _ :: _, _, .cons h r => by
    cases h
    rw [List.map_cons, dp_strs r]
abbrev sayD (says : List Bool) : List PyData := says.map .bool
abbrev sizD (sizes : List Int) : List PyData := sizes.map .int
abbrev loaD (loads : List (List Str)) : List PyData := loads.map fun load => .tuple (load.map .str)
/-- good contents -/
structure Good (says : List Bool) (sizes : List Int) (loads : List (List Str)) : Prop where
  l1 : says.length ≤ 1000
  l2 : sizes.length ≤ 1000
  l3 : loads.length ≤ 1000
  s : ∀ n ∈ sizes, 0 ≤ n ∧ n ≤ longest
  o : ∀ load ∈ loads, load.length ≤ 100 ∧ ∀ x ∈ load, IsWord x
theorem Good.w1 {says : List Bool} {sizes : List Int} {loads : List (List Str)} (g : Good says sizes loads) : ∀ w ∈ says.map wdA, IsWd w := fun w h => by
  obtain ⟨b, _, rfl⟩ := List.mem_map.mp h
  exact wdA_wd b
theorem Good.w2 {says : List Bool} {sizes : List Int} {loads : List (List Str)} (g : Good says sizes loads) : ∀ w ∈ sizes.map wdL, IsWd w := fun w h => by
  obtain ⟨n, hn, rfl⟩ := List.mem_map.mp h
  exact wdL_wd (g.s n hn).1 (g.s n hn).2
theorem Good.w3 {says : List Bool} {sizes : List Int} {loads : List (List Str)} (g : Good says sizes loads) : ∀ w ∈ loads.map wdO, IsWd w := fun w h => by
  obtain ⟨o, ho, rfl⟩ := List.mem_map.mp h
  exact wdO_wd (g.o o ho).1 (g.o o ho).2
theorem log_len {n : Int} (h : 0 ≤ n) (h1 : n ≤ longest) : n.natAbs.log2 < 1920 := by
  refine log_small (Nat.lt_of_le_of_lt (m := 10 ^ 30) ?_ (by decide))
  have h1' : n ≤ 10 ^ 30 := h1
  omega
/-- ' '.join(words) if words else '-', words a list of texts at a -/
theorem rd_part {K : PySem.W.Frag} {H : Hp} {a : Addr} {ws : List Str} (e : H a = some (.lst (ws.map V.str))) : TruV K (.ref a) H (!ws.isEmpty) := .inl ⟨_, SqL.of e, by cases ws <;> rfl⟩
theorem part_of {ws : List Str} {A B : Prop} (h1 : ws ≠ [] → A) (h2 : ws = [] → B) : if (!ws.isEmpty) = true then A else B := by
  cases ws with
  | nil => exact iteF (h2 rfl)
  | cons w r => exact iteT (h1 (by simp))
def spCStr (K : PySem.W.Frag) (C : Addr) : Sp := fun vs H Q _ => ∃ (l : List Addr) (x : Addr) (says : List Bool) (sizes : List Int) (loads : List (List Str)), vs = [.ref x] ∧ ContAt K l H C x (sayD says) (sizD sizes) (loaD loads) ∧ Good says sizes loads ∧ ∀ H', Same H H' → Q (.str (textT says sizes loads)) H'
def spWordsOf : Sp := fun vs H Q _ => ∃ z : Str, vs = [.str z] ∧ z.length ≤ 2000000 ∧ ∀ p, H p = none → Q (.ref p) (upd H p (.lst ((if z = "-" then [] else Txt.split z " ").map V.str)))
def spReadLen : Sp := fun vs H Q _ => ∃ n : Int, vs = [.str (wdL n)] ∧ 0 ≤ n ∧ n ≤ longest ∧ Q (.int n) H
def spReadLoad : Sp := fun vs H Q _ => ∃ load : List Str, vs = [.str (wdO load)] ∧ load.length ≤ 100 ∧ (∀ x ∈ load, IsWord x) ∧ ∀ t H', Same H H' → H t = none → H' t = some (.tup (load.map V.str)) → Q (.ref t) H'
section
variable {P : Program} {w : World} {K : PySem.W.Frag} {mg : Str → Option Value} {base : Heap}
theorem scCS : FnScope ["self", "answers", "answer", "lengths", "length", "loads", "load", "words"] ["self"] (defScope (co 5)) := ⟨rfl, rfl, rfl, by decide +kernel, rfl, by decide +kernel, by decide +kernel⟩
theorem ok_cstr {f C : Addr} {fd : FuncData} {k : Nat} (T : CnIn K mg C) (F : Fun K "__str__" "Contents.__str__" (co 5) f fd) (B : Bts mg) : FnOk P w K mg base CX0 (k + 1) f fd ["self"] (spCStr K C) := by
  refine F.ok scCS (fun vs H Q E h => ?_) (fun cdv A outer s H vs Q E hr h => ?_)
  · obtain ⟨l, x, says, sizes, loads, rfl, _⟩ := h
    rfl
  · obtain ⟨l, x, says, sizes, loads, rfl, ⟨nx, dx, ta, tl, to, hx, h1, h2, h3⟩, g, kk⟩ := h
    refine ⟨_, pss_cons (ps_setLc (i := 1) (own := [("answer", 2)]) (g := gName 2) (tt := tYes) rfl scCS.nd rfl rfl (sw_true rfl rfl rfl (by decide +kernel)) (pi_tup (pe_fld (pv 0) rfl)) (blkOk_by (N := ["self", "answers", "answer", "lengths", "length", "loads", "load", "words"]) (sc := defScope (co 5)) (by decide +kernel)) (fun _ _ _ _ _ => (pg_name (i := 2) scCS.nd rfl (.inl rfl))) (fun _ _ _ _ _ => pts_nil) (fun _ _ _ _ _ => (pe_ifExp (pt_truthK (K := K) (pv 2) (by intro _; rfl)) pe_str pe_str)))
      (pss_cons (ps_setLc (i := 3) (own := [("length", 4)]) (g := gName 4) (tt := tYes) rfl scCS.nd rfl rfl (sw_true rfl rfl rfl (by decide +kernel)) (pi_tup (pe_fld (pv 0) rfl)) (blkOk_by (N := ["self", "answers", "answer", "lengths", "length", "loads", "load", "words"]) (sc := defScope (co 5)) (by decide +kernel)) (fun _ _ _ _ _ => (pg_name (i := 4) scCS.nd rfl (.inl rfl))) (fun _ _ _ _ _ => pts_nil) (fun _ _ _ _ _ => (pe_callTy call_str_int (by rfl) B.str (by decide +kernel) (pa_cons (pv 4) pa_nil))))
      (pss_cons (ps_setLc (i := 5) (own := [("load", 6)]) (g := gName 6) (tt := tYes) rfl scCS.nd rfl rfl (sw_true rfl rfl rfl (by decide +kernel)) (pi_tup (pe_fld (pv 0) rfl)) (blkOk_by (N := ["self", "answers", "answer", "lengths", "length", "loads", "load", "words"]) (sc := defScope (co 5)) (by decide +kernel)) (fun _ _ _ _ _ => (pg_name (i := 6) scCS.nd rfl (.inl rfl))) (fun _ _ _ _ _ => pts_nil) (fun _ _ _ _ _ => (pe_ifExp (pt_truthK (K := K) (pv 6) (by intro _; rfl)) (pe_joinK (K := K) pe_str (pv 6)) pe_str)))
      (pss_one (ps_ret (pe_join pe_str (pe_lc (own := [("words", 7)]) (g := gName 7) (tt := tYes) rfl scCS.nd (pi_tup (pe_tup (pa_cons (pv 1) (pa_cons (pv 3) (pa_cons (pv 5) pa_nil))))) (blkOk_by (N := ["self", "answers", "answer", "lengths", "length", "loads", "load", "words"]) (sc := defScope (co 5)) (by decide +kernel)) (fun _ _ _ _ _ => (pg_name (i := 7) scCS.nd rfl (.inl rfl))) (fun _ _ _ _ _ => pts_nil) (fun _ _ _ _ _ => (pe_ifExp (pt_truthK (K := K) (pv 7) (by intro _; rfl)) (pe_joinK (K := K) pe_str (pv 7)) pe_str)))))))), ?_⟩
    obtain ⟨a1, x1, e1, t1, p1⟩ := dp_tup (dp_free h1)
    obtain ⟨a2, x2, e2, t2, p2⟩ := dp_tup (dp_free h2)
    obtain ⟨a3, x3, e3, t3, p3⟩ := dp_tup (dp_free h3)
    cases e1; cases e2; cases e3
    obtain rfl := dp_bools p1
    obtain rfl := dp_ints p2
    have l3 := dpAll_len p3
    rw [List.length_map] at l3
    -- answers
    refine ⟨_, rfl, x, C, dx, _, _, rfl, hx, T.cls, T.na, (cn_look ta tl to).1, ta, rfl, ⟨_, t1⟩, fun D1 n1 => ?_⟩
    obtain ⟨Pv, q0, q1, q2, q3⟩ := vals_core ((says.map wdA).map V.str) n1 (by simp only [List.length_map]; have := g.l1; omega)
    refine lc_tup (K := K) (a := ta) (xs := says.map V.bl) Pv q0 (fun i H2 _ hp => Same.seqT (q1 i H2 hp) t1) (fun i y H2 hy hp => ⟨rfl, ?_⟩) fun H2 hp => ?_
    · rw [List.getElem?_map] at hy
      obtain ⟨b, hb, rfl⟩ := Option.map_eq_some_iff.mp hy
      have e : ((says.map wdA).map V.str)[i]? = some (.str (wdA b)) := by rw [List.getElem?_map, List.getElem?_map, hb]; rfl
      refine ⟨_, rfl, b, rfl, ?_⟩
      cases b with
      | true => exact iteT (q2 i _ H2 H2 e hp (Same.refl _))
      | false => exact iteF (q2 i _ H2 H2 e hp (Same.refl _))
    rw [show (says.map V.bl).length = ((says.map wdA).map V.str).length by simp] at hp
    obtain ⟨eD1, s1⟩ := q3 H2 hp
    clear q0 q1 q2 q3 hp Pv
    -- lengths
    have t2' := Same.seqT s1 t2
    refine ⟨_, rfl, x, C, dx, _, _, rfl, s1 _ _ hx, T.cls, T.nl, (cn_look ta tl to).2.1, tl, rfl, ⟨_, t2'⟩, fun D2 n2 => ?_⟩
    obtain ⟨Pv, q0, q1, q2, q3⟩ := vals_core ((sizes.map wdL).map V.str) n2 (by simp only [List.length_map]; have := g.l2; omega)
    refine lc_tup (K := K) (a := tl) (xs := sizes.map V.int) Pv q0 (fun i H3 _ hp => Same.seqT (q1 i H3 hp) t2') (fun i y H3 hy hp => ⟨rfl, ?_⟩) fun H3 hp => ?_
    · rw [List.getElem?_map] at hy
      obtain ⟨b, hb, rfl⟩ := Option.map_eq_some_iff.mp hy
      have hbs := g.s b (List.mem_of_getElem? hb)
      have e : ((sizes.map wdL).map V.str)[i]? = some (.str (wdL b)) := by rw [List.getElem?_map, List.getElem?_map, hb]; rfl
      exact ⟨_, rfl, b, rfl, log_len hbs.1 hbs.2, q2 i _ H3 H3 e hp (Same.refl _)⟩
    rw [show (sizes.map V.int).length = ((sizes.map wdL).map V.str).length by simp] at hp
    obtain ⟨eD2, s2⟩ := q3 H3 hp
    clear q0 q1 q2 q3 hp Pv
    have eD1 := s2 _ _ eD1
    have s12 := s1.trans s2
    -- loads
    have t3' := Same.seqT s12 t3
    have p3' := dpAll_same s12 _ _ p3
    refine ⟨_, rfl, x, C, dx, _, _, rfl, s12 _ _ hx, T.cls, T.no, (cn_look ta tl to).2.2, to, rfl, ⟨_, t3'⟩, fun D3 n3 => ?_⟩
    obtain ⟨Pv, q0, q1, q2, q3⟩ := vals_core ((loads.map wdO).map V.str) n3 (by simp only [List.length_map]; have := g.l3; omega)
    refine lc_tup (K := K) (a := to) (xs := x3) Pv q0 (fun i H4 _ hp => Same.seqT (q1 i H4 hp) t3') (fun i y H4 hy hp => ⟨rfl, ?_⟩) fun H4 hp => ?_
    · obtain ⟨d, ed, hd⟩ := dpAll_at p3' hy
      rw [List.getElem?_map] at ed
      obtain ⟨b, hb, rfl⟩ := Option.map_eq_some_iff.mp ed
      have hbs := g.o b (List.mem_of_getElem? hb)
      have e : ((loads.map wdO).map V.str)[i]? = some (.str (wdO b)) := by rw [List.getElem?_map, List.getElem?_map, hb]; rfl
      obtain ⟨u, ys, rfl, hu, hys⟩ := dp_tup (dp_same (q1 i H4 hp) _ _ hd)
      obtain rfl := dp_strs hys
      refine ⟨_, rfl, !b.isEmpty, .inr (.inl ⟨_, hu, by cases b <;> rfl⟩), part_of (fun hne => ?_) (fun h0 => ?_)⟩
      · refine ⟨⟨_, rfl⟩, _, rfl, _, u, b, rfl, rfl, .inr hu, ?_, ?_⟩
        · have := sum_le (B := 8) (xs := b) fun x hx => (hbs.2 x hx).2.1
          rw [show (Str.ofString "+").length = 1 by decide +kernel]
          omega
        · have e2 : wdO b = Txt.join "+" b := if_neg hne
          rw [e2] at e
          exact q2 i _ H4 H4 e hp (Same.refl _)
      · have e2 : wdO b = "." := if_pos h0
        rw [e2] at e
        exact q2 i _ H4 H4 e hp (Same.refl _)
    rw [show x3.length = ((loads.map wdO).map V.str).length by simp [l3]] at hp
    obtain ⟨eD3, s3⟩ := q3 H4 hp
    clear q0 q1 q2 q3 hp Pv
    have eD1 := s3 _ _ eD1
    have eD2 := s3 _ _ eD2
    have s13 := s12.trans s3
    -- the parts
    refine ⟨⟨_, rfl⟩, _, rfl, _, rfl, _, rfl, by show 3 ≤ sizeLine; decide, fun t nt => ?_⟩
    have s4 := same_new (o := .tup [.ref D1, .ref D2, .ref D3]) nt
    have et : (upd H4 t (.tup [.ref D1, .ref D2, .ref D3])) t = some (.tup [.ref D1, .ref D2, .ref D3]) := upd_same
    have eD1 := s4 _ _ eD1
    have eD2 := s4 _ _ eD2
    have eD3 := s4 _ _ eD3
    have s14 := s13.trans s4
    generalize upd H4 t (.tup [.ref D1, .ref D2, .ref D3]) = H5 at *
    refine ⟨t, rfl, ⟨_, SqT.of et⟩, fun D4 n4 => ?_⟩
    have hpt : ∀ (i : Nat) (y : V), [V.ref D1, .ref D2, .ref D3][i]? = some y → ∃ (a : Addr) (ws : List Str), y = .ref a ∧ H5 a = some (.lst (ws.map V.str)) ∧ (∀ w ∈ ws, IsWd w) ∧ ws.length ≤ 1000 ∧ ([partT (says.map wdA), partT (sizes.map wdL), partT (loads.map wdO)].map V.str)[i]? = some (.str (partT ws)) := fun i y hy => by
      match i with
      | 0 => cases hy; exact ⟨_, _, rfl, eD1, g.w1, by rw [List.length_map]; exact g.l1, rfl⟩
      | 1 => cases hy; exact ⟨_, _, rfl, eD2, g.w2, by rw [List.length_map]; exact g.l2, rfl⟩
      | 2 => cases hy; exact ⟨_, _, rfl, eD3, g.w3, by rw [List.length_map]; exact g.l3, rfl⟩
      | i + 3 => simp at hy
    obtain ⟨Pv, q0, q1, q2, q3⟩ := vals_core ([partT (says.map wdA), partT (sizes.map wdL), partT (loads.map wdO)].map V.str) n4 (by simp)
    refine lc_tup (K := K) (a := t) (xs := [.ref D1, .ref D2, .ref D3]) Pv q0 (fun i H6 _ hp => Same.seqT (q1 i H6 hp) (SqT.of et)) (fun i y H6 hy hp => ⟨rfl, ?_⟩) fun H6 hp => ?_
    · obtain ⟨a, ws, rfl, ea, hw, hl, e⟩ := hpt i y hy
      have ea6 := q1 i H6 hp _ _ ea
      refine ⟨_, rfl, !ws.isEmpty, rd_part ea6, part_of (fun hne => ?_) (fun h0 => ?_)⟩
      · refine ⟨⟨_, rfl⟩, _, rfl, _, a, ws, rfl, rfl, .inl (SqL.of ea6), ?_, ?_⟩
        · have := sum_le (B := 1000) (xs := ws) fun x hx => (hw x hx).1
          rw [show (Str.ofString " ").length = 1 by decide +kernel]
          omega
        · have e2 : partT ws = Txt.join " " ws := if_neg hne
          rw [e2] at e
          exact q2 i _ H6 H6 e hp (Same.refl _)
      · have e2 : partT ws = "-" := if_pos h0
        rw [e2] at e
        exact q2 i _ H6 H6 e hp (Same.refl _)
    obtain ⟨eD4, s6⟩ := q3 H6 hp
    refine ⟨_, D4, [partT (says.map wdA), partT (sizes.map wdL), partT (loads.map wdO)], rfl, rfl, .inl (SqL.of eD4), ?_, kk H6 (s14.trans s6)⟩
    have b1 := partT_len g.w1 (by rw [List.length_map]; exact g.l1)
    have b2 := partT_len g.w2 (by rw [List.length_map]; exact g.l2)
    have b3 := partT_len g.w3 (by rw [List.length_map]; exact g.l3)
    rw [show (Str.ofString " / ").length = 3 by decide +kernel]
    simp only [List.map_cons, List.map_nil, List.sum_cons, List.sum_nil, List.length_cons, List.length_nil]
    omega
theorem scWo : FnScope ["part"] ["part"] (defScope sWordsOf) := ⟨rfl, rfl, rfl, by decide +kernel, rfl, by decide +kernel, by decide +kernel⟩
theorem ok_wordsof {f : Addr} {fd : FuncData} {k : Nat} (F : Fun K "_words_of" "_words_of" sWordsOf f fd) : FnOk P w K mg base CX0 (k + 1) f fd ["part"] spWordsOf := by
  refine F.ok scWo (fun vs H Q E h => ?_) (fun cdv A outer s H vs Q E hr h => ?_)
  · obtain ⟨z, rfl, _⟩ := h
    rfl
  · obtain ⟨z, rfl, hz, kk⟩ := h
    refine ⟨_, pss_one (ps_ret (pe_ifExp (pt_cmpR op_eq (pv 0) pe_str (nomark _)) (pe_lst pa_nil) (pe_split (pv 0) pe_str))), ?_⟩
    refine ⟨_, rfl, rfl, _, rfl, ite2 (fun e => ?_) (fun e => ?_)⟩
    · have e : z = "-" := V.str.inj (of_decide_eq_true e)
      rw [if_pos e] at kk
      exact ⟨by show 0 ≤ sizeLine; decide, fun p np => kk p np⟩
    · have e : ¬ z = "-" := fun q => e (decide_eq_true (congrArg V.str q))
      rw [if_neg e] at kk
      refine ⟨_, rfl, ⟨_, rfl⟩, _, _, rfl, rfl, by decide +kernel, ?_, fun p np => kk p np⟩
      have : (2000002 : Nat) ≤ sizeLine := by decide
      omega
theorem scRl : FnScope ["word"] ["word"] (defScope sReadLen) := ⟨rfl, rfl, rfl, by decide +kernel, rfl, by decide +kernel, by decide +kernel⟩
theorem ok_readlen {f : Addr} {fd : FuncData} {k : Nat} {tk : Tok} (F : Fun K "_read_length" "_read_length" sReadLen f fd) (B : Bts mg) (mM : mg "MOST_DIGITS" = some (.int 31 tk)) : FnOk P w K mg base CX0 (k + 1) f fd ["word"] spReadLen := by
  refine F.ok scRl (fun vs H Q E h => ?_) (fun cdv A outer s H vs Q E hr h => ?_)
  · obtain ⟨n, rfl, _⟩ := h
    rfl
  · obtain ⟨n, rfl, h0, h1, kk⟩ := h
    refine ⟨_, pss_cons (ps_if (PW.pt (pw_or (pt_cmpR op_gt (pe_callB call_len_str (by rfl) B.len PySem.boot_len (pa_cons (pv 0) pa_nil)) (pe_glob (v := .int 31) rfl mM ⟨tk, rfl⟩) (nomark _)) (pw_or (pt_not (pt_val (pe_bm0 PySem.F.plainAttrs_str PySem.F.slot_str_isascii PySem.F.type_str_isascii mt_isascii (pv 0)))) (pw_or1 (pt_not (pt_val (pe_m0 PySem.F.slot_str_isdigit PySem.F.type_str_isdigit mt_isdigit (pv 0))))))))
        (pss_one (ps_ret (pe_un un_neg pe_int)))
        pss_nil)
      (pss_one (ps_ret (pe_callTy call_int_str (by rfl) B.int (by decide +kernel) (pa_cons (pv 0) pa_nil)))), ?_⟩
    have hl := wdL_len h0 h1
    have hd : NumText.AllDigits (TL.tl (wdL n)) := by rw [wdL_tl h0]; exact TL.numL_digits _
    obtain ⟨d1, d2⟩ := digits_ok (by rw [wdL_tl h0]; exact TL.numL_ne _) hd
    refine ⟨_, rfl, wdL n, rfl, len1000 (by omega), _, _, rfl, rfl, _, rfl, iteN (decide_eq_false (by omega)) ?_⟩
    refine ⟨_, rfl, rfl, wdL n, rfl, rfl, True.intro, _, rfl, iteN (by rw [d1]; rfl) ?_⟩
    refine ⟨_, rfl, ⟨_, rfl⟩, wdL n, rfl, rfl, True.intro, _, rfl, iteN (by rw [d2]; rfl) ?_⟩
    exact ⟨_, rfl, wdL n, n, rfl, wdL_int h0 h1, by omega, kk⟩
theorem scRo : FnScope ["word"] ["word"] (defScope sReadLoad) := ⟨rfl, rfl, rfl, by decide +kernel, rfl, by decide +kernel, by decide +kernel⟩
theorem ok_readload {f : Addr} {fd : FuncData} {k : Nat} (F : Fun K "_read_load" "_read_load" sReadLoad f fd) (B : Bts mg) : FnOk P w K mg base CX0 (k + 1) f fd ["word"] spReadLoad := by
  refine F.ok scRo (fun vs H Q E h => ?_) (fun cdv A outer s H vs Q E hr h => ?_)
  · obtain ⟨load, rfl, _⟩ := h
    rfl
  · obtain ⟨load, rfl, h0, h1, kk⟩ := h
    refine ⟨_, pss_one (ps_ret (pe_ifExp (pt_cmpR op_eq (pv 0) pe_str (nomark _)) (pe_tup pa_nil) (pe_callTy call_tupS (by rfl) B.tuple (by decide +kernel) (pa_cons (pe_split (pv 0) pe_str) pa_nil)))), ?_⟩
    refine ⟨_, rfl, rfl, _, rfl, ite2 (fun e => ?_) (fun e => ?_)⟩
    · have e : wdO load = "." := V.str.inj (of_decide_eq_true e)
      have e0 : load = [] := by
        cases load with
        | nil => rfl
        | cons x r => exact absurd e (wdO_dot h1 (by simp)).1
      subst e0
      exact ⟨by show 0 ≤ sizeLine; decide, fun t nt => kk t _ (same_new nt) nt upd_same⟩
    · have hne : load ≠ [] := fun q => e (decide_eq_true (by rw [q]; rfl))
      have hl := (wdO_wd h0 h1).1
      refine ⟨_, rfl, ⟨_, rfl⟩, _, _, rfl, rfl, by decide +kernel, ?_, fun p np => ?_⟩
      · have : (2000002 : Nat) ≤ sizeLine := by decide
        omega
      · rw [(wdO_dot h1 hne).2]
        refine ⟨⟨p, _, rfl, .inl ⟨SqL.of upd_same, fun t nt => ?_⟩⟩⟩
        have s1 := same_new (o := .lst (load.map V.str)) np
        exact kk t _ (s1.trans (same_new nt)) (s1.free nt) upd_same
end
/-! ### contents made of good data, compared, read -/
theorem mk_cn {K : PySem.W.Frag} {C BC x dx : Addr} {l : List Addr} {H1 : Hp} {va vl vo : V} {da dl do_ : PyData} {R : Hp → Prop} {E : XK} (al : Alive l H1) (nx : H1 x = none) (ndx : H1 dx = none)
    (ha : Dp K (mask l H1) va da) (hl : Dp K (mask l H1) vl dl) (ho : Dp K (mask l H1) vo do_) (za : sz 6 da) (zl : sz 6 dl) (zo : sz 6 do_) (o1 : okAns da = true) (o2 : okLens dl = true) (o3 : okLoads do_ = true)
    (q : ∀ H', Same H1 H' → ContAt K l H' C x (mem da) (mem dl) ((mem do_).map tupOf) → R H') : spCInit K C BC (.ref x :: ([va, vl, vo] ++ [])) (upd (upd H1 dx (.own x)) x (.ins C dx [])) (fun v H2 => v = .non ∧ R H2) E := by
  have s1 : Same H1 (upd (upd H1 dx (.own x)) x (.ins C dx [])) := fun b o e => by
    rw [upd_ne (ne_of_none e nx), upd_ne (ne_of_none e ndx)]; exact e
  have nxl := al.not nx
  have m : Same (mask l H1) (mask (x :: l) (upd (upd H1 dx (.own x)) x (.ins C dx []))) := (mask_new nx).trans (mask_same s1)
  exact ⟨l, x, dx, va, vl, vo, da, dl, do_, rfl, upd_same, al.same s1, nxl, dp_same m _ _ ha, dp_same m _ _ hl, dp_same m _ _ ho, za, zl, zo,
    fun _ _ _ H' kp hc => ⟨rfl, q H' (fun b o e => kp b o (ne_of_none e nx) (s1 b o e)) hc⟩, fun h => by (rw [o1] at h; cases h), fun _ h => by (rw [o2] at h; cases h), fun _ _ h => by (rw [o3] at h; cases h)⟩
theorem okL_of {most : Nat} {p : PyData → Bool} {d : PyData} (h1 : isLT d = true) (h2 : (mem d).length ≤ most) (h3 : ∀ x ∈ mem d, p x = true) : okL most p d = true := by
  unfold okL
  rw [h1, decide_eq_true h2, List.all_eq_true.mpr h3]; rfl
theorem Good.ans {says : List Bool} {sizes : List Int} {loads : List (List Str)} (g : Good says sizes loads) {d : PyData} (h1 : isLT d = true) (h2 : mem d = sayD says) : okAns d = true := by
  refine okL_of h1 (by rw [h2, List.length_map]; exact g.l1) fun x hx => ?_
  rw [h2] at hx
  obtain ⟨b, _, rfl⟩ := List.mem_map.mp hx
  rfl
theorem Good.lens {says : List Bool} {sizes : List Int} {loads : List (List Str)} (g : Good says sizes loads) {d : PyData} (h1 : isLT d = true) (h2 : mem d = sizD sizes) : okLens d = true := by
  refine okL_of h1 (by rw [h2, List.length_map]; exact g.l2) fun x hx => ?_
  rw [h2] at hx
  obtain ⟨b, hb, rfl⟩ := List.mem_map.mp hx
  show (decide (0 ≤ b) && decide (b ≤ longest)) = true
  rw [decide_eq_true (g.s b hb).1, decide_eq_true (g.s b hb).2]; rfl
theorem Good.loads {says : List Bool} {sizes : List Int} {loads : List (List Str)} (g : Good says sizes loads) {d : PyData} (h1 : isLT d = true) (h2 : mem d = loaD loads) : okLoads d = true := by
  refine okL_of h1 (by rw [h2, List.length_map]; exact g.l3) fun x hx => ?_
  rw [h2] at hx
  obtain ⟨b, hb, rfl⟩ := List.mem_map.mp hx
  refine okL_of rfl (by show (b.map PyData.str).length ≤ 100; rw [List.length_map]; exact (g.o b hb).1) fun y hy => ?_
  obtain ⟨z, hz, rfl⟩ := List.mem_map.mp (show y ∈ b.map PyData.str from hy)
  exact ((g.o b hb).2 z hz).nm
theorem tup_loads (loads : List (List Str)) : (loaD loads).map tupOf = loaD loads := by
  unfold loaD
  rw [List.map_map]
  rfl
theorem sz_says {says : List Bool} (h : says.length ≤ 1000) : sz 6 (.list (sayD says)) := by
  simp only [sz]
  refine ⟨by rw [List.length_map]; omega, fun x hx => ?_⟩
  obtain ⟨b, _, rfl⟩ := List.mem_map.mp hx
  simp only [sz]
theorem sz_sizes {sizes : List Int} (h : sizes.length ≤ 1000) : sz 6 (.list (sizD sizes)) := by
  simp only [sz]
  refine ⟨by rw [List.length_map]; omega, fun x hx => ?_⟩
  obtain ⟨b, _, rfl⟩ := List.mem_map.mp hx
  simp only [sz]
theorem sz_strs {m : Nat} {load : List Str} (h : load.length ≤ 100) (hw : ∀ x ∈ load, IsWord x) : sz (m + 2) (.tuple (load.map .str)) := by
  simp only [sz]
  refine ⟨by rw [List.length_map]; omega, fun x hx => ?_⟩
  obtain ⟨b, hb, rfl⟩ := List.mem_map.mp hx
  simp only [sz]
  have := (hw b hb).2.1
  omega
theorem sz_loads {loads : List (List Str)} (h : loads.length ≤ 1000) (ho : ∀ load ∈ loads, load.length ≤ 100 ∧ ∀ x ∈ load, IsWord x) : sz 6 (.list (loaD loads)) := by
  rw [sz]
  refine ⟨by rw [List.length_map]; omega, fun x hx => ?_⟩
  obtain ⟨b, hb, rfl⟩ := List.mem_map.mp hx
  exact sz_strs (ho b hb).1 (ho b hb).2
/-- x == y of contents -/
def spCEq (K : PySem.W.Frag) (C : Addr) : Sp := fun vs H Q _ => ∃ (l l' : List Addr) (x y : Addr) (as ls os as' ls' os' : List PyData), vs = [.ref x, .ref y] ∧ ContAt K l H C x as ls os ∧ ContAt K l' H C y as' ls' os' ∧
  (SeqAt.shaped (.tuple as) = true ∧ SeqAt.shaped (.tuple ls) = true ∧ SeqAt.shaped (.tuple os) = true) ∧ (SeqAt.shaped (.tuple as') = true ∧ SeqAt.shaped (.tuple ls') = true ∧ SeqAt.shaped (.tuple os') = true) ∧
  Q (.bl (PyData.eqv (.tuple as) (.tuple as') && (PyData.eqv (.tuple ls) (.tuple ls') && PyData.eqv (.tuple os) (.tuple os')))) H
structure CnStr (P : Program) (w : World) (K : PySem.W.Frag) (mg : Str → Option Value) (base : Heap) (C g : Addr) : Prop where
  f : PySem.W.findIn K (.ref C) "__str__" = some (some (.ref g))
  i : PySem.W.isFn K (.ref g) = true
  G : FnR P w K mg base CX0 1 g (spCStr K C)
structure CnEq (P : Program) (w : World) (K : PySem.W.Frag) (mg : Str → Option Value) (base : Heap) (C g : Addr) : Prop where
  f : PySem.W.findIn K (.ref C) "__eq__" = some (some (.ref g))
  i : PySem.W.isFn K (.ref g) = true
  G : FnR P w K mg base CX0 1 g (spCEq K C)
theorem strs_dp {K : PySem.W.Frag} {H : Hp} : ∀ xs : List Str, DpAll K H (xs.map V.str) (xs.map PyData.str)
  | [] => .nil
  | x :: r => .cons (.str x) (strs_dp r)
theorem bools_dp {K : PySem.W.Frag} {H : Hp} : ∀ xs : List Bool, DpAll K H (xs.map V.bl) (xs.map PyData.bool)
  | [] => .nil
  | x :: r => .cons (.bl x) (bools_dp r)
theorem ints_dp {K : PySem.W.Frag} {H : Hp} : ∀ xs : List Int, DpAll K H (xs.map V.int) (xs.map PyData.int)
  | [] => .nil
  | x :: r => .cons (.int x) (ints_dp r)
def spRead (K : PySem.W.Frag) (C : Addr) : Sp := fun vs H Q _ => ∃ (l : List Addr) (says : List Bool) (sizes : List Int) (loads : List (List Str)), vs = [.str (textT says sizes loads)] ∧ Good says sizes loads ∧ Alive l H ∧ ∀ x H', Same H H' → ContAt K l H' C x (sayD says) (sizD sizes) (loaD loads) → Q (.ref x) H'
theorem words_back {ws : List Str} (h : ∀ w ∈ ws, IsWd w) : (if partT ws = "-" then [] else Txt.split (partT ws) " ") = ws := by
  by_cases e : ws = []
  · subst e; rw [if_pos (show partT [] = "-" from if_pos rfl)]
  · rw [if_neg (partT_dash h e), partT_split h e]
section
variable {P : Program} {w : World} {K : PySem.W.Frag} {mg : Str → Option Value} {base : Heap}
theorem scCE : FnScope ["self", "other"] ["self", "other"] (defScope (co 4)) := ⟨rfl, rfl, rfl, by decide +kernel, rfl, by decide +kernel, by decide +kernel⟩
theorem ok_ceq {f C : Addr} {fd : FuncData} {k : Nat} (T : CnIn K mg C) (F : Fun K "__eq__" "Contents.__eq__" (co 4) f fd) (B : Bts mg) : FnOk P w K mg base CX0 (k + 1) f fd ["self", "other"] (spCEq K C) := by
  refine F.ok scCE (fun vs H Q E h => ?_) (fun cdv A outer s H vs Q E hr h => ?_)
  · obtain ⟨l, l', x, y, as, ls, os, as', ls', os', rfl, _⟩ := h
    rfl
  · obtain ⟨l, l', x, y, as, ls, os, as', ls', os', rfl, ⟨nx, dx, ta, tl, to, hx, h1, h2, h3⟩, ⟨ny, dy, ta', tl', to', hy, g1, g2, g3⟩, ⟨z1, z2, z3⟩, ⟨z1', z2', z3'⟩, kk⟩ := h
    refine ⟨_, pss_one (ps_ret (pe_and (pe_callB call_isi (by rfl) B.isinstance (by decide +kernel) (pa_cons (pv 1) (pa_cons (pe_glob (v := .ref C) rfl T.m rfl) pa_nil))) (pe_and (pe_cmpR (op_eqD hr.units) (pe_fld (pv 0) rfl) (pe_fld (pv 1) rfl) (nomark _)) (pe_and (pe_cmpR (op_eqD hr.units) (pe_fld (pv 0) rfl) (pe_fld (pv 1) rfl) (nomark _)) (pe_one (pe_cmpR (op_eqD hr.units) (pe_fld (pv 0) rfl) (pe_fld (pv 1) rfl) (nomark _))))))), ?_⟩
    have kc : PySem.W.kitOne K (.ref C) (.ref C) = some true := by unfold PySem.W.kitOne; rw [if_pos (by simp)]
    refine ⟨_, rfl, _, _, _, _, true, rfl, .own C, TyX.base (TyOf.ins hy T.cls T.ca T.cn T.ct T.cm), kc, _, rfl, iteT ?_⟩
    refine ⟨_, rfl, x, C, dx, _, _, rfl, hx, T.cls, T.na, (cn_look ta tl to).1, _, rfl, y, C, dy, _, _, rfl, hy, T.cls, T.na, (cn_look ta' tl' to').1, _, _, dp_free h1, dp_free g1, z1, z1', _, rfl, ?_⟩
    cases e1 : PyData.eqv (.tuple as) (.tuple as') with
    | false =>
      refine iteF ?_
      rw [e1, Bool.false_and] at kk
      exact kk
    | true =>
      rw [e1, Bool.true_and] at kk
      refine iteT ⟨_, rfl, x, C, dx, _, _, rfl, hx, T.cls, T.nl, (cn_look ta tl to).2.1, _, rfl, y, C, dy, _, _, rfl, hy, T.cls, T.nl, (cn_look ta' tl' to').2.1, _, _, dp_free h2, dp_free g2, z2, z2', _, rfl, ?_⟩
      cases e2 : PyData.eqv (.tuple ls) (.tuple ls') with
      | false =>
        refine iteF ?_
        rw [e2, Bool.false_and] at kk
        exact kk
      | true =>
        rw [e2, Bool.true_and] at kk
        exact iteT ⟨_, rfl, x, C, dx, _, _, rfl, hx, T.cls, T.no, (cn_look ta tl to).2.2, _, rfl, y, C, dy, _, _, rfl, hy, T.cls, T.no, (cn_look ta' tl' to').2.2, _, _, dp_free h3, dp_free g3, z3, z3', kk⟩
theorem scRd : FnScope ["text", "parts", "answers", "word", "lengths", "loads", "contents"] ["text"] (defScope (co 1)) := ⟨rfl, rfl, rfl, by decide +kernel, rfl, by decide +kernel, by decide +kernel⟩
theorem ok_read {f C BC fI fB cB fW fRL fRO g : Addr} {fd fdI fdB fdW fdRL fdRO : FuncData} (T : CnIn K mg C) (MK : Mk K C fI) (F : Fun K "read" "Contents.read" (co 1) f fd) (B : Bts mg)
    (GI : FnOk P w K mg base (L2.CX P w) 4 fI fdI ["self", "answers", "lengths", "loads"] (spCInit K C BC)) (bI : Binds K fdI ["self", "answers", "lengths", "loads"] []) (gX_BadContents : mg "BadContents" = some (.ref BC))
    (GW : FnOk P w K mg base CX0 1 fW fdW ["part"] spWordsOf) (mW : mg "_words_of" = some (.ref fW)) (kW : PySem.W.keepIn K (.ref fW) = true) (bW : Binds K fdW ["part"] [])
    (GRL : FnOk P w K mg base CX0 1 fRL fdRL ["word"] spReadLen) (mRL : mg "_read_length" = some (.ref fRL)) (kRL : PySem.W.keepIn K (.ref fRL) = true) (bRL : Binds K fdRL ["word"] [])
    (GRO : FnOk P w K mg base CX0 1 fRO fdRO ["word"] spReadLoad) (mRO : mg "_read_load" = some (.ref fRO)) (kRO : PySem.W.keepIn K (.ref fRO) = true) (bRO : Binds K fdRO ["word"] []) (ZS : CnStr P w K mg base C g) :
    FnOk P w K mg base CX0 6 f fd ["text"] (spRead K C) := by
  refine F.ok scRd (fun vs H Q E h => ?_) (fun cdv A outer s H vs Q E hr h => ?_)
  · obtain ⟨l, says, sizes, loads, rfl, _⟩ := h
    rfl
  · obtain ⟨l, says, sizes, loads, rfl, g0, al, kk⟩ := h
    have hrW : Room 1 _ := hr.mono (by decide)
    have hrRL : Room 1 _ := hr.mono (by decide)
    have hrRO : Room 1 _ := hr.mono (by decide)
    have hrMK : Room 5 _ := hr
    have hrZS : Room 3 _ := hr.mono (by decide)
    refine ⟨_, pss_cons (ps_if (pt_not (pt_val (pe_callB call_isi (by rfl) B.isinstance (by decide +kernel) (pa_cons (pv 0) (pa_cons (pe_bltn (v := .ty "str") (by rfl) B.str (by decide +kernel) rfl) pa_nil)))))
        (pss_one ps_never)
        pss_nil)
      (pss_cons (ps_set (i := 1) scRd.nd rfl (.inl rfl) (pe_split (pv 0) pe_str))
      (pss_cons (ps_if (pt_cmpR op_ne (pe_callB call_len_seq (by rfl) B.len PySem.boot_len (pa_cons (pv 1) pa_nil)) pe_int (nomark _))
        (pss_one ps_never)
        pss_nil)
      (pss_cons (ps_setLc (i := 2) (own := [("word", 3)]) (g := gName 3) (tt := tYes) rfl scRd.nd rfl rfl (sw_true rfl rfl rfl (by decide +kernel)) (pi_list (pe_call GW hrW (by rfl) mW kW bW .nil pass0 (pa_cons (pe_ix ix_list (pv 1) pe_int (fun _ _ => rfl)) pa_nil))) (blkOk_by (N := ["text", "parts", "answers", "word", "lengths", "loads", "contents"]) (sc := defScope (co 1)) (by decide +kernel)) (fun _ _ _ _ _ => (pg_name (i := 3) scRd.nd rfl (.inl rfl))) (fun _ _ _ _ _ => pts_nil) (fun _ _ _ _ _ => (pe_cmpR op_eq (pv 3) pe_str (nomark _))))
      (pss_cons (ps_setLc (i := 4) (own := [("word", 3)]) (g := gName 3) (tt := tYes) rfl scRd.nd rfl rfl (sw_true rfl rfl rfl (by decide +kernel)) (pi_list (pe_call GW hrW (by rfl) mW kW bW .nil pass0 (pa_cons (pe_ix ix_list (pv 1) pe_int (fun _ _ => rfl)) pa_nil))) (blkOk_by (N := ["text", "parts", "answers", "word", "lengths", "loads", "contents"]) (sc := defScope (co 1)) (by decide +kernel)) (fun _ _ _ _ _ => (pg_name (i := 3) scRd.nd rfl (.inl rfl))) (fun _ _ _ _ _ => pts_nil) (fun _ _ _ _ _ => (pe_call GRL hrRL (by rfl) mRL kRL bRL .nil pass0 (pa_cons (pv 3) pa_nil))))
      (pss_cons (ps_setLc (i := 5) (own := [("word", 3)]) (g := gName 3) (tt := tYes) rfl scRd.nd rfl rfl (sw_true rfl rfl rfl (by decide +kernel)) (pi_list (pe_call GW hrW (by rfl) mW kW bW .nil pass0 (pa_cons (pe_ix ix_list (pv 1) pe_int (fun _ _ => rfl)) pa_nil))) (blkOk_by (N := ["text", "parts", "answers", "word", "lengths", "loads", "contents"]) (sc := defScope (co 1)) (by decide +kernel)) (fun _ _ _ _ _ => (pg_name (i := 3) scRd.nd rfl (.inl rfl))) (fun _ _ _ _ _ => pts_nil) (fun _ _ _ _ _ => (pe_call GRO hrRO (by rfl) mRO kRO bRO .nil pass0 (pa_cons (pv 3) pa_nil))))
      (pss_cons (ps_try_only rfl rfl ⟨rfl, by decide, .inl gX_BadContents⟩ takes0
        (fun W pn xe tk po => (pss_one (ps_set (i := 6) scRd.nd rfl (.inl rfl) (pe_make MK GI hrMK (by rfl) T.m bI .nil passF (pa_cons (pv 2) (pa_cons (pv 4) (pa_cons (pv 5) pa_nil)))))))
        (fun a oe cls dd pn hz hf => (pss_one ps_never)))
      (pss_cons (ps_if (pt_cmpR op_ne (pe_callTy (call_strOwn ZS.f ZS.i ZS.G hrZS pass0) (by rfl) B.str (by decide +kernel) (pa_cons (pv 6) pa_nil)) (pv 0) (nomark _))
        (pss_one ps_never)
        pss_nil)
      (pss_one (ps_ret (pv 6)))))))))), ?_⟩
    have w1 := g0.w1
    have w2 := g0.w2
    have w3 := g0.w3
    have b1 := partT_len w1 (by rw [List.length_map]; exact g0.l1)
    have b2 := partT_len w2 (by rw [List.length_map]; exact g0.l2)
    have b3 := partT_len w3 (by rw [List.length_map]; exact g0.l3)
    have hs : Txt.split (textT says sizes loads) " / " = [partT (says.map wdA), partT (sizes.map wdL), partT (loads.map wdO)] := textT_split (partT_free w1) (partT_free w2) (partT_free w3)
    have hlen : (textT says sizes loads).length ≤ 4000000 := by
      have := join_len (sep := " / ") (B := 1001000) (parts := [partT (says.map wdA), partT (sizes.map wdL), partT (loads.map wdO)]) fun x hx => by
        simp only [List.mem_cons, List.not_mem_nil, or_false] at hx
        rcases hx with rfl | rfl | rfl
        · exact b1
        · exact b2
        · exact b3
      rw [show (Str.ofString " / ").length = 3 by decide +kernel] at this
      simp only [List.length_cons, List.length_nil] at this
      show (Txt.join " / " _).length ≤ _
      omega
    refine ⟨_, rfl, _, _, _, _, true, rfl, .ty _, TyX.base (TyOf.str _), kit_ty (by decide +kernel : kitB "str" "str" = some true), _, rfl, iteF ?_⟩
    refine ⟨_, rfl, ⟨_, rfl⟩, _, _, rfl, rfl, by decide +kernel, ?_, fun p np => ?_⟩
    · have : (4000002 : Nat) ≤ sizeLine := by decide
      omega
    rw [hs]
    have s1 := same_new (o := .lst ([partT (says.map wdA), partT (sizes.map wdL), partT (loads.map wdO)].map V.str)) np
    have ep : (upd H p (.lst ([partT (says.map wdA), partT (sizes.map wdL), partT (loads.map wdO)].map V.str))) p = some (.lst ([partT (says.map wdA), partT (sizes.map wdL), partT (loads.map wdO)].map V.str)) := upd_same
    generalize upd H p (.lst ([partT (says.map wdA), partT (sizes.map wdL), partT (loads.map wdO)].map V.str)) = H1 at *
    refine ⟨_, rfl, p, _, rfl, .inl (SqL.of ep), rfl, _, rfl, iteNS rfl ?_⟩
    -- answers
    refine ⟨_, rfl, p, _, 0, _, rfl, rfl, SqL.of ep, atI_nat (j := 0) rfl, _, rfl, by omega, fun p2 np2 => ?_⟩
    rw [words_back w1]
    have s2 := same_new (o := .lst ((says.map wdA).map V.str)) np2
    have ep2 : (upd H1 p2 (.lst ((says.map wdA).map V.str))) p2 = some (.lst ((says.map wdA).map V.str)) := upd_same
    have ep := s2 _ _ ep
    have s12 := s1.trans s2
    generalize upd H1 p2 (.lst ((says.map wdA).map V.str)) = H2 at *
    refine ⟨p2, rfl, ⟨_, SqL.of ep2⟩, fun D1 n1 => ?_⟩
    obtain ⟨Pv, q0, q1, q2, q3⟩ := vals_core (says.map V.bl) n1 (by simp only [List.length_map]; have := g0.l1; omega)
    refine lc_list (K := K) (a := p2) (xs := (says.map wdA).map V.str) Pv q0 (fun i H2 _ hp => SqL.of (q1 i H2 hp _ _ ep2)) (fun i y H2 hy hp => ⟨rfl, ?_⟩) fun H3 hp => ?_
    · rw [List.getElem?_map, List.getElem?_map] at hy
      obtain ⟨_, hc, rfl⟩ := Option.map_eq_some_iff.mp hy
      obtain ⟨b, hb, rfl⟩ := Option.map_eq_some_iff.mp hc
      exact ⟨_, rfl, rfl, q2 i (.bl (decide (V.str (wdA b) = V.str "yes"))) H2 H2 (by rw [List.getElem?_map, hb, wdA_yes]; rfl) hp (Same.refl _)⟩
    rw [show ((says.map wdA).map V.str).length = (says.map V.bl).length by simp] at hp
    obtain ⟨eD1, s3⟩ := q3 H3 hp
    clear q0 q1 q2 q3 hp Pv
    have s13 := s12.trans s3
    have ep := s3 _ _ ep
    have nD1 : D1 ∉ l := (al.same s12).not n1
    clear s1 s2 s3 s12 ep2
    -- lengths
    refine ⟨_, rfl, p, _, 1, _, rfl, rfl, SqL.of ep, atI_nat (j := 1) rfl, _, rfl, by omega, fun p4 np4 => ?_⟩
    rw [words_back w2]
    have s4 := same_new (o := .lst ((sizes.map wdL).map V.str)) np4
    have ep4 : (upd H3 p4 (.lst ((sizes.map wdL).map V.str))) p4 = some (.lst ((sizes.map wdL).map V.str)) := upd_same
    have ep := s4 _ _ ep
    have eD1 := s4 _ _ eD1
    have s14 := s13.trans s4
    generalize upd H3 p4 (.lst ((sizes.map wdL).map V.str)) = H4 at *
    refine ⟨p4, rfl, ⟨_, SqL.of ep4⟩, fun D2 n2 => ?_⟩
    obtain ⟨Pv, q0, q1, q2, q3⟩ := vals_core (sizes.map V.int) n2 (by simp only [List.length_map]; have := g0.l2; omega)
    refine lc_list (K := K) (a := p4) (xs := (sizes.map wdL).map V.str) Pv q0 (fun i H2 _ hp => SqL.of (q1 i H2 hp _ _ ep4)) (fun i y H2 hy hp => ⟨rfl, ?_⟩) fun H5 hp => ?_
    · rw [List.getElem?_map, List.getElem?_map] at hy
      obtain ⟨_, hc, rfl⟩ := Option.map_eq_some_iff.mp hy
      obtain ⟨b, hb, rfl⟩ := Option.map_eq_some_iff.mp hc
      have hbs := g0.s b (List.mem_of_getElem? hb)
      exact ⟨_, rfl, b, rfl, hbs.1, hbs.2, q2 i (.int b) H2 H2 (by rw [List.getElem?_map, hb]; rfl) hp (Same.refl _)⟩
    rw [show ((sizes.map wdL).map V.str).length = (sizes.map V.int).length by simp] at hp
    obtain ⟨eD2, s5⟩ := q3 H5 hp
    clear q0 q1 q2 q3 hp Pv
    have s15 := s14.trans s5
    have nD2 : D2 ∉ l := (al.same s14).not n2
    have ep := s5 _ _ ep
    have eD1 := s5 _ _ eD1
    clear s4 s5 s13 s14 ep4
    -- loads
    refine ⟨_, rfl, p, _, 2, _, rfl, rfl, SqL.of ep, atI_nat (j := 2) rfl, _, rfl, by omega, fun p6 np6 => ?_⟩
    rw [words_back w3]
    have s6 := same_new (o := .lst ((loads.map wdO).map V.str)) np6
    have ep6 : (upd H5 p6 (.lst ((loads.map wdO).map V.str))) p6 = some (.lst ((loads.map wdO).map V.str)) := upd_same
    have eD1 := s6 _ _ eD1
    have eD2 := s6 _ _ eD2
    have s16 := s15.trans s6
    generalize upd H5 p6 (.lst ((loads.map wdO).map V.str)) = H6 at *
    clear s6 s15 ep
    refine ⟨p6, rfl, ⟨_, SqL.of ep6⟩, fun D3 n3 => ?_⟩
    have al6 := al.same s16
    refine lc_list (K := K) (a := p6) (xs := (loads.map wdO).map V.str) (fun i H7 => ∃ ys, H7 D3 = some (.lst ys) ∧ ys.length = i ∧ Same H6 H7 ∧ DpAll K (mask (D3 :: l) H7) ys ((loads.take i).map fun load => .tuple (load.map .str))) ⟨[], upd_same, rfl, same_new n3, .nil⟩ (fun i H2 _ ⟨_, _, _, s, _⟩ => SqL.of (s _ _ ep6)) (fun i y H7 hy ⟨ys, eD, el, s7, hys⟩ => ⟨rfl, ?_⟩) fun H7 ⟨ys, eD, el, s7, hys⟩ => ?_
    · rw [List.getElem?_map, List.getElem?_map] at hy
      obtain ⟨_, hc, rfl⟩ := Option.map_eq_some_iff.mp hy
      obtain ⟨b, hb, rfl⟩ := Option.map_eq_some_iff.mp hc
      have hbs := g0.o b (List.mem_of_getElem? hb)
      have hi : i < loads.length := (List.getElem?_eq_some_iff.mp hb).1
      refine ⟨_, rfl, b, rfl, hbs.1, hbs.2, fun t H8 s8 nt et => ⟨_, s8 _ _ eD, small1000 (by have := g0.l3; omega), ys ++ [.ref t], upd_same, by rw [List.length_append, el]; rfl, fun c o e => ?_, ?_⟩⟩
      · rw [upd_ne (ne_of_none e n3)]; exact s8 _ _ (s7 _ _ e)
      · have ntl : t ∉ D3 :: l := fun m => by
          rcases List.mem_cons.mp m with rfl | m
          · rw [nt] at eD; cases eD
          · exact (al6.same s7).not nt m
        have s9 : Same (mask (D3 :: l) H7) (mask (D3 :: l) (upd H8 D3 (.lst (ys ++ [.ref t])))) := (mask_same s8).trans (mask_at List.mem_cons_self)
        rw [List.take_add_one, hb, List.map_append]
        refine dpAll_app (dpAll_same s9 _ _ hys) (.cons (.tup (SqT.of ?_) (strs_dp b)) .nil)
        rw [mask_out ntl, upd_ne (fun e => ntl (by rw [e]; exact List.mem_cons_self))]
        exact et
    have s17 := s16.trans s7
    rw [show ((loads.map wdO).map V.str).length = loads.length by simp, List.take_length] at hys
    have al7 := al6.same s7
    have eD1 := s7 _ _ eD1
    have eD2 := s7 _ _ eD2
    have dD1 : Dp K (mask l H7) (.ref D1) (.list (sayD says)) := .lst (SqL.of (by rw [mask_out nD1]; exact eD1)) (bools_dp says)
    have dD2 : Dp K (mask l H7) (.ref D2) (.list (sizD sizes)) := .lst (SqL.of (by rw [mask_out nD2]; exact eD2)) (ints_dp sizes)
    have dD3 : Dp K (mask l H7) (.ref D3) (.list (loaD loads)) := .lst (SqL.of (by rw [mask_out (al6.not n3)]; exact eD)) (dpAll_same mask_less _ _ hys)
    refine ⟨_, rfl, _, rfl, _, rfl, fun x dx nx ndx _ => ?_⟩
    refine mk_cn al7 nx ndx dD1 dD2 dD3 (sz_says g0.l1) (sz_sizes g0.l2) (sz_loads g0.l3 g0.o) (g0.ans rfl rfl) (g0.lens rfl rfl) (g0.loads rfl rfl) fun H8 s8 hC => ?_
    have hC : ContAt K l H8 C x (sayD says) (sizD sizes) (loaD loads) := by rw [← tup_loads loads]; exact hC
    obtain ⟨_, dx', ta, tl, to, hx, _⟩ := id hC
    refine ⟨_, rfl, x, dx', _, rfl, hx, l, x, says, sizes, loads, rfl, hC, g0, fun H9 s9 => ⟨_, rfl, ?_⟩⟩
    refine ⟨_, rfl, rfl, _, rfl, iteNS rfl ⟨_, rfl, ?_⟩⟩
    exact kk x H9 (s17.trans (s8.trans s9)) (hC.same s9)
end
/-! ### triples as data -/
def tripD (says : List Bool) (sizes : List Int) (loads : List (List Str)) : PyData := .list [.list (sayD says), .list (sizD sizes), .list (loaD loads)]
theorem trip_dp {K : PySem.W.Frag} {H : Hp} {v : V} {says : List Bool} {sizes : List Int} {loads : List (List Str)} (h : Dp K H v (tripD says sizes loads)) : ∃ r a b c, v = .ref r ∧ SqL K H r [.ref a, .ref b, .ref c] ∧ Dp K H (.ref a) (.list (sayD says)) ∧ Dp K H (.ref b) (.list (sizD sizes)) ∧ Dp K H (.ref c) (.list (loaD loads)) := by
  obtain ⟨r, xs, rfl, hr, hd⟩ := dp_lst h
  obtain ⟨v0, r1, rfl, b0, hd⟩ := dpAll_cons hd
  obtain ⟨v1, r2, rfl, b1, hd⟩ := dpAll_cons hd
  obtain ⟨v2, r3, rfl, b2, hd⟩ := dpAll_cons hd
  obtain rfl := dpAll_nil hd
  obtain ⟨a, _, rfl, _⟩ := dp_lst b0
  obtain ⟨b, _, rfl, _⟩ := dp_lst b1
  obtain ⟨c, _, rfl, _⟩ := dp_lst b2
  exact ⟨r, a, b, c, rfl, hr, b0, b1, b2⟩
theorem can_all {l : List PyData} (h : ∀ x ∈ l, PyData.canLay0 x = true) : PyData.canLayAll0 l = true := by
  induction l with
  | nil => rfl
  | cons x r ih =>
    simp only [PyData.canLayAll0, Bool.and_eq_true]
    exact ⟨h x List.mem_cons_self, ih fun y hy => h y (List.mem_cons_of_mem _ hy)⟩
theorem depth_all {l : List PyData} {B : Nat} (h : ∀ x ∈ l, PyData.depth x ≤ B) : PyData.depthAll l ≤ B := by
  induction l with
  | nil => simp [PyData.depthAll]
  | cons x r ih =>
    simp only [PyData.depthAll]
    have h1 := h x List.mem_cons_self
    have h2 := ih fun y hy => h y (List.mem_cons_of_mem _ hy)
    omega
theorem shaped_tup {l : List PyData} (h1 : ∀ x ∈ l, PyData.canLay0 x = true) (h2 : ∀ x ∈ l, PyData.depth x ≤ 10) : SeqAt.shaped (.tuple l) = true := by
  unfold SeqAt.shaped
  have := depth_all h2
  simp only [PyData.canLay0, can_all h1, PyData.depth, Bool.true_and]
  exact decide_eq_true (by omega)
theorem word_str {x : Str} (h : IsWord x) : PyData.strOk x = true := by
  unfold PyData.strOk
  rw [Array.all_eq_true_iff_forall_mem]
  intro c hc
  have := (h.2.2 c (Array.mem_toList_iff.mpr hc)).2
  exact decide_eq_true (by omega)
theorem sh_says (says : List Bool) : SeqAt.shaped (.tuple (sayD says)) = true := shaped_tup (fun x h => by
  obtain ⟨b, _, rfl⟩ := List.mem_map.mp h
  rfl) fun x h => by
  obtain ⟨b, _, rfl⟩ := List.mem_map.mp h
  simp [PyData.depth]
theorem sh_sizes (sizes : List Int) : SeqAt.shaped (.tuple (sizD sizes)) = true := shaped_tup (fun x h => by
  obtain ⟨b, _, rfl⟩ := List.mem_map.mp h
  rfl) fun x h => by
  obtain ⟨b, _, rfl⟩ := List.mem_map.mp h
  simp [PyData.depth]
theorem sh_loads {loads : List (List Str)} (ho : ∀ load ∈ loads, ∀ x ∈ load, IsWord x) : SeqAt.shaped (.tuple (loaD loads)) = true := shaped_tup (fun x h => by
  obtain ⟨b, hb, rfl⟩ := List.mem_map.mp h
  refine can_all fun y hy => ?_
  obtain ⟨z, hz, rfl⟩ := List.mem_map.mp hy
  exact word_str (ho b hb z hz)) fun x h => by
  obtain ⟨b, hb, rfl⟩ := List.mem_map.mp h
  simp only [PyData.depth]
  have := depth_all (l := b.map PyData.str) (B := 0) fun y hy => by
    obtain ⟨z, hz, rfl⟩ := List.mem_map.mp hy
    simp [PyData.depth]
  omega
theorem eqv_self {l : List PyData} (h : SeqAt.shaped (.tuple l) = true) : PyData.eqv (.tuple l) (.tuple l) = true := SeqAt.eqv_refl _ (SeqAt.canLay_of_shaped h)
theorem ContAt.at {K : PySem.W.Frag} {l : List Addr} {H : Hp} {C x a : Addr} {o : HO} {as ls os : List PyData} (ha : a ∈ l) (h : ContAt K l H C x as ls os) : ContAt K l (upd H a o) C x as ls os := by
  obtain ⟨nx, dx, ta, tl, to, h0, h1, h2, h3⟩ := h
  have s : Same (mask (x :: l) H) (mask (x :: l) (upd H a o)) := mask_at (List.mem_cons_of_mem _ ha)
  exact ⟨nx, dx, ta, tl, to, by rw [upd_ne fun e => nx (by rw [e]; exact ha)]; exact h0, dp_same s _ _ h1, dp_same s _ _ h2, dp_same s _ _ h3⟩
/-! ### a try with any clauses, named or not, in turn -/
section
open PySem.Spec PyProof.Rows
/-- an exception at rest in the frame of X, ahead of the clauses -/
structure Rests (X : Cx) (pins : List (Addr × Obj)) (a : Addr) (B : Heap) (sI t : Shared) (σ : L2.St) (H : Hp) (cls : Value) (d : Option Addr) : Prop where
  inv : Inv X pins σ H sI
  nb : ∀ b o, sI.heap.get? b = some o → b ∉ frs X.stack → B.get? b = some o
  up : sI.heap.UpToSlots t.heap
  fl : HandSPX.FlyingZ B (X.env :: X.outer) a (Zc cls d) t.heap
  na : H a = none
  os : t.os = sI.os
  ag : AllBare t.gens
/-- what a row of clauses wishes of an exception, by how the try ends -/
def Clauses (X : Cx) (hds : List ExceptHandler) (W : Ends → WX) : Prop :=
  ∀ pins a B sI t σ H cls d D, Rests X pins a B sI t σ H cls d → W D cls d σ H → wpAny (model X.prog X.w) X.A (handleBy (.ref a) X.env hds) (SP X pins D) X.xe t
section
variable {X : Cx} {Wout : WX} {Wl : Ends → WX} {hds : List ExceptHandler} {x n : Str} {c : Value} {i : Nat} {body suite : List Stmt} {b₀ : Stmt} {np pos pos' : Pos} {tb : WX → TS} {ts : Addr → Value → Option Addr → TS}
namespace Rests
variable {pins : List (Addr × Obj)} {a : Addr} {B : Heap} {sI t : Shared} {σ : L2.St} {H : Hp} {cls : Value} {d : Option Addr}
theorem here (r : Rests X pins a B sI t σ H cls d) : Inv X pins σ H t := r.inv.landed r.nb r.fl.1 r.up r.os r.ag
theorem obj (r : Rests X pins a B sI t σ H cls d) : ∃ oe vs, t.heap.get? a = some oe ∧ Zc cls d oe ∧ oe.data = .fields vs := r.fl.there
theorem off (hf : X.env.frame = some X.env.locals) (r : Rests X pins a B sI t σ H cls d) : a ≠ X.env.locals ∧ a ∉ X.fs := by
  obtain ⟨oe, vs, he, _, hd⟩ := r.obj
  have nfr : a ∉ frs (X.env :: X.outer) := fun hm => by
    obtain ⟨_, o', e', hnf⟩ := r.fl.2.2.1.mem hm
    rw [he] at e'; cases e'
    exact hnf _ hd
  refine ⟨fun z => nfr (List.mem_filterMap.mpr ⟨X.env, List.mem_cons_self, by rw [hf, z]⟩), fun hm => ?_⟩
  obtain ⟨e, he', q⟩ := List.mem_filterMap.mp hm
  exact nfr (List.mem_filterMap.mpr ⟨e, List.mem_cons_of_mem _ he', q⟩)
end Rests
theorem cl_nil (hs : X.stack = X.env :: X.outer) (hf : X.env.frame = some X.env.locals) (tk : Takes X Wout) : Clauses X [] (fun _ => Wout) := by
  intro pins a B sI t σ H cls d D r w
  refine wpAny_handleBy_nil ?_
  obtain ⟨k1, k2, k3, oe, vs, T, oT, ts', he, hz, hd, h1, hr⟩ := id r.fl
  unfold PySem.passOn
  refine wpAny_bind (wpAny_field he hd h1 ?_)
  rw [if_neg (show ¬ ((Value.ref T == Value.none) = true) from by simp)]
  have fin : wpAny (model X.prog X.w) X.A (setFlight (.ref a) X.env.frame) (fun _ s4 => wpAny (model X.prog X.w) X.A (throw (.ref a) : Sem Flow) (SP X pins D) X.xe s4) X.xe t := by
    rw [hf]
    exact HandSPX.setFlight_upZ r.fl fun h4 hh4 up4 => wpAny_throw (tk _ _ ⟨a, B, sI, pins, σ, H, cls, d, rfl, r.inv, r.nb, r.up.trans up4, .inr (.inr (by rw [hs]; exact hh4)), r.na, r.os, r.ag, w⟩)
  first
    | exact wpAny_bind (wpAny_pure (wpAny_bind fin))
    | exact wpAny_bind fin
theorem cl_as (hf : X.env.frame = some X.env.locals) (hN : X.N.Nodup) (hi : X.N[i]? = some n) (hln : X.env.kindOf n = some .local) (hc : Names X x c)
    (hsu : ∀ (a : Addr) (oe : Obj) (cls : Value) (d : Option Addr) (pn : List (Addr × Obj)), Zc cls d oe → (∃ vs, oe.data = .fields vs) → PSs (X.suite a ((a, oe) :: pn)) (b₀ :: suite) (ts a cls d))
    (hk : Clauses X hds Wl) : Clauses X (.ExceptHandler (some (.Name x np)) (some n) (b₀ :: suite) pos' :: hds) (fun D => wAs X.K c i ts (Wl D) D) := by
  intro pins a B sI t σ H cls d D r w
  obtain ⟨b, hb1, hyes, hno⟩ := w
  obtain ⟨nL, nF⟩ := r.off hf
  obtain ⟨oe3, vs3, he3, hz3, hd3⟩ := r.obj
  have J3 := r.here
  have ok := J3.ok
  have S3 := J3.suite he3 hd3 r.na nL nF
  refine wpAny_handleBy_cons (codeAny_handlers_test ?_) (by intro q; cases q)
  have LT : PySem.W.Looks (model X.prog X.w) t.heap (typeOf (.ref a)) cls := fun A Q E s k q => wpAny_typeOf_ref (k _ _ he3) (by rw [hz3.1]; exact q)
  have LM := PySem.W.exm_one (M := model X.prog X.w) J3.kIn LT hb1
  have test : ∀ {Q : Value → Shared → Prop} {E : Value → Shared → Prop}, Q c t → wpAny (model X.prog X.w) (X.A.mark (some (.ref a))) (eval (.Name x np) X.env) Q E t := fun {Q E} q => by
    obtain ⟨hg, hdbg, hm | ⟨hm, hv, hnn⟩⟩ := hc
    · exact ld_glob (X := X.suite a ((a, oe3) :: (X.pn ++ pins))) S3 hg hm q hdbg
    · exact ld_blt (X := X.suite a ((a, oe3) :: (X.pn ++ pins))) S3 hg hm hv q hnn hdbg
  refine test (LM.here ?_)
  cases b with
  | true =>
    refine codeAny_handlers_suite_as ?_
    refine HandSPX.lands_againZ r.fl fun h4 fl4 up4 => ?_
    have r4 : Rests X pins a B sI { t with heap := h4 } σ H cls d := ⟨r.inv, r.nb, r.up.trans up4, fl4, r.na, r.os, r.ag⟩
    obtain ⟨oe4, vs4, he4, hz4, hd4⟩ := r4.obj
    have S4 := r4.here.suite he4 hd4 r.na nL nF
    refine store_ok (X := X.suite a ((a, oe4) :: (X.pn ++ pins))) (v := .ref a) S4 hN hi (.inl hln) rfl (fun s5 S5 => ?_) (.inr hln)
    refine wpAny_mono ((hsu a oe4 cls d (X.pn ++ pins) hz4 ⟨_, hd4⟩).run [] s5 _ H _ S5 (hyes rfl a r.na)) (fun f s6 hsp => ?_) (fun _ _ z => False.elim z)
    cases f with
    | next =>
      obtain ⟨σ6, H6, S6, q6⟩ := hsp
      exact gone_ok (S6.unsuite ok) hN hi hln fun s7 J7 => ⟨_, _, J7, q6⟩
    | brk =>
      obtain ⟨σ6, H6, S6, q6⟩ := hsp
      exact gone_ok (S6.unsuite ok) hN hi hln fun s7 J7 => ⟨_, _, J7, q6⟩
    | cont =>
      obtain ⟨σ6, H6, S6, q6⟩ := hsp
      exact gone_ok (S6.unsuite ok) hN hi hln fun s7 J7 => ⟨_, _, J7, q6⟩
    | ret u =>
      obtain ⟨v6, σ6, H6, S6, r6, q6⟩ := hsp
      exact gone_ok (S6.unsuite ok) hN hi hln fun s7 J7 => ⟨_, _, _, J7, r6, q6⟩
  | false => exact hk pins a B sI t σ H cls d D r (hno rfl)
theorem ps_try_cl {h₀ : ExceptHandler} (hs : X.stack = X.env :: X.outer) (hf : X.env.frame = some X.env.locals)
    (hb : ∀ (W : WX) (pn : List (Addr × Obj)) (xe : Value → Shared → Prop), Takes (X.tr pn xe) W → PassesOwn (model X.prog X.w) X.A X.env xe → PSs (X.tr pn xe) body (tb W))
    (hk : Clauses X (h₀ :: hds) Wl) : PS X (.Try body (h₀ :: hds) [] [] pos) (fun D σ H => tb (Wl D) D σ H) := by
  refine ⟨fun pins s σ H D I h => ?_⟩
  have ok := I.ok
  have hfr : X.A.frames = some (X.env :: X.outer) := by rw [ok.frames, hs]
  refine wpAny_Try_except ?_
  refine wpAny_mono ((hb (Wl D) (X.pn ++ pins) (fun e s₁ => wpAny (model X.prog X.w) X.A (noteFrame e X.env) (fun _ s₂ => wpAny (model X.prog X.w) X.A (setFlight e none) (fun _ s₃ =>
    wpAny (model X.prog X.w) X.A (handleBy e X.env (h₀ :: hds)) (SP X pins D) X.xe s₃) X.xe s₂) X.xe s₁) (fun u s' xx => ?_) PassesOwn.looking).run [] s σ H D (I.toTry _) h) (fun f s1 hsp => ?_) (fun e s1 he => he)
  · obtain ⟨a, B, sI, pins', σ', H', cls, d, rfl, J', nb, up, sky, na, os, ag, w⟩ := xx
    have sky' : Sky B (X.env :: X.outer) a (Zc cls d) X.env.locals s'.heap := by rw [← hs]; exact sky
    show wpAny (model X.prog X.w) X.A (noteFrame (.ref a) X.env) _ _ _
    exact Sky.land Zc.steady hfr hf sky' fun h3 fl3 up3 => hk pins a B sI { s' with heap := h3 } σ' H' cls d D ⟨J'.ofTry ok, nb, up.trans up3, fl3, na, os, ag⟩ w
  · cases f with
    | next =>
      obtain ⟨σ', H', J', q⟩ := hsp
      exact wpAny_execs_nil ⟨σ', H', J'.ofTry ok, q⟩
    | brk =>
      obtain ⟨σ', H', J', q⟩ := hsp
      exact ⟨σ', H', J'.ofTry ok, q⟩
    | cont =>
      obtain ⟨σ', H', J', q⟩ := hsp
      exact ⟨σ', H', J'.ofTry ok, q⟩
    | ret u =>
      obtain ⟨v, σ', H', J', r, q⟩ := hsp
      exact ⟨v, σ', H', J'.ofTry ok, r, q⟩
end
end
/-! ### a clause whose error is kept behind the try -/
section
open PySem.Spec PyProof.Rows
/-- a caught error of the class cls, with the dict d -/
def ExC (cls : Value) (d : Option Addr) (a : Addr) : HO := .ext fun h => ∃ (oe : Obj) (vs : Array Value), h.get? a = some oe ∧ Zc cls d oe ∧ oe.data = .fields vs
theorem exC_ok {P : Program} {w : World} {H : Hp} {h : Heap} {a : Addr} {cls : Value} {d : Option Addr} {oe : Obj} {vs : Array Value} (e : h.get? a = some oe) (z : Zc cls d oe) (dd : oe.data = .fields vs) : ObjOk P w H h a (ExC cls d a) :=
  ⟨⟨oe, vs, e, z, dd⟩, ⟨oe, e⟩, fun _ _ ⟨o, v, q, r⟩ k => ⟨o, v, k o q, r⟩⟩
theorem exC_at {P : Program} {w : World} {H : Hp} {h : Heap} {a : Addr} {cls : Value} {d : Option Addr} (ok : HOk P w H h) (e : H a = some (ExC cls d a)) : ∃ (oe : Obj) (vs : Array Value), h.get? a = some oe ∧ Zc cls d oe ∧ oe.data = .fields vs := (ok a _ e).1
/-- an object that the frame has made is tracked from here on -/
theorem Inv_track {X : Cx} {pins : List (Addr × Obj)} {σ : L2.St} {H : Hp} {s : Shared} {a : Addr} {o : HO} {ob : Obj} {vs : Array Value} (I : Inv X pins σ H s) (n0 : X.s_0.heap.get? a = none) (hn : H a = none) (ea : s.heap.get? a = some ob) (da : ob.data = .fields vs)
    (nl : a ≠ X.env.locals) (np : ∀ p ∈ X.pn ++ pins, p.1 ≠ a) (new : ObjOk X.prog X.w (upd H a o) s.heap a o) : Inv X pins σ (upd H a o) s := by
  have ne0 : ∀ b u, X.s_0.heap.get? b = some u → b ≠ a := fun b u e z => by rw [z, n0] at e; cases e
  refine ⟨I.ok, I.os, I.bare, ⟨I.base.keep, I.base.slot, fun b u q n hb => ?_, I.base.there, fun b xs q => ?_, fun b u xs q => ?_, fun b ps q => ?_⟩, I.loc, I.cell, ?_, fun x c e => ?_, fun p hp => ?_, HOk.laidN I.hok (fun _ _ q => q) hn new, I.len⟩
  · rw [upd_ne (ne0 b u q)]; exact I.base.free b u q n hb
  · have e := I.base.tups b xs q
    rw [upd_ne (ne_of_none e hn)]; exact e
  · have e := I.base.frzs b u xs q
    rw [upd_ne (ne_of_none e hn)]; exact e
  · obtain ⟨m, e⟩ := I.base.tbls b ps q
    exact ⟨m, by rw [upd_ne (ne_of_none e hn)]; exact e⟩
  · rw [upd_ne nl.symm]; exact I.free
  · have hc : c ≠ a := fun z => by
      obtain ⟨v, oc, hoc, hd⟩ := I.cell x c e
      rw [z, ea] at hoc
      cases hoc
      rw [da] at hd; cases hd
    rw [upd_ne hc]; exact I.freeC x c e
  · obtain ⟨h1, h2, h3⟩ := I.pin p hp
    exact ⟨h1, by rw [upd_ne (np p hp)]; exact h2, h3⟩
section
variable {X : Cx} {Wl : Ends → WX} {hds : List ExceptHandler} {x n : Str} {c : Value} {i : Nat} {suite : List Stmt} {b₀ : Stmt} {np pos' : Pos} {ts : Addr → Value → Option Addr → TS}
namespace Rests
variable {pins : List (Addr × Obj)} {a : Addr} {B : Heap} {sI t : Shared} {σ : L2.St} {H : Hp} {cls : Value} {d : Option Addr}
theorem noSI (hs : X.stack = X.env :: X.outer) (r : Rests X pins a B sI t σ H cls d) : sI.heap.get? a = none := by
  cases e : sI.heap.get? a with
  | none => rfl
  | some o =>
    obtain ⟨oe, vs, he, _, hd⟩ := r.obj
    have nfr : a ∉ frs X.stack := fun hm => by
      rw [hs] at hm
      obtain ⟨_, o', e', hnf⟩ := r.fl.2.2.1.mem hm
      rw [he] at e'; cases e'
      exact hnf _ hd
    have := r.nb a o e nfr
    rw [r.fl.2.1] at this; cases this
theorem no0 (hs : X.stack = X.env :: X.outer) (hx : X.ex = []) (r : Rests X pins a B sI t σ H cls d) : X.s_0.heap.get? a = none := by
  cases e : X.s_0.heap.get? a with
  | none => rfl
  | some o =>
    obtain ⟨o', e'⟩ := r.inv.base.there a o e (by rw [hx]; exact fun z => nomatch z)
    rw [r.noSI hs] at e'; cases e'
theorem nopin (hs : X.stack = X.env :: X.outer) (r : Rests X pins a B sI t σ H cls d) : ∀ p ∈ X.pn ++ pins, p.1 ≠ a := fun p hp z => by
  have := (r.inv.pin p hp).1
  rw [z, r.noSI hs] at this; cases this
end Rests
/-- the reading of a clause that keeps its error -/
def wAsT (K : PySem.W.Frag) (c : Value) (i : Nat) (ts : Addr → Value → Option Addr → TS) (Wout : WX) (D : Ends) : WX := fun cls d σ H =>
  ∃ b, PySem.W.exmOne K cls c = some b ∧ (b = true → ∀ a, H a = none → ts a cls d { nx := fun σ' H' => D.nx (σ'.set i none) (upd H' a (ExC cls d a)), rt := D.rt, bk := fun σ' H' => D.bk (σ'.set i none) H', ct := fun σ' H' => D.ct (σ'.set i none) H' } (σ.set i (some (.ref a))) H) ∧
    (b = false → Wout cls d σ H)
theorem cl_asT (hs : X.stack = X.env :: X.outer) (hx : X.ex = []) (hf : X.env.frame = some X.env.locals) (hN : X.N.Nodup) (hi : X.N[i]? = some n) (hln : X.env.kindOf n = some .local) (hc : Names X x c)
    (hsu : ∀ (a : Addr) (oe : Obj) (cls : Value) (d : Option Addr) (pn : List (Addr × Obj)), Zc cls d oe → (∃ vs, oe.data = .fields vs) → PSs (X.suite a ((a, oe) :: pn)) (b₀ :: suite) (ts a cls d))
    (hk : Clauses X hds Wl) : Clauses X (.ExceptHandler (some (.Name x np)) (some n) (b₀ :: suite) pos' :: hds) (fun D => wAsT X.K c i ts (Wl D) D) := by
  intro pins a B sI t σ H cls d D r w
  obtain ⟨b, hb1, hyes, hno⟩ := w
  obtain ⟨nL, nF⟩ := r.off hf
  obtain ⟨oe3, vs3, he3, hz3, hd3⟩ := r.obj
  have J3 := r.here
  have ok := J3.ok
  have S3 := J3.suite he3 hd3 r.na nL nF
  refine wpAny_handleBy_cons (codeAny_handlers_test ?_) (by intro q; cases q)
  have LT : PySem.W.Looks (model X.prog X.w) t.heap (typeOf (.ref a)) cls := fun A Q E s k q => wpAny_typeOf_ref (k _ _ he3) (by rw [hz3.1]; exact q)
  have LM := PySem.W.exm_one (M := model X.prog X.w) J3.kIn LT hb1
  have test : ∀ {Q : Value → Shared → Prop} {E : Value → Shared → Prop}, Q c t → wpAny (model X.prog X.w) (X.A.mark (some (.ref a))) (eval (.Name x np) X.env) Q E t := fun {Q E} q => by
    obtain ⟨hg, hdbg, hm | ⟨hm, hv, hnn⟩⟩ := hc
    · exact ld_glob (X := X.suite a ((a, oe3) :: (X.pn ++ pins))) S3 hg hm q hdbg
    · exact ld_blt (X := X.suite a ((a, oe3) :: (X.pn ++ pins))) S3 hg hm hv q hnn hdbg
  refine test (LM.here ?_)
  cases b with
  | true =>
    refine codeAny_handlers_suite_as ?_
    refine HandSPX.lands_againZ r.fl fun h4 fl4 up4 => ?_
    have r4 : Rests X pins a B sI { t with heap := h4 } σ H cls d := ⟨r.inv, r.nb, r.up.trans up4, fl4, r.na, r.os, r.ag⟩
    obtain ⟨oe4, vs4, he4, hz4, hd4⟩ := r4.obj
    have S4 := r4.here.suite he4 hd4 r.na nL nF
    refine store_ok (X := X.suite a ((a, oe4) :: (X.pn ++ pins))) (v := .ref a) S4 hN hi (.inl hln) rfl (fun s5 S5 => ?_) (.inr hln)
    refine wpAny_mono ((hsu a oe4 cls d (X.pn ++ pins) hz4 ⟨_, hd4⟩).run [] s5 _ H _ S5 (hyes rfl a r.na)) (fun f s6 hsp => ?_) (fun _ _ z => False.elim z)
    cases f with
    | next =>
      obtain ⟨σ6, H6, S6, q6⟩ := hsp
      refine gone_ok (X := X.suite a ((a, oe4) :: (X.pn ++ pins))) S6 hN hi hln fun s7 S7 => ?_
      obtain ⟨p1, p2, p3, _⟩ := S7.pin (a, oe4) (List.mem_append_left _ List.mem_cons_self)
      exact ⟨_, _, Inv_track (S7.unsuite ok) (r.no0 hs hx) p2 p1 hd4 p3 (r.nopin hs) (exC_ok p1 hz4 hd4), q6⟩
    | brk =>
      obtain ⟨σ6, H6, S6, q6⟩ := hsp
      exact gone_ok (S6.unsuite ok) hN hi hln fun s7 J7 => ⟨_, _, J7, q6⟩
    | cont =>
      obtain ⟨σ6, H6, S6, q6⟩ := hsp
      exact gone_ok (S6.unsuite ok) hN hi hln fun s7 J7 => ⟨_, _, J7, q6⟩
    | ret u =>
      obtain ⟨v6, σ6, H6, S6, r6, q6⟩ := hsp
      exact gone_ok (S6.unsuite ok) hN hi hln fun s7 J7 => ⟨_, _, _, J7, r6, q6⟩
  | false => exact hk pins a B sI t σ H cls d D r (hno rfl)
end
/-- what isinstance asks of an error's class -/
structure IsC (K : PySem.W.Frag) (C : Addr) : Prop where
  cl : (PySem.W.clsIn K C).isSome = true
  ga : PySem.W.findIn K (.ref C) "__getattribute__" = some (some (.builtin "BaseException.__getattribute__"))
  gg : PySem.W.findIn K (.ref C) "__getattr__" = some none
  exC : PySem.W.subIn K (.ref C) (.type "BaseException") = some true
  ha : PySem.W.findIn K (.ref C) "__class__" = some (some (.builtin "object.__class__"))
  hn : PySem.W.specialIn K (.builtin "object.__class__") "__get__" = some (some (.builtin "getset_descriptor.__get__"))
  htk : PySem.W.takesIn K (.builtin "object.__class__") = some true
  hm : PySem.W.mroIn K C (.type "object") = some true
/-- isinstance(x, c), x a caught error -/
def rIsExC (K : PySem.W.Frag) : List V → Hp → VK → Prop := fun xs H Q => ∃ (a C dx : Addr) (fs : List (Str × V)) (c : V) (u : Value) (b : Bool), xs = [.ref a, c] ∧ H a = some (ExC (.ref C) (some dx) a) ∧ H dx = some (.xd fs) ∧ IsC K C ∧ ClsV c u ∧ PySem.W.kitOne K (.ref C) u = some b ∧ Q (.bl b) H
theorem call_isExC {X : Cx} : CallR X (.builtin "isinstance") (rIsExC X.K) := by
  intro pins s σ H xs us Q I r h
  obtain ⟨a, C, dx, fs, c, u, b, rfl, ea, hd, T, k, e, q⟩ := h
  obtain ⟨u1, u2, rfl, r1, r2⟩ := vals2 r
  obtain rfl : u1 = Value.ref a := r1
  have e2 := k.eq r2
  subst e2
  obtain ⟨oe, vs, ho, hz, hdt⟩ := exC_at I.hok ea
  obtain ⟨mA, hns, _⟩ := (show ObjOk X.prog X.w H s.heap dx (.xd fs) from I.hok dx _ hd)
  obtain ⟨od, hod, _⟩ := lookIn_ns hns
  have J : PySem.W.InstAt s.heap a oe C (some od) := ⟨ho, hz.1, by unfold PySem.W.notCls; rw [hdt] <;> rfl, by rw [hz.2]; exact hod⟩
  exact PySem.W.kia_one (PySem.W.kitx_exc (od := some od) T.cl T.ga T.gg T.exC T.ha T.hn T.htk T.hm) I.kIn J e (fun z => nomatch z) fun tk => ⟨.bl b, H, I.tok tk, rfl, q⟩
end
/-- Contents made, or refused -/
theorem mk_cnE {K : PySem.W.Frag} {C BC x dx : Addr} {l : List Addr} {H1 : Hp} {va vl vo : V} {da dl do_ : PyData} {R : Hp → Prop} {E : XK} (al : Alive l H1) (nx : H1 x = none) (ndx : H1 dx = none)
    (ha : Dp K (mask l H1) va da) (hl : Dp K (mask l H1) vl dl) (ho : Dp K (mask l H1) vo do_) (za : sz 6 da) (zl : sz 6 dl) (zo : sz 6 do_)
    (q : okAns da = true → okLens dl = true → okLoads do_ = true → ∀ H', Same H1 H' → ContAt K l H' C x (mem da) (mem dl) ((mem do_).map tupOf) → R H')
    (q1 : okAns da = false → ∀ (dy : Addr) (H' : Hp), Same H1 H' → H' dy = some (.xd [("part", .str "answers")]) → E (.ref BC) (some dy) H')
    (q2 : okAns da = true → okLens dl = false → ∀ (dy : Addr) (H' : Hp), Same H1 H' → H' dy = some (.xd [("part", .str "lengths")]) → E (.ref BC) (some dy) H')
    (q3 : okAns da = true → okLens dl = true → okLoads do_ = false → ∀ (dy : Addr) (H' : Hp), Same H1 H' → H' dy = some (.xd [("part", .str "loads")]) → E (.ref BC) (some dy) H') : spCInit K C BC (.ref x :: ([va, vl, vo] ++ [])) (upd (upd H1 dx (.own x)) x (.ins C dx [])) (fun v H2 => v = .non ∧ R H2) E := by
  have s1 : Same H1 (upd (upd H1 dx (.own x)) x (.ins C dx [])) := fun b o e => by
    rw [upd_ne (ne_of_none e nx), upd_ne (ne_of_none e ndx)]; exact e
  have nxl := al.not nx
  have m : Same (mask l H1) (mask (x :: l) (upd (upd H1 dx (.own x)) x (.ins C dx []))) := (mask_new nx).trans (mask_same s1)
  exact ⟨l, x, dx, va, vl, vo, da, dl, do_, rfl, upd_same, al.same s1, nxl, dp_same m _ _ ha, dp_same m _ _ hl, dp_same m _ _ ho, za, zl, zo,
    fun e1 e2 e3 H' kp hc => ⟨rfl, q e1 e2 e3 H' (fun b o e => kp b o (ne_of_none e nx) (s1 b o e)) hc⟩, fun e dy H' s h => q1 e dy H' (s1.trans s) h, fun e e' dy H' s h => q2 e e' dy H' (s1.trans s) h, fun e e' e'' dy H' s h => q3 e e' e'' dy H' (s1.trans s) h⟩
/-- masks within -/
theorem mask_drop {K : PySem.W.Frag} {l : List Addr} {H : Hp} {x : Addr} {v : V} {d : PyData} (h : Dp K (mask (x :: l) H) v d) : Dp K (mask l H) v d := dp_same mask_less _ _ h
theorem cl_rest {X : Cx} {hds : List ExceptHandler} : Clauses X hds (fun _ _ _ _ _ => False) := fun _ _ _ _ _ _ _ _ _ _ _ w => w.elim
/-! ### C(e, ..) in a try -/
section
open PySem.Spec PyProof.Rows
def tMakeS (C : Addr) (sp : Sp) (E : L2.St → XK) (t : TA) : TE := fun σ H Q => tMake C sp [] (E σ) t σ H Q
theorem pe_makeS {X : Cx} {CX : CXT} {k : Nat} {C f : Addr} {fd : FuncData} {ps : List Str} {sp : Sp} {E : L2.St → XK} {x : Str} {e : Expr} {es : List Expr} {t : TA} {p pos : Pos} (M : Mk X.K C f) (F : FnOk X.prog X.w X.K X.mg X.base CX k f fd ps sp) (hr : Room (k + 1) X.A) (hg : Gl X x) (hm : X.mg x = some (.ref C))
    (hb : Binds X.K fd ps []) (hx : ∀ σ, PassesAt CX X σ (E σ)) (ha : PA X (e :: es) t) (hdb : (x == ("__debug__" : Str)) = false := by decide) (he : starEach (e :: es) X.env = (false, eval e X.env) :: starEach es X.env := by rfl) (hpl : (backTo pos (starEach es X.env)).any (·.1) = false := by rfl) : PE X (.Call (.Name x p) (e :: es) [] pos) (tMakeS C sp E t) := by
  refine ⟨fun pins s σ H Q I h => ?_⟩
  refine wpAny_Call_Name_kw (ld_glob I hg hm ?_ hdb)
  refine PySem.W.callWith_K (h₀ := X.base) I.ok.mod.kin M.kp (thn (ha.run pos pins s σ H _ I h) fun us s1 hh => ?_) he hpl
  obtain ⟨vs, H1, I1, r, q⟩ := hh
  refine ⟨I1.kIn, ?_⟩
  have hq := q (s1.heap.objs.size + 1) s1.heap.objs.size (I1.hok.fresh (Nat.le_succ _)) (I1.hok.fresh (Nat.le_refl _)) (Nat.ne_of_lt (Nat.lt_succ_self _))
  rw [List.append_nil] at hq
  have I2 := Inv.made (C := C) I1
  have r2 : Vals (V.ref (s1.heap.objs.size + 1) :: vs) (Value.ref (s1.heap.objs.size + 1) :: us) := .cons rfl r
  have hl : (Value.ref (s1.heap.objs.size + 1) :: us).length = ps.length := by
    rw [← r2.length]
    exact F.len _ _ _ _ hq
  have b := hb _ (Value.ref (s1.heap.objs.size + 1) :: us) I2.kIn (by rw [List.append_nil]; exact hl)
  rw [List.append_nil] at b
  have run := F.run _ X.stack _ _ ⟨Value.ref (s1.heap.objs.size + 1) :: us, []⟩ (Value.ref (s1.heap.objs.size + 1) :: us) _ _ (E σ) (hr.make C us []) (I2.env0.make C us []) b r2 hq
  refine wpAny_call (make_map (f := f) I1.kIn M.makes M.init (beq_iff_eq.mp M.fn) (codeAny_mono run fun w s' z => ?_))
  rcases w with er | fl
  · exact hx σ pins _ _ er s' I2 z
  · rcases fl with _ | _ | _ | u
    · exact z.elim
    · exact z.elim
    · exact z.elim
    · obtain ⟨v, H', I3, rv, ev, q3⟩ := I2.after z
      subst ev
      exact ⟨rv, ⟨V.ref (s1.heap.objs.size + 1), H', I3, rfl, q3⟩⟩
end
/-! ### rows tried -/
def spTried (K : PySem.W.Frag) (C : Addr) : Sp := fun vs H Q _ => ∃ (l : List Addr) (v : V) (da dl do_ : PyData), vs = [v] ∧ Alive l H ∧ Dp K (mask l H) v (.list [da, dl, do_]) ∧ sz 6 da ∧ sz 6 dl ∧ sz 6 do_ ∧
  (okAns da = true → okLens dl = true → okLoads do_ = true → ∀ x H', Same H H' → ContAt K l H' C x (mem da) (mem dl) ((mem do_).map tupOf) → Q (.ref x) H') ∧
  (okAns da = false → ∀ H', Same H H' → Q (.str "answers") H') ∧
  (okAns da = true → okLens dl = false → ∀ H', Same H H' → Q (.str "lengths") H') ∧
  (okAns da = true → okLens dl = true → okLoads do_ = false → ∀ H', Same H H' → Q (.str "loads") H')
section
variable {P : Program} {w : World} {K : PySem.W.Frag} {mg : Str → Option Value} {base : Heap}
theorem scTr : FnScope ["rows", "caught", "told", "e"] ["rows"] (defScope sTried) := ⟨rfl, rfl, rfl, by decide +kernel, rfl, by decide +kernel, by decide +kernel⟩
theorem ok_tried {f C BC QE BN fI fB cB : Addr} {fd fdI fdB : FuncData} (T : CnIn K mg C) (MK : Mk K C fI) (F : Fun K "_law_tried" "_law_tried" sTried f fd) (B : Bts mg) (R : RaisC P K mg "BadContents" "part" BC fB cB fdB) (xB : XfC K BC) (iB : IsC K BC)
    (GI : FnOk P w K mg base (L2.CX P w) 4 fI fdI ["self", "answers", "lengths", "loads"] (spCInit K C BC)) (bI : Binds K fdI ["self", "answers", "lengths", "loads"] [])
    (mQE : mg "QuietError" = some (.ref QE)) (mBN : mg "BadName" = some (.ref BN)) (kQE : PySem.W.kitOne K (.ref BC) (.ref QE) = some true) (kBN : PySem.W.kitOne K (.ref BC) (.ref BN) = some false) :
    FnOk P w K mg base CX0 6 f fd ["rows"] (spTried K C) := by
  refine F.ok scTr (fun vs H Q E h => ?_) (fun cdv A outer s H vs Q E hr h => ?_)
  · obtain ⟨l, v, da, dl, do_, rfl, _⟩ := h
    rfl
  · obtain ⟨l, v, da, dl, do_, rfl, al, hv, za, zl, zo, kk, k1, k2, k3⟩ := h
    have hrMK : Room 5 _ := hr
    refine ⟨_, pss_cons (ps_set (i := 1) scTr.nd rfl (.inl rfl) pe_non)
      (pss_cons (ps_try_cl rfl rfl
        (fun W pn xe tk po => pss_one (ps_set (i := 2) scTr.nd rfl (.inl rfl) (pe_makeS MK GI hrMK (by rfl) T.m bI (E := WE W) (passAt tk) (pa_cons (pe_ix (ixK (K := K) (r := rIxL) ix_list) (pv 0) pe_int (fun _ _ => rfl)) (pa_cons (pe_ix (ixK (K := K) (r := rIxL) ix_list) (pv 0) pe_int (fun _ _ => rfl)) (pa_cons (pe_ix (ixK (K := K) (r := rIxL) ix_list) (pv 0) pe_int (fun _ _ => rfl)) pa_nil))))))
        (cl_asT rfl rfl rfl scTr.nd (i := 3) rfl rfl (c := .ref BC) ⟨rfl, by decide, .inl R.T.gC⟩ (fun a oe cls dd pn hz hf => pss_cons (ps_set (i := 1) scTr.nd rfl (.inl rfl) (pv 3)) (pss_one (ps_set (i := 2) scTr.nd rfl (.inl rfl) (pe_xf xB R.T.noX hz hf (pv 3))))) cl_rest))
      (pss_cons (ps_if (pt_cmpR op_isN (pv 1) pe_non (nomark _))
        (pss_one (ps_ret (pe_ifExp (pt_val (pe_callB call_isi (by rfl) B.isinstance (by decide +kernel) (pa_cons (pv 2) (pa_cons (pe_glob (v := .ref C) rfl T.m rfl) pa_nil)))) (pv 2) pe_non)))
        pss_nil)
      (pss_one (ps_ret (pe_ifExp (PW.pt (pw_and (pt_val (pe_callB call_isExC (by rfl) B.isinstance (by decide +kernel) (pa_cons (pv 1) (pa_cons (pe_glob (v := .ref QE) rfl mQE rfl) pa_nil)))) (pw_and1 (pt_not (pt_val (pe_callB call_isExC (by rfl) B.isinstance (by decide +kernel) (pa_cons (pv 1) (pa_cons (pe_glob (v := .ref BN) rfl mBN rfl) pa_nil)))))))) (pv 2) pe_non))))), ?_⟩
    have kc : PySem.W.kitOne K (.ref C) (.ref C) = some true := by unfold PySem.W.kitOne; rw [if_pos (by simp)]
    have ex : PySem.W.exmOne K (.ref BC) (.ref BC) = some true := PySem.W.exm_ref R.T.o.exC xB.hdC R.T.o.tyC R.T.subC
    obtain ⟨r, xs, rfl, h1, h2⟩ := dp_lst hv
    obtain ⟨va, _, rfl, ha, h2⟩ := dpAll_cons h2
    obtain ⟨vl, _, rfl, hl, h2⟩ := dpAll_cons h2
    obtain ⟨vo, _, rfl, ho, h2⟩ := dpAll_cons h2
    cases dpAll_nil h2
    have h1 := (mask_sub l H).seq h1
    refine ⟨_, rfl, r, _, 0, _, rfl, rfl, h1, atI_nat (j := 0) rfl, _, rfl, r, _, 1, _, rfl, rfl, h1, atI_nat (j := 1) rfl, _, rfl, r, _, 2, _, rfl, rfl, h1, atI_nat (j := 2) rfl, fun x dx nx ndx _ => ?_⟩
    refine mk_cnE (R := ?RR) al nx ndx ha hl ho za zl zo (fun e1 e2 e3 H' s hC => ?_) (fun e dy H' s hx => ?_) (fun e e' dy H' s hx => ?_) (fun e e' e'' dy H' s hx => ?_)
    · obtain ⟨_, dx2, _, _, _, hx2, _⟩ := id hC
      refine ⟨_, rfl, rfl, _, rfl, ?_⟩
      rw [decide_eq_true rfl]
      exact iteT ⟨_, rfl, _, _, _, _, true, rfl, .own C, TyX.base (TyOf.ins hx2 T.cls T.ca T.cn T.ct T.cm), kc, _, rfl, iteT ⟨_, rfl, kk e1 e2 e3 x H' s hC⟩⟩
    · refine ⟨true, ex, fun _ a na => ?_, fun z => nomatch z⟩
      refine ⟨.ref a, rfl, .ref a, rfl, rfl, rfl, dy, _, .str "answers", rfl, hx, by simp [List.lookup], _, rfl, rfl, _, rfl, ?_⟩
      rw [decide_eq_false (by intro z; cases z)]
      have s2 := same_new (o := ExC (.ref BC) (some dy) a) na
      have hx2 := s2 _ _ hx
      have ea : (upd H' a (ExC (.ref BC) (some dy) a)) a = some (ExC (.ref BC) (some dy) a) := upd_same
      refine iteF ⟨_, rfl, a, BC, dy, _, .ref QE, .ref QE, true, rfl, ea, hx2, iB, .own QE, kQE, _, rfl, iteT ?_⟩
      exact ⟨_, rfl, a, BC, dy, _, .ref BN, .ref BN, false, rfl, ea, hx2, iB, .own BN, kBN, _, rfl, iteT ⟨_, rfl, k1 e _ (s.trans s2)⟩⟩
    · refine ⟨true, ex, fun _ a na => ?_, fun z => nomatch z⟩
      refine ⟨.ref a, rfl, .ref a, rfl, rfl, rfl, dy, _, .str "lengths", rfl, hx, by simp [List.lookup], _, rfl, rfl, _, rfl, ?_⟩
      rw [decide_eq_false (by intro z; cases z)]
      have s2 := same_new (o := ExC (.ref BC) (some dy) a) na
      have hx2 := s2 _ _ hx
      have ea : (upd H' a (ExC (.ref BC) (some dy) a)) a = some (ExC (.ref BC) (some dy) a) := upd_same
      refine iteF ⟨_, rfl, a, BC, dy, _, .ref QE, .ref QE, true, rfl, ea, hx2, iB, .own QE, kQE, _, rfl, iteT ?_⟩
      exact ⟨_, rfl, a, BC, dy, _, .ref BN, .ref BN, false, rfl, ea, hx2, iB, .own BN, kBN, _, rfl, iteT ⟨_, rfl, k2 e e' _ (s.trans s2)⟩⟩
    · refine ⟨true, ex, fun _ a na => ?_, fun z => nomatch z⟩
      refine ⟨.ref a, rfl, .ref a, rfl, rfl, rfl, dy, _, .str "loads", rfl, hx, by simp [List.lookup], _, rfl, rfl, _, rfl, ?_⟩
      rw [decide_eq_false (by intro z; cases z)]
      have s2 := same_new (o := ExC (.ref BC) (some dy) a) na
      have hx2 := s2 _ _ hx
      have ea : (upd H' a (ExC (.ref BC) (some dy) a)) a = some (ExC (.ref BC) (some dy) a) := upd_same
      refine iteF ⟨_, rfl, a, BC, dy, _, .ref QE, .ref QE, true, rfl, ea, hx2, iB, .own QE, kQE, _, rfl, iteT ?_⟩
      exact ⟨_, rfl, a, BC, dy, _, .ref BN, .ref BN, false, rfl, ea, hx2, iB, .own BN, kBN, _, rfl, iteT ⟨_, rfl, k3 e e' e'' _ (s.trans s2)⟩⟩
end
/-! ### more data in displays -/
section
open PySem.Spec PyProof.Rows
def srep (z : Str) (k : Int) : Str := ⟨(List.replicate k.toNat z.cps).foldl (· ++ ·) #[]⟩
def rRepS : R2 := fun x y H Q => ∃ z k, x = .str z ∧ y = .int k ∧ 2 ≤ k ∧ k ≤ 1000 ∧ z.length = 1 ∧ Q (.str (srep z k)) H
theorem srep_len (z : Str) (m : Nat) : ((List.replicate m z.cps).foldl (· ++ ·) #[]).size = z.length * m := by
  have go : ∀ (m : Nat) (acc : Array Nat), ((List.replicate m z.cps).foldl (· ++ ·) acc).size = acc.size + z.length * m := by
    intro m
    induction m with
    | zero => intro acc; simp
    | succ m ih =>
      intro acc
      rw [List.replicate_succ, List.foldl_cons, ih, Array.size_append, Nat.mul_succ]
      show acc.size + z.length + z.length * m = _
      omega
  rw [go]; simp
theorem op_repS {X : Cx} : OpR X (binaryOp .Mult) rRepS := by
  intro pins s σ H x y v u Q I rx ry h
  obtain ⟨z, k, rfl, rfl, h1, h2, h3, q⟩ := h
  obtain ⟨t, rfl⟩ := rx
  obtain ⟨t', rfl⟩ := ry
  have hk : (k == 1 || z.length == 0) = false := by
    rw [h3]
    simp only [Bool.or_eq_false_iff, beq_eq_false_iff_ne]
    omega
  have hm : z.length * k.toNat ≤ 1000 := by rw [h3]; omega
  refine P.mul_str ?_ ?_ ?_ ?_
  · rw [decide_eq_false (by omega), decide_eq_false (by omega)]; rfl
  · intro _ _ hh
    rw [h3] at hh
    have : (1 : Int) ≤ (2 ^ 63 - 1) / k := (Int.le_ediv_iff_mul_le (by omega)).mpr (by omega)
    simp only [Int.natCast_one] at hh
    omega
  · intro _ _
    show decide (z.length * k.toNat > sizeLine) = false
    exact decide_eq_false (by have : (1000 : Nat) ≤ sizeLine := by decide
                              omega)
  · rw [if_neg (by omega), hk]
    rw [if_neg (by simp)]
    refine ⟨?_, ⟨.str (srep z k), H, I.tok _, ⟨_, rfl⟩, q⟩⟩
    have e : (srep z k).length = z.length * k.toNat := srep_len z k.toNat
    have : (1000 : Nat) ≤ sizeLine := by decide
    show (srep z k).length ≤ sizeLine
    omega
end
section
variable {X : Cx} {pos p1 p2 : Pos}
theorem de_neg {i : Int} {j} : DE X (.UnaryOp .USub (.Constant (.int i) j p1) pos) (dIs (.int (-i))) :=
  de_of (pe_un un_neg pe_int) (fun _ H _ ⟨_, _, _, e, q⟩ => by cases e; exact ⟨_, rfl, q _ H (Same.refl H) (.int _)⟩) fun _ _ _ _ _ h => h
theorem de_pow {a b : Int} {j1 j2} (h : CPow a b) : DE X (.BinOp (.Constant (.int a) j1 p1) .Pow (.Constant (.int b) j2 p2) pos) (dIs (.int (a ^ b.toNat))) :=
  de_of (pe_op op_pow pe_int pe_int) (fun _ H _ ⟨_, _, _, e, q⟩ => by cases e; exact ⟨_, _, rfl, rfl, h, q _ H (Same.refl H) (.int _)⟩) fun _ _ _ _ _ h => h
theorem de_srep {a : Str} {b : Int} {j1 j2} (h : 2 ≤ b ∧ b ≤ 1000 ∧ a.length = 1) : DE X (.BinOp (.Constant (.str a) j1 p1) .Mult (.Constant (.int b) j2 p2) pos) (dIs (.str (srep a b))) :=
  de_of (pe_op op_repS pe_str pe_int) (fun _ H _ ⟨_, _, _, e, q⟩ => by cases e; exact ⟨_, _, rfl, rfl, h.1, h.2.1, h.2.2, q _ H (Same.refl H) (.str _)⟩) fun _ _ _ _ _ h => h
end
/-- data that is small, by looking -/
def szB : Nat → PyData → Bool
  | 0, _ => false
  | _ + 1, .str z => decide (z.length ≤ 100000)
  | m + 1, .list xs => decide (xs.length ≤ 1000000) && xs.all (szB m)
  | m + 1, .tuple xs => decide (xs.length ≤ 1000000) && xs.all (szB m)
  | _ + 1, _ => true
theorem sz_of : ∀ {m : Nat} {d : PyData}, szB m d = true → sz m d
  | 0, _, h => by simp [szB] at h
  | m + 1, .str z, h => by simp only [szB, decide_eq_true_eq] at h; simpa only [sz] using h
  | m + 1, .list xs, h => by
    simp only [szB, Bool.and_eq_true, decide_eq_true_eq, List.all_eq_true] at h
    simp only [sz]
    exact ⟨h.1, fun x hx => sz_of (h.2 x hx)⟩
  | m + 1, .tuple xs, h => by
    simp only [szB, Bool.and_eq_true, decide_eq_true_eq, List.all_eq_true] at h
    simp only [sz]
    exact ⟨h.1, fun x hx => sz_of (h.2 x hx)⟩
  | m + 1, .none, _ => by simp only [sz]
  | m + 1, .bool _, _ => by simp only [sz]
  | m + 1, .int _, _ => by simp only [sz]
  | m + 1, .dict _, _ => by simp only [sz]
/-- one of a list of data, by a number that is drawn -/
theorem pick_at {K : PySem.W.Frag} {H : Hp} {v : V} {ds : List PyData} (h : Dp K H v (.list ds)) {i : Int} (h0 : 0 ≤ i) (h1 : i < ds.length) : ∃ (r : Addr) (xs : List V) (x : V) (d : PyData), v = .ref r ∧ SqL K H r xs ∧ atI xs i = some x ∧ d ∈ ds ∧ ds[i.toNat]? = some d ∧ Dp K H x d := by
  obtain ⟨r, xs, rfl, hr, ha⟩ := dp_lst h
  have hl := dpAll_len ha
  have hi : i.toNat < xs.length := by omega
  obtain ⟨d, hd, hx⟩ := dpAll_at ha (List.getElem?_eq_getElem hi)
  refine ⟨r, xs, xs[i.toNat], d, rfl, hr, ?_, List.mem_of_getElem? hd, hd, hx⟩
  have := atI_nat (xs := xs) (j := i.toNat) (List.getElem?_eq_getElem hi)
  rw [show ((i.toNat : Nat) : Int) = i by omega] at this
  exact this
/-! ### odd things, wrong members, spoilt rows -/
def oddL : List PyData := [.bool true, .bool false, .int 0, .int 1, .int (-1), .int (10 ^ (39 : Int).toNat), .none, .str "", .str "A", .str "ab1", .str "abcdefghi", .str " a", .str "a\n", .str "a b", .list [], .tuple [], .list [.str "a"], .tuple [.str "a"], .list [.list [.str "a"], .tuple [.str "b"]], .str (srep "a" 400), .str "-", .str "a,"]
def wr0L : List PyData := [.int 0, .int 1, .none, .str "yes", .str "", .tuple [], .list [.bool true], .int 2]
def sp0L : List PyData := [.none, .int 0, .bool true, .str "", .str "ab", .int (10 ^ (30 : Int).toNat)]
def rp3L : List PyData := [.list [.bool true], .list [.int 5], .list [.tuple [.str "a"]]]
def tl1L : List PyData := [.bool true, .bool false, .none, .str "3", .tuple [], .list [.int 3], .int (10 ^ (39 : Int).toNat)]
/-- what a member of a part must be -/
def pfD (part : Nat) : PyData → Bool := if part = 0 then tyB else if part = 1 then okLenD else okLoad
def okP (part : Nat) : PyData → Bool := okL 1000 (pfD part)
theorem okL_not {most : Nat} {p : PyData → Bool} {d : PyData} (h : isLT d = false) : okL most p d = false := by
  unfold okL; rw [h, Bool.false_and]
theorem okL_bad {most : Nat} {p : PyData → Bool} {d x : PyData} (h : x ∈ mem d) (hx : p x = false) : okL most p d = false := by
  unfold okL
  have : (mem d).all p = false := by
    rw [Bool.eq_false_iff]
    intro e
    have := List.all_eq_true.mp e x h
    rw [hx] at this; cases this
  rw [this, Bool.and_false, Bool.and_false]
theorem okL_longer {most : Nat} {p : PyData → Bool} {d : PyData} (h : ¬ (mem d).length ≤ most) : okL most p d = false := by
  unfold okL
  rw [decide_eq_false h, Bool.false_and, Bool.and_false]
theorem odd_all : oddL.all (fun d => !nmD d && szB 3 d) = true := by decide +kernel
theorem wr0_all : wr0L.all (fun d => !tyB d && szB 3 d) = true := by decide +kernel
theorem sp0_all : sp0L.all (fun d => !isLT d && szB 3 d) = true := by decide +kernel
theorem tl1_all : tl1L.all (fun d => !okLenD d && szB 3 d) = true := by decide +kernel
theorem all2 {l : List PyData} {p : PyData → Bool} (h : l.all (fun d => !p d && szB 3 d) = true) {d : PyData} (m : d ∈ l) : p d = false ∧ sz 3 d := by
  have := List.all_eq_true.mp h d m
  obtain ⟨h1, h2⟩ := Bool.and_eq_true_iff.mp this
  exact ⟨by simpa using h1, sz_of h2⟩
theorem sz_up : ∀ {m : Nat} {d : PyData}, sz m d → sz (m + 1) d
  | 0, _, h => h.elim
  | m + 1, .str z, h => by simp only [sz] at h ⊢; exact h
  | m + 1, .list xs, h => by simp only [sz] at h ⊢; exact ⟨h.1, fun x hx => sz_up (h.2 x hx)⟩
  | m + 1, .tuple xs, h => by simp only [sz] at h ⊢; exact ⟨h.1, fun x hx => sz_up (h.2 x hx)⟩
  | m + 1, .none, _ => by simp only [sz]
  | m + 1, .bool _, _ => by simp only [sz]
  | m + 1, .int _, _ => by simp only [sz]
  | m + 1, .dict _, _ => by simp only [sz]
def spOdd (K : PySem.W.Frag) : Sp := fun vs H Q _ => ∃ (p q : Addr) (n : Nat) (l : List Addr), vs = [.ref p] ∧ PoolAt H p q n ∧ n < 900000 ∧ p ∈ l ∧ q ∈ l ∧ Alive l H ∧
  ∀ (v : V) (d : PyData) (H' : Hp), Dp K (mask l H') v d → nmD d = false → sz 3 d → PoolAt H' p q (n + 1) → Keeps p q H H' → Q v H'
def spWrong (K : PySem.W.Frag) : Sp := fun vs H Q _ => ∃ (p q : Addr) (n part : Nat) (l : List Addr), vs = [.ref p, .int (part : Int)] ∧ PoolAt H p q n ∧ part < 3 ∧ n < 800000 ∧ p ∈ l ∧ q ∈ l ∧ Alive l H ∧
  ∀ (v : V) (d : PyData) (n' : Nat) (H' : Hp), Dp K (mask l H') v d → pfD part d = false → sz 5 d → n ≤ n' → n' ≤ n + 50 → PoolAt H' p q n' → Keeps p q H H' → Q v H'
def spSpoilt (K : PySem.W.Frag) : Sp := fun vs H Q _ => ∃ (p q : Addr) (n part : Nat) (l : List Addr) (v : V) (ds : List PyData), vs = [.ref p, .int (part : Int), v] ∧ PoolAt H p q n ∧ part < 3 ∧ n < 700000 ∧ p ∈ l ∧ q ∈ l ∧ Alive l H ∧
  Dp K (mask l H) v (.list ds) ∧ ds.length ≤ 100 ∧ (∀ d ∈ ds, sz 5 d) ∧
  ∀ (v : V) (d : PyData) (n' : Nat) (H' : Hp), Dp K (mask l H') v d → okP part d = false → sz 6 d → n ≤ n' → n' ≤ n + 60 → PoolAt H' p q n' → Keeps p q H H' → Q v H'
section
variable {P : Program} {w : World} {K : PySem.W.Frag} {mg : Str → Option Value} {base : Heap}
theorem scOd : FnScope ["pool", "odd"] ["pool"] (defScope sOdd) := ⟨rfl, rfl, rfl, by decide +kernel, rfl, by decide +kernel, by decide +kernel⟩
theorem ok_odd {f fD : Addr} {fd fdD : FuncData} (F : Fun K "_law_odd" "_law_odd" sOdd f fd) (GD : FnOk P w K mg base CX0 1 fD fdD ["pool", "many"] spDraw) (mD : mg "_law_draw" = some (.ref fD)) (kD : PySem.W.keepIn K (.ref fD) = true) (bD : Binds K fdD ["pool", "many"] []) : FnOk P w K mg base CX0 2 f fd ["pool"] (spOdd K) := by
  refine F.ok scOd (fun vs H Q E h => ?_) (fun cdv A outer s H vs Q E hr h => ?_)
  · obtain ⟨p, q, n, l, rfl, _⟩ := h
    rfl
  · obtain ⟨p, q, n, l, rfl, hP, hn, lp, lq, al, kk⟩ := h
    have hrD : Room 1 _ := hr
    refine ⟨_, pss_cons (ps_set (i := 1) scOd.nd rfl (.inl rfl) (de_lst (da_cons de_bl (da_cons de_bl (da_cons de_int (da_cons de_int (da_cons de_neg (da_cons (de_pow ⟨by decide, by decide, by decide⟩) (da_cons de_non (da_cons de_str (da_cons de_str (da_cons de_str (da_cons de_str (da_cons de_str (da_cons de_str (da_cons de_str (da_cons (de_lst da_nil) (da_cons (de_tup da_nil) (da_cons (de_lst (da_cons de_str da_nil)) (da_cons (de_tup (da_cons de_str da_nil)) (da_cons (de_lst (da_cons (de_lst (da_cons de_str da_nil)) (da_cons (de_tup (da_cons de_str da_nil)) da_nil))) (da_cons (de_srep ⟨by decide, by decide, rfl⟩) (da_cons de_str (da_cons de_str da_nil))))))))))))))))))))))).pe)
      (pss_one (ps_ret (pe_ix ix_list (pv 1) (pe_call GD hrD (by rfl) mD kD bD .nil pass0 (pa_cons (pv 0) (pa_cons pe_int pa_nil))) (fun _ _ => rfl)))), ?_⟩
    refine ⟨l, .list oddL, al, ⟨_, rfl, Nat.le_of_ble_eq_true rfl, ⟨_, _, rfl, rfl, ⟨_, _, rfl, rfl, ⟨_, _, rfl, rfl, ⟨_, _, rfl, rfl, ⟨_, _, rfl, rfl, ⟨_, _, rfl, rfl, ⟨_, _, rfl, rfl, ⟨_, _, rfl, rfl, ⟨_, _, rfl, rfl, ⟨_, _, rfl, rfl, ⟨_, _, rfl, rfl, ⟨_, _, rfl, rfl, ⟨_, _, rfl, rfl, ⟨_, _, rfl, rfl, ⟨_, _, rfl, ⟨_, rfl, Nat.le_of_ble_eq_true rfl, rfl⟩, ⟨_, _, rfl, ⟨_, rfl, Nat.le_of_ble_eq_true rfl, rfl⟩, ⟨_, _, rfl, ⟨_, rfl, Nat.le_of_ble_eq_true rfl, ⟨_, _, rfl, rfl, rfl⟩⟩, ⟨_, _, rfl, ⟨_, rfl, Nat.le_of_ble_eq_true rfl, ⟨_, _, rfl, rfl, rfl⟩⟩, ⟨_, _, rfl, ⟨_, rfl, Nat.le_of_ble_eq_true rfl, ⟨_, _, rfl, ⟨_, rfl, Nat.le_of_ble_eq_true rfl, ⟨_, _, rfl, rfl, rfl⟩⟩, ⟨_, _, rfl, ⟨_, rfl, Nat.le_of_ble_eq_true rfl, ⟨_, _, rfl, rfl, rfl⟩⟩, rfl⟩⟩⟩, ⟨_, _, rfl, rfl, ⟨_, _, rfl, rfl, ⟨_, _, rfl, rfl, rfl⟩⟩⟩⟩⟩⟩⟩⟩⟩⟩⟩⟩⟩⟩⟩⟩⟩⟩⟩⟩⟩⟩⟩, fun v H1 s1 hv => ?_⟩
    refine ⟨_, rfl, _, rfl, p, q, n, 22, rfl, hP.same s1, by omega, by decide, by decide, fun d H2 d0 d1 P2 K2 => ?_⟩
    have hv := dp_same (K2.maskL lp lq) _ _ hv
    obtain ⟨r, xs, x, e, rfl, hx, ha, hm, _, he⟩ := pick_at hv d0 (Int.lt_of_lt_of_le d1 (by decide))
    obtain ⟨b1, b2⟩ := all2 odd_all hm
    exact ⟨r, xs, _, x, rfl, rfl, (mask_sub l H2).seq hx, ha, kk x e H2 he b1 b2 P2 ((Keeps.of_same s1).trans K2)⟩
end
/-- t + u of data tuples -/
theorem cat_dp {K : PySem.W.Frag} {l : List Addr} {H : Hp} {a b : Addr} {ds es : List PyData} {Q : VK} (al : Alive l H) (ha : Dp K (mask l H) (.ref a) (.tuple ds)) (hb : Dp K (mask l H) (.ref b) (.tuple es)) (hl : ds.length + es.length ≤ sizeLine)
    (q : ∀ t H', Same H H' → Dp K (mask l H') (.ref t) (.tuple (ds ++ es)) → Q (.ref t) H') : rCatA K (.ref a) (.ref b) H Q := by
  obtain ⟨_, xs, e1, h1, h2⟩ := dp_tup ha
  obtain ⟨_, ys, e2, h3, h4⟩ := dp_tup hb
  cases e1; cases e2
  have l1 := dpAll_len h2
  have l2 := dpAll_len h4
  refine ⟨a, b, xs, ys, rfl, rfl, Same.seqT (mask_sub l H) h1, Same.seqT (mask_sub l H) h3, by omega, fun e => ?_, fun _ e => ?_, fun _ _ p np => ?_⟩
  · subst e
    have : ds = [] := List.length_eq_zero_iff.mp l1.symm
    subst this
    exact q b H (Same.refl H) hb
  · subst e
    have : es = [] := List.length_eq_zero_iff.mp l2.symm
    subst this
    exact q a H (Same.refl H) (by rw [List.append_nil]; exact ha)
  · have s := same_new (o := .tup (xs ++ ys)) np
    exact q p _ s (.tup (SqT.of (mask_upd (al.not np))) (dpAll_app (dpAll_same (mask_same s) _ _ h2) (dpAll_same (mask_same s) _ _ h4)))
section
variable {P : Program} {w : World} {K : PySem.W.Frag} {mg : Str → Option Value} {base : Heap}
theorem scWm : FnScope ["pool", "part", "far", "names", "pick"] ["pool", "part"] (defScope sWrongM) := ⟨rfl, rfl, rfl, by decide +kernel, rfl, by decide +kernel, by decide +kernel⟩
theorem ok_wrong {f fD fL fO : Addr} {fd fdD fdL fdO : FuncData} (F : Fun K "_law_wrong_member" "_law_wrong_member" sWrongM f fd) (B : Bts mg) (GD : FnOk P w K mg base CX0 1 fD fdD ["pool", "many"] spDraw) (mD : mg "_law_draw" = some (.ref fD)) (kD : PySem.W.keepIn K (.ref fD) = true) (bD : Binds K fdD ["pool", "many"] [])
    (GL : FnOk P w K mg base CX0 2 fL fdL ["pool", "many"] spLNames) (mL : mg "_law_names" = some (.ref fL)) (kL : PySem.W.keepIn K (.ref fL) = true) (bL : Binds K fdL ["pool", "many"] [])
    (GO : FnOk P w K mg base CX0 2 fO fdO ["pool"] (spOdd K)) (mO : mg "_law_odd" = some (.ref fO)) (kO : PySem.W.keepIn K (.ref fO) = true) (bO : Binds K fdO ["pool"] []) : FnOk P w K mg base CX0 3 f fd ["pool", "part"] (spWrong K) := by
  refine F.ok scWm (fun vs H Q E h => ?_) (fun cdv A outer s H vs Q E hr h => ?_)
  · obtain ⟨p, q, n, part, l, rfl, _⟩ := h
    rfl
  · obtain ⟨p, q, n, part, l, rfl, hP, hpart, hn, lp, lq, al, kk⟩ := h
    have hrD : Room 1 _ := hr.mono (by decide)
    have hrL : Room 2 _ := hr
    have hrO : Room 2 _ := hr
    refine ⟨_, pss_cons (ps_if (pt_cmpR op_eq (pv 1) pe_int (nomark _))
        (pss_one (ps_ret (pe_ix ix_list (de_lst (da_cons de_int (da_cons de_int (da_cons de_non (da_cons de_str (da_cons de_str (da_cons (de_tup da_nil) (da_cons (de_lst (da_cons de_bl da_nil)) (da_cons de_int da_nil))))))))).pe (pe_call GD hrD (by rfl) mD kD bD .nil pass0 (pa_cons (pv 0) (pa_cons pe_int pa_nil))) (fun _ _ => rfl))))
        pss_nil)
      (pss_cons (ps_if (pt_cmpR op_eq (pv 1) pe_int (nomark _))
        (pss_cons (ps_set (i := 2) scWm.nd rfl (.inl rfl) (pe_op op_add (pe_op op_add (pe_op op_pow pe_int pe_int) pe_int) (pe_call GD hrD (by rfl) mD kD bD .nil pass0 (pa_cons (pv 0) (pa_cons (pe_op op_pow pe_int pe_int) pa_nil)))))
          (pss_one (ps_ret (pe_ix ix_list (pe_lst (pa_cons (pe_op op_sub (pe_un un_neg pe_int) (pe_call GD hrD (by rfl) mD kD bD .nil pass0 (pa_cons (pv 0) (pa_cons pe_int pa_nil)))) (da_cons (dv 2 (pv 2)) (da_cons de_bl (da_cons de_bl (da_cons de_non (da_cons de_str (da_cons (de_tup da_nil) (da_cons (de_lst (da_cons de_int da_nil)) (da_cons (de_pow ⟨by decide, by decide, by decide⟩) da_nil)))))))).pa)) (pe_call GD hrD (by rfl) mD kD bD .nil pass0 (pa_cons (pv 0) (pa_cons pe_int pa_nil))) (fun _ _ => rfl)))))
        pss_nil)
      (pss_cons (ps_set (i := 3) scWm.nd rfl (.inl rfl) (pe_call GL hrL (by rfl) mL kL bL .nil pass0 (pa_cons (pv 0) (pa_cons pe_int pa_nil))))
      (pss_cons (ps_set (i := 4) scWm.nd rfl (.inl rfl) (pe_call GD hrD (by rfl) mD kD bD .nil pass0 (pa_cons (pv 0) (pa_cons pe_int pa_nil))))
      (pss_cons (ps_if (pt_cmpR op_eq (pv 4) pe_int (nomark _))
        (pss_one (ps_ret (pe_ix ix_list (pv 3) pe_int (fun _ _ => rfl))))
        pss_nil)
      (pss_cons (ps_if (pt_cmpR op_eq (pv 4) pe_int (nomark _))
        (pss_one (ps_ret (pe_op op_catA (pe_op op_catA (pe_callTy call_tupS (by rfl) B.tuple (by decide +kernel) (pa_cons (pv 3) pa_nil)) (pe_tup (pa_cons (pe_call GO hrO (by rfl) mO kO bO .nil pass0 (pa_cons (pv 0) pa_nil)) pa_nil))) (pe_callTy call_tupS (by rfl) B.tuple (by decide +kernel) (pa_cons (pv 3) pa_nil)))))
        pss_nil)
      (pss_cons (ps_if (pt_cmpR op_eq (pv 4) pe_int (nomark _))
        (pss_one (ps_ret (pe_op op_rep (pe_lst (pa_cons (pe_ix ix_list (pv 3) pe_int (fun _ _ => rfl)) pa_nil)) pe_int)))
        pss_nil)
      (pss_one (ps_ret (pe_ix ix_list (pe_lst (pa_cons pe_non (pa_cons pe_int (pa_cons pe_bl (pa_cons (pe_lst (pa_cons (pe_ix ix_list (pv 3) pe_int (fun _ _ => rfl)) (pa_cons (pe_lst (pa_cons pe_str pa_nil)) pa_nil))) pa_nil))))) (pe_op op_sub (pv 4) pe_int) (fun _ _ => rfl)))))))))), ?_⟩
    refine ⟨_, rfl, rfl, _, rfl, ite2 (fun hz => ?_) (fun hz => ?_)⟩
    · have p0 : part = 0 := by have := of_decide_eq_true hz; injection this with e; omega
      subst p0
      refine ⟨l, .list wr0L, al, ⟨_, rfl, Nat.le_of_ble_eq_true rfl, ⟨_, _, rfl, rfl, ⟨_, _, rfl, rfl, ⟨_, _, rfl, rfl, ⟨_, _, rfl, rfl, ⟨_, _, rfl, rfl, ⟨_, _, rfl, ⟨_, rfl, Nat.le_of_ble_eq_true rfl, rfl⟩, ⟨_, _, rfl, ⟨_, rfl, Nat.le_of_ble_eq_true rfl, ⟨_, _, rfl, rfl, rfl⟩⟩, ⟨_, _, rfl, rfl, rfl⟩⟩⟩⟩⟩⟩⟩⟩⟩, fun v H1 s1 hv => ?_⟩
      refine ⟨_, rfl, p, q, n, 8, rfl, hP.same s1, by omega, by decide, by decide, fun d H2 d0 d1 P2 K2 => ?_⟩
      have hv := dp_same (K2.maskL lp lq) _ _ hv
      obtain ⟨r, xs, x, e, rfl, hx, ha, hm, _, he⟩ := pick_at hv d0 (Int.lt_of_lt_of_le d1 (by decide))
      obtain ⟨b1, b2⟩ := all2 wr0_all hm
      exact ⟨r, xs, _, x, rfl, rfl, (mask_sub l H2).seq hx, ha, kk x e (n + 1) H2 he b1 (sz_up (sz_up b2)) (by omega) (by omega) P2 ((Keeps.of_same s1).trans K2)⟩
    have p0 : part ≠ 0 := fun e => hz (decide_eq_true (by rw [e]; rfl))
    clear hz
    refine ⟨_, rfl, rfl, _, rfl, ite2 (fun hz => ?_) (fun hz => ?_)⟩
    · have p1 : part = 1 := by have := of_decide_eq_true hz; injection this with e; omega
      subst p1
      refine ⟨_, _, rfl, rfl, ⟨by decide, by decide, by decide⟩, _, _, rfl, rfl, _, rfl, _, _, rfl, rfl, ⟨by decide, by decide, by decide⟩, p, q, n, _, rfl, hP, by omega, by decide, by decide, fun f H1 f0 f1 P1 K1 => ?_⟩
      refine ⟨_, _, rfl, rfl, ?_⟩
      refine ⟨_, rfl, _, rfl, p, q, n + 1, 99, rfl, P1, by omega, by decide, by decide, fun a H2 a0 a1 P2 K2 => ?_⟩
      have al2 := Keeps.alive al (K1.trans K2) P2
      refine ⟨_, _, rfl, rfl, l, .int (10 ^ (30 : Int).toNat + 1 + f) :: tl1L, al2, ⟨_, _, rfl, ⟨_, rfl, .int _⟩, ⟨_, _, rfl, rfl, ⟨_, _, rfl, rfl, ⟨_, _, rfl, rfl, ⟨_, _, rfl, rfl, ⟨_, _, rfl, ⟨_, rfl, Nat.le_of_ble_eq_true rfl, rfl⟩, ⟨_, _, rfl, ⟨_, rfl, Nat.le_of_ble_eq_true rfl, ⟨_, _, rfl, rfl, rfl⟩⟩, ⟨_, _, rfl, rfl, rfl⟩⟩⟩⟩⟩⟩⟩⟩, fun vs H3 s3 hvs => ?_⟩
      have lvs := dpAll_len hvs
      refine ⟨by show vs.length + 1 ≤ sizeLine; rw [lvs]; show 9 ≤ sizeLine; decide, fun r nr => ?_⟩
      have s4 := same_new (o := .lst (V.int (-1 - a) :: vs)) nr
      have hv : Dp K (mask l (upd H3 r (.lst (V.int (-1 - a) :: vs)))) (.ref r) (.list (.int (-1 - a) :: .int (10 ^ (30 : Int).toNat + 1 + f) :: tl1L)) := .lst (SqL.of (mask_upd ((al2.same s3).not nr))) (.cons (.int _) (dpAll_same (mask_same s4) _ _ hvs))
      have P4 := (P2.same s3).same s4
      have K4 := (K1.trans K2).trans ((Keeps.of_same s3).trans (.of_same s4))
      generalize upd H3 r (.lst (V.int (-1 - a) :: vs)) = H4 at *
      refine ⟨_, rfl, p, q, n + 1 + 1, 9, rfl, P4, by omega, by decide, by decide, fun d H5 d0 d1 P5 K5 => ?_⟩
      have hv := dp_same (K5.maskL lp lq) _ _ hv
      obtain ⟨r, xs, x, e, er, hx, ha, hm, _, he⟩ := pick_at hv d0 (Int.lt_of_lt_of_le d1 (by show (9 : Int) ≤ ((9 : Nat) : Int); decide))
      cases er
      have bad : okLenD e = false ∧ sz 3 e := by
        rcases List.mem_cons.mp hm with rfl | hm
        · refine ⟨?_, by simp only [sz]⟩
          show (decide (0 ≤ -1 - a) && decide (-1 - a ≤ longest)) = false
          rw [decide_eq_false (by omega), Bool.false_and]
        · rcases List.mem_cons.mp hm with rfl | hm
          · refine ⟨?_, by simp only [sz]⟩
            have e30 : (10 ^ (30 : Int).toNat : Int) = longest := by decide
            rw [e30]
            show (decide (0 ≤ longest + 1 + f) && decide (longest + 1 + f ≤ longest)) = false
            rw [decide_eq_false (p := longest + 1 + f ≤ longest) (by omega), Bool.and_false]
          · exact all2 tl1_all hm
      exact ⟨_, xs, _, x, rfl, rfl, (mask_sub l H5).seq hx, ha, kk x e (n + 3) H5 he bad.1 (sz_up (sz_up bad.2)) (by omega) (by omega) P5 (K4.trans K5)⟩
    have p2 : part = 2 := by
      have : part ≠ 1 := fun e => hz (decide_eq_true (by rw [e]; rfl))
      omega
    subst p2
    clear hz p0
    have kk : ∀ (v : V) (d : PyData) (n' : Nat) (H' : Hp), Dp K (mask l H') v d → okL 100 nmD d = false → sz 5 d → n ≤ n' → n' ≤ n + 50 → PoolAt H' p q n' → Keeps p q H H' → Q v H' := kk
    refine ⟨_, rfl, p, q, n, 2, rfl, hP, by omega, by decide, fun r ns n1 H1 nr hlen hw _ hn1 hn2 P1 K1 er => ?_⟩
    obtain ⟨a, b, rfl⟩ : ∃ a b, ns = [a, b] := by
      match ns, hlen with
      | [a, b], _ => exact ⟨a, b, rfl⟩
    have hwa := hw a (by simp)
    have hwb := hw b (by simp)
    refine ⟨_, rfl, p, q, n1, 7, rfl, P1, by omega, by decide, by decide, fun d H2 d0 d1 P2 K2 => ?_⟩
    have nrl := al.not nr
    have nrp : r ≠ p := fun e => nrl (by rw [e]; exact lp)
    have nrq : r ≠ q := fun e => nrl (by rw [e]; exact lq)
    have er := K2 r _ nrp nrq er
    have K2 := K1.trans K2
    have al2 := Keeps.alive al K2 P2
    have dN : Dp K (mask l H2) (.ref r) (.list [.str a, .str b]) := .lst (SqL.of (by rw [mask_out nrl]; exact er)) (.cons (.str a) (.cons (.str b) .nil))
    have za : ∀ m, sz (m + 1) (.str a) := fun m => by simp only [sz]; have := hwa.2.1; omega
    have zb : ∀ m, sz (m + 1) (.str b) := fun m => by simp only [sz]; have := hwb.2.1; omega
    clear K1 P1 nr
    refine ⟨_, rfl, rfl, _, rfl, ite2 (fun hz => ?_) (fun hz => ?_)⟩
    · exact ⟨_, rfl, r, _, 0, _, rfl, rfl, SqL.of er, atI_nat (j := 0) rfl, kk (.str a) (.str a) (n1 + 1) H2 (.str a) (okL_not rfl) (za 4) (by omega) (by omega) P2 K2⟩
    have z0 : d ≠ 0 := fun e => hz (decide_eq_true (by rw [e]))
    clear hz
    refine ⟨_, rfl, rfl, _, rfl, ite2 (fun hz => ?_) (fun hz => ?_)⟩
    · refine ⟨_, rfl, ?_⟩
      refine rd_tup al2 dN rfl fun t1 H3 s3 dt => ?_
      have P3 := P2.same s3
      have al3 := al2.same s3
      refine ⟨_, rfl, p, q, n1 + 1, l, rfl, P3, by omega, lp, lq, al3, fun vo do_ H4 dO bO zO P4 K4 => ?_⟩
      have m4 := K4.maskL lp lq
      have dt := dp_same m4 _ _ dt
      have dN := dp_same ((mask_same s3).trans m4) _ _ dN
      have al4 := Keeps.alive al3 K4 P4
      refine ⟨by show 1 ≤ sizeLine; decide, fun t2 nt2 => ?_⟩
      have s5 := same_new (o := .tup [vo]) nt2
      have d2 : Dp K (mask l (upd H4 t2 (.tup [vo]))) (.ref t2) (.tuple [do_]) := .tup (SqT.of (mask_upd (al4.not nt2))) (.cons (dp_same (mask_same s5) _ _ dO) .nil)
      have dt := dp_same (mask_same s5) _ _ dt
      have dN := dp_same (mask_same s5) _ _ dN
      have al5 := al4.same s5
      have P5 := P4.same s5
      generalize upd H4 t2 (.tup [vo]) = H5 at *
      refine cat_dp al5 dt d2 (by show 2 + 1 ≤ sizeLine; decide) fun t3 H6 s6 d6 => ?_
      refine ⟨_, rfl, ?_⟩
      have al6 := al5.same s6
      refine rd_tup al6 (dp_same (mask_same s6) _ _ dN) rfl fun t4 H7 s7 d7 => ?_
      refine cat_dp (al6.same s7) (dp_same (mask_same s7) _ _ d6) d7 (by show 3 + 2 ≤ sizeLine; decide) fun t5 H8 s8 d8 => ?_
      have K8 : Keeps p q H H8 := ((K2.trans (.of_same s3)).trans K4).trans (.of_same (((s5.trans s6).trans s7).trans s8))
      refine kk _ _ (n1 + 1 + 1) H8 d8 (okL_bad (x := do_) ?_ bO) ?_ (by omega) (by omega) (P5.same ((s6.trans s7).trans s8)) K8
      · show do_ ∈ ([PyData.str a, .str b] ++ [do_]) ++ [.str a, .str b]
        simp
      · show sz 5 (.tuple (([PyData.str a, .str b] ++ [do_]) ++ [.str a, .str b]))
        simp only [sz]
        refine ⟨by show 5 ≤ 1000000; decide, fun x hx => ?_⟩
        simp only [List.cons_append, List.nil_append, List.mem_cons, List.not_mem_nil, or_false] at hx
        rcases hx with rfl | rfl | rfl | rfl | rfl
        · exact za 3
        · exact zb 3
        · exact sz_up zO
        · exact za 3
        · exact zb 3
    have z1 : d ≠ 1 := fun e => hz (decide_eq_true (by rw [e]))
    clear hz
    refine ⟨_, rfl, rfl, _, rfl, ite2 (fun hz => ?_) (fun hz => ?_)⟩
    · refine ⟨_, rfl, r, _, 0, _, rfl, rfl, SqL.of er, atI_nat (j := 0) rfl, by show 1 ≤ sizeLine; decide, fun c nc => ?_⟩
      have s3 := same_new (o := .lst [.str a]) nc
      refine ⟨c, 101, [.str a], rfl, rfl, upd_same, by decide, by decide, by show 1 * 101 ≤ sizeLine; decide, fun c2 nc2 => ?_⟩
      have s4 := same_new (o := .lst (List.replicate (101 : Int).toNat [V.str a]).flatten) nc2
      have rep : ∀ m, DpAll K (mask l (upd (upd H2 c (.lst [.str a])) c2 (.lst (List.replicate (101 : Int).toNat [V.str a]).flatten))) (List.replicate m [V.str a]).flatten (List.replicate m [PyData.str a]).flatten := fun m => by
        induction m with
        | zero => exact .nil
        | succ m ih => rw [List.replicate_succ, List.replicate_succ, List.flatten_cons, List.flatten_cons]; exact dpAll_app (.cons (.str a) .nil) ih
      refine kk (.ref c2) (.list (List.replicate 101 [PyData.str a]).flatten) (n1 + 1) _ (.lst (SqL.of (mask_upd ((al2.same s3).not nc2))) (rep 101)) (okL_longer (by show ¬ 101 ≤ 100; decide)) ?_ (by omega) (by omega) ((P2.same s3).same s4) (K2.trans ((Keeps.of_same s3).trans (.of_same s4)))
      simp only [sz]
      refine ⟨by show 101 ≤ 1000000; decide, fun x hx => ?_⟩
      obtain ⟨t, ht, hx⟩ := List.mem_flatten.mp hx
      rw [(List.mem_replicate.mp ht).2] at hx
      rw [List.mem_singleton.mp hx]
      exact za 3
    have z2 : d ≠ 2 := fun e => hz (decide_eq_true (by rw [e]))
    clear hz
    refine ⟨_, rfl, r, _, 0, _, rfl, rfl, SqL.of er, atI_nat (j := 0) rfl, by show 1 ≤ sizeLine; decide, fun c1 n1' => ?_⟩
    have s3 := same_new (o := .lst [.str "a"]) n1'
    have e1 : Dp K (mask l (upd H2 c1 (.lst [.str "a"]))) (.ref c1) (.list [.str "a"]) := .lst (SqL.of (mask_upd (al2.not n1'))) (.cons (.str _) .nil)
    have al3 := al2.same s3
    have P3 := P2.same s3
    generalize upd H2 c1 (.lst [.str "a"]) = H3 at *
    refine ⟨by show 2 ≤ sizeLine; decide, fun c2 n2' => ?_⟩
    have s4 := same_new (o := .lst [.str a, .ref c1]) n2'
    have e2 : Dp K (mask l (upd H3 c2 (.lst [.str a, .ref c1]))) (.ref c2) (.list [.str a, .list [.str "a"]]) := .lst (SqL.of (mask_upd (al3.not n2'))) (.cons (.str _) (.cons (dp_same (mask_same s4) _ _ e1) .nil))
    have al4 := al3.same s4
    have P4 := P3.same s4
    generalize upd H3 c2 (.lst [.str a, .ref c1]) = H4 at *
    refine ⟨by show 4 ≤ sizeLine; decide, fun c3 n3' => ?_⟩
    have s5 := same_new (o := .lst [.non, .int 0, .bl true, .ref c2]) n3'
    have e3 : Dp K (mask l (upd H4 c3 (.lst [.non, .int 0, .bl true, .ref c2]))) (.ref c3) (.list [.none, .int 0, .bool true, .list [.str a, .list [.str "a"]]]) := .lst (SqL.of (mask_upd (al4.not n3'))) (.cons .non (.cons (.int _) (.cons (.bl _) (.cons (dp_same (mask_same s5) _ _ e2) .nil))))
    have P5 := P4.same s5
    have K5 : Keeps p q H (upd H4 c3 (.lst [.non, .int 0, .bl true, .ref c2])) := K2.trans (.of_same ((s3.trans s4).trans s5))
    generalize upd H4 c3 (.lst [.non, .int 0, .bl true, .ref c2]) = H5 at *
    obtain ⟨r3, xs, x, e, er3, hx, ha, hm, _, he⟩ := pick_at e3 (i := d - 3) (by omega) (by show d - 3 < 4; omega)
    cases er3
    refine ⟨_, rfl, _, _, rfl, rfl, c3, xs, _, x, rfl, rfl, (mask_sub l H5).seq hx, ha, kk x e (n1 + 1) H5 he ?_ ?_ (by omega) (by omega) P5 K5⟩
    · simp only [List.mem_cons, List.not_mem_nil, or_false] at hm
      rcases hm with rfl | rfl | rfl | rfl
      · exact okL_not rfl
      · exact okL_not rfl
      · exact okL_not rfl
      · exact okL_bad (x := .list [.str "a"]) (by show _ ∈ [PyData.str a, .list [.str "a"]]; simp) rfl
    · simp only [List.mem_cons, List.not_mem_nil, or_false] at hm
      rcases hm with rfl | rfl | rfl | rfl
      · simp only [sz]
      · simp only [sz]
      · simp only [sz]
      · simp only [sz]
        refine ⟨by show 2 ≤ 1000000; decide, fun x hx => ?_⟩
        simp only [List.mem_cons, List.not_mem_nil, or_false] at hx
        rcases hx with rfl | rfl
        · exact za 3
        · exact sz_of (by decide +kernel)
end
/-- xs + ys of lists of data, one of them new -/
theorem cat_dl {K : PySem.W.Frag} {l : List Addr} {H : Hp} {a b : Addr} {xs ys : List V} {ds es : List PyData} {Q : VK} (al : Alive l H) (ha : H a = some (.lst xs)) (hx : DpAll K (mask l H) xs ds) (hb : H b = some (.lst ys)) (hy : DpAll K (mask l H) ys es) (hl : ds.length + es.length ≤ 1000)
    (q : ∀ t H', Same H H' → t ∉ l → H' t = some (.lst (xs ++ ys)) → DpAll K (mask l H') (xs ++ ys) (ds ++ es) → Q (.ref t) H') : rCat (.ref a) (.ref b) H Q := by
  have l1 := dpAll_len hx
  have l2 := dpAll_len hy
  refine ⟨a, b, xs, ys, rfl, rfl, ha, hb, len1000 (by omega), fun t nt => ?_⟩
  have s := same_new (o := .lst (xs ++ ys)) nt
  exact q t _ s (al.not nt) upd_same (dpAll_app (dpAll_same (mask_same s) _ _ hx) (dpAll_same (mask_same s) _ _ hy))
theorem pf_rep : ∀ part < 3, ∃ x : PyData, rp3L[part]? = some (.list [x]) ∧ sz 5 x := fun part h => by
  match part, h with
  | 0, _ => exact ⟨_, rfl, sz_of (by decide +kernel)⟩
  | 1, _ => exact ⟨_, rfl, sz_of (by decide +kernel)⟩
  | 2, _ => exact ⟨_, rfl, sz_of (by decide +kernel)⟩
section
variable {P : Program} {w : World} {K : PySem.W.Frag} {mg : Str → Option Value} {base : Heap}
theorem scSp : FnScope ["pool", "part", "row", "pick", "at", "spoilt"] ["pool", "part", "row"] (defScope sSpoilt) := ⟨rfl, rfl, rfl, by decide +kernel, rfl, by decide +kernel, by decide +kernel⟩
theorem ok_spoilt {f fD fW : Addr} {fd fdD fdW : FuncData} (F : Fun K "_law_spoilt" "_law_spoilt" sSpoilt f fd) (B : Bts mg) (GD : FnOk P w K mg base CX0 1 fD fdD ["pool", "many"] spDraw) (mD : mg "_law_draw" = some (.ref fD)) (kD : PySem.W.keepIn K (.ref fD) = true) (bD : Binds K fdD ["pool", "many"] [])
    (GW : FnOk P w K mg base CX0 3 fW fdW ["pool", "part"] (spWrong K)) (mW : mg "_law_wrong_member" = some (.ref fW)) (kW : PySem.W.keepIn K (.ref fW) = true) (bW : Binds K fdW ["pool", "part"] []) : FnOk P w K mg base CX0 4 f fd ["pool", "part", "row"] (spSpoilt K) := by
  refine F.ok scSp (fun vs H Q E h => ?_) (fun cdv A outer s H vs Q E hr h => ?_)
  · obtain ⟨p, q, n, part, l, v, ds, rfl, _⟩ := h
    rfl
  · obtain ⟨p, q, n, part, l, v, ds, rfl, hP, hpart, hn, lp, lq, al, hv, hlen, hsz, kk⟩ := h
    have hrD : Room 1 _ := hr.mono (by decide)
    have hrW : Room 3 _ := hr
    refine ⟨_, pss_cons (ps_set (i := 3) scSp.nd rfl (.inl rfl) (pe_call GD hrD (by rfl) mD kD bD .nil pass0 (pa_cons (pv 0) (pa_cons pe_int pa_nil))))
      (pss_cons (ps_if (pt_cmpR op_eq (pv 3) pe_int (nomark _))
        (pss_one (ps_ret (pe_ix ix_list (de_lst (da_cons de_non (da_cons de_int (da_cons de_bl (da_cons de_str (da_cons de_str (da_cons (de_pow ⟨by decide, by decide, by decide⟩) da_nil))))))).pe (pe_call GD hrD (by rfl) mD kD bD .nil pass0 (pa_cons (pv 0) (pa_cons pe_int pa_nil))) (fun _ _ => rfl))))
        pss_nil)
      (pss_cons (ps_if (pt_cmpR op_eq (pv 3) pe_int (nomark _))
        (pss_one (ps_ret (pe_op op_rep (pe_ix ix_list (pe_lst (pa_cons (pe_lst (pa_cons pe_bl pa_nil)) (pa_cons (pe_lst (pa_cons pe_int pa_nil)) (pa_cons (pe_lst (pa_cons (pe_tup (pa_cons pe_str pa_nil)) pa_nil)) pa_nil)))) (pv 1) (fun _ _ => rfl)) pe_int)))
        pss_nil)
      (pss_cons (ps_set (i := 4) scSp.nd rfl (.inl rfl) (pe_call GD hrD (by rfl) mD kD bD .nil pass0 (pa_cons (pv 0) (pa_cons (pe_op op_add (pe_callB call_len_seq (by rfl) B.len PySem.boot_len (pa_cons (pv 2) pa_nil)) pe_int) pa_nil))))
      (pss_cons (ps_set (i := 5) scSp.nd rfl (.inl rfl) (pe_op op_cat (pe_op op_cat (pe_callTy call_list_of (by rfl) B.list (by decide +kernel) (pa_cons (pe_slice sl_list (pv 2) po_none (po_some (pv 4))) pa_nil)) (pe_lst (pa_cons (pe_call GW hrW (by rfl) mW kW bW .nil pass0 (pa_cons (pv 0) (pa_cons (pv 1) pa_nil))) pa_nil))) (pe_callTy call_list_of (by rfl) B.list (by decide +kernel) (pa_cons (pe_slice sl_list (pv 2) (po_some (pv 4)) po_none) pa_nil))))
      (pss_one (ps_ret (pe_ifExp (pt_truth (pe_op op_mod (pv 3) pe_int) (by intro _; rfl)) (pv 5) (pe_callTy call_tupS (by rfl) B.tuple (by decide +kernel) (pa_cons (pv 5) pa_nil))))))))), ?_⟩
    refine ⟨_, rfl, p, q, n, 6, rfl, hP, by omega, by decide, by decide, fun d H1 d0 d1 P1 K1 => ?_⟩
    have al1 := Keeps.alive al K1 P1
    refine ⟨_, rfl, rfl, _, rfl, ite2 (fun hz => ?_) (fun hz => ?_)⟩
    · refine ⟨l, .list sp0L, al1, ⟨_, rfl, Nat.le_of_ble_eq_true rfl, ⟨_, _, rfl, rfl, ⟨_, _, rfl, rfl, ⟨_, _, rfl, rfl, ⟨_, _, rfl, rfl, ⟨_, _, rfl, rfl, ⟨_, _, rfl, rfl, rfl⟩⟩⟩⟩⟩⟩⟩, fun v H2 s2 hv => ?_⟩
      refine ⟨_, rfl, p, q, n + 1, 6, rfl, P1.same s2, by omega, by decide, by decide, fun e H3 e0 e1 P3 K3 => ?_⟩
      have hv := dp_same (K3.maskL lp lq) _ _ hv
      obtain ⟨r, xs, x, y, rfl, hx, ha, hm, _, he⟩ := pick_at hv e0 (Int.lt_of_lt_of_le e1 (by decide))
      obtain ⟨b1, b2⟩ := all2 sp0_all hm
      exact ⟨r, xs, _, x, rfl, rfl, (mask_sub l H3).seq hx, ha, kk x y (n + 2) H3 he (okL_not b1) (sz_up (sz_up (sz_up b2))) (by omega) (by omega) P3 (K1.trans ((Keeps.of_same s2).trans K3))⟩
    have z0 : d ≠ 0 := fun e => hz (decide_eq_true (by rw [e]))
    clear hz
    refine ⟨_, rfl, rfl, _, rfl, ite2 (fun hz => ?_) (fun hz => ?_)⟩
    · refine ⟨by show 1 ≤ sizeLine; decide, fun c1 m1 => ?_⟩
      have s1 := same_new (o := .lst [.bl true]) m1
      have e1 : (upd H1 c1 (.lst [.bl true])) c1 = some (.lst [.bl true]) := upd_same
      have al2 := al1.same s1
      generalize upd H1 c1 (.lst [.bl true]) = H2 at *
      refine ⟨by show 1 ≤ sizeLine; decide, fun c2 m2 => ?_⟩
      have s2 := same_new (o := .lst [.int 5]) m2
      have e2 : (upd H2 c2 (.lst [.int 5])) c2 = some (.lst [.int 5]) := upd_same
      have al3 := al2.same s2
      have e1 := s2 _ _ e1
      generalize upd H2 c2 (.lst [.int 5]) = H3 at *
      refine ⟨by show 1 ≤ sizeLine; decide, fun t mt => ?_⟩
      have s3 := same_new (o := .tup [.str "a"]) mt
      have et : Dp K (mask l (upd H3 t (.tup [.str "a"]))) (.ref t) (.tuple [.str "a"]) := .tup (SqT.of (mask_upd (al3.not mt))) (.cons (.str _) .nil)
      have al4 := al3.same s3
      have e1 := s3 _ _ e1
      have e2 := s3 _ _ e2
      generalize upd H3 t (.tup [.str "a"]) = H4 at *
      refine ⟨by show 1 ≤ sizeLine; decide, fun c3 m3 => ?_⟩
      have s4 := same_new (o := .lst [.ref t]) m3
      have e3 : (upd H4 c3 (.lst [.ref t])) c3 = some (.lst [.ref t]) := upd_same
      have al5 := al4.same s4
      have e1 := s4 _ _ e1
      have e2 := s4 _ _ e2
      have et := dp_same (mask_same s4) _ _ et
      generalize upd H4 c3 (.lst [.ref t]) = H5 at *
      refine ⟨by show 3 ≤ sizeLine; decide, fun r mr => ?_⟩
      have s5 := same_new (o := .lst [.ref c1, .ref c2, .ref c3]) mr
      have er : (upd H5 r (.lst [.ref c1, .ref c2, .ref c3])) r = some (.lst [.ref c1, .ref c2, .ref c3]) := upd_same
      have al6 := al5.same s5
      have e1 := s5 _ _ e1
      have e2 := s5 _ _ e2
      have e3 := s5 _ _ e3
      have et := dp_same (mask_same s5) _ _ et
      have s15 := (((s1.trans s2).trans s3).trans s4).trans s5
      generalize upd H5 r (.lst [.ref c1, .ref c2, .ref c3]) = H6 at *
      obtain ⟨c, v0, d0', ix, hc, hd0, hz0⟩ : ∃ (c : Addr) (v0 : V) (d0' : PyData), atI [V.ref c1, .ref c2, .ref c3] (part : Int) = some (.ref c) ∧ H6 c = some (.lst [v0]) ∧ Dp K (mask l H6) v0 d0' ∧ sz 5 d0' := by
        match part, hpart with
        | 0, _ => exact ⟨c1, _, .bool true, atI_nat (j := 0) rfl, e1, .bl _, by simp only [sz]⟩
        | 1, _ => exact ⟨c2, _, .int 5, atI_nat (j := 1) rfl, e2, .int _, by simp only [sz]⟩
        | 2, _ => exact ⟨c3, _, .tuple [.str "a"], atI_nat (j := 2) rfl, e3, et, sz_of (by decide +kernel)⟩
      refine ⟨_, rfl, r, _, _, _, rfl, rfl, SqL.of er, ix, c, 1001, [v0], rfl, rfl, hc, by decide, by decide, by show 1 * 1001 ≤ sizeLine; decide, fun c4 m4 => ?_⟩
      have s6 := same_new (o := .lst (List.replicate (1001 : Int).toNat [v0]).flatten) m4
      have rep : ∀ m, DpAll K (mask l (upd H6 c4 (.lst (List.replicate (1001 : Int).toNat [v0]).flatten))) (List.replicate m [v0]).flatten (List.replicate m [d0']).flatten := fun m => by
        induction m with
        | zero => exact .nil
        | succ m ih => rw [List.replicate_succ, List.replicate_succ, List.flatten_cons, List.flatten_cons]; exact dpAll_app (.cons (dp_same (mask_same s6) _ _ hd0) .nil) ih
      have lrep : (List.replicate 1001 [d0']).flatten.length = 1001 := by simp
      refine kk (.ref c4) (.list (List.replicate 1001 [d0']).flatten) (n + 1) _ (.lst (SqL.of (mask_upd (al6.not m4))) (rep 1001)) (okL_longer (by show ¬ (List.replicate 1001 [d0']).flatten.length ≤ 1000; rw [lrep]; decide)) ?_ (by omega) (by omega) (P1.same (s15.trans s6)) (K1.trans (.of_same (s15.trans s6)))
      simp only [sz]
      refine ⟨by rw [lrep]; decide, fun x hx => ?_⟩
      obtain ⟨tt, ht, hx⟩ := List.mem_flatten.mp hx
      rw [(List.mem_replicate.mp ht).2] at hx
      rw [List.mem_singleton.mp hx]
      exact hz0
    have z1 : d ≠ 1 := fun e => hz (decide_eq_true (by rw [e]))
    clear hz
    have hv1 := dp_same (K1.maskL lp lq) _ _ hv
    obtain ⟨rv, xs, rfl, hx, hds⟩ := dp_lst hv1
    have lds := dpAll_len hds
    have hx := (mask_sub l H1).seq hx
    refine ⟨_, rfl, _, rfl, rv, xs, rfl, .inl hx, _, _, rfl, rfl, p, q, n + 1, _, rfl, P1, by omega, by omega, by omega, fun at_ H2 a0 a1 P2 K2 => ?_⟩
    obtain ⟨i, rfl⟩ : ∃ i : Nat, at_ = (i : Int) := ⟨at_.toNat, by omega⟩
    have al2 := Keeps.alive al1 K2 P2
    have m2 := K2.maskL lp lq
    have hv2 := dp_same m2 _ _ hv1
    have K2 := K1.trans K2
    clear hx hds hv1 m2 lds
    obtain ⟨_, ys, er, hx, hds⟩ := dp_lst hv2
    cases er
    have lds := dpAll_len hds
    have hx := (mask_sub l H2).seq hx
    -- the front
    refine ⟨_, rfl, _, rfl, (i : Int), rfl, rv, ys, rfl, hx, fun c1 m1 => ?_⟩
    have s1 := same_new (o := .lst (cutV ys none (some (i : Int)))) m1
    have e1 : (upd H2 c1 (.lst (cutV ys none (some (i : Int))))) c1 = some (.lst (cutV ys none (some (i : Int)))) := upd_same
    have al3 := al2.same s1
    generalize upd H2 c1 (.lst (cutV ys none (some (i : Int)))) = H3 at *
    rw [cut_take] at e1
    refine ⟨c1, ys.take i, rfl, .inl (SqL.of e1), fun c2 m2 => ?_⟩
    have s2 := same_new (o := .lst (ys.take i)) m2
    have e2 : (upd H3 c2 (.lst (ys.take i))) c2 = some (.lst (ys.take i)) := upd_same
    have nc2 : c2 ∉ l := al3.not m2
    have al4 := al3.same s2
    have s12 := s1.trans s2
    generalize upd H3 c2 (.lst (ys.take i)) = H4 at *
    refine ⟨_, rfl, _, rfl, p, q, n + 1 + 1, part, l, rfl, P2.same s12, hpart, by omega, lp, lq, al4, fun wv wd n5 H5 dW bW zW hn1 hn2 P5 K5 => ?_⟩
    have m5 := K5.maskL lp lq
    have e2 := K5 c2 _ (fun e => nc2 (by rw [e]; exact lp)) (fun e => nc2 (by rw [e]; exact lq)) e2
    have hds5 := dpAll_same ((mask_same s12).trans m5) _ _ hds
    have hv5 := dp_same ((mask_same s12).trans m5) _ _ hv2
    have al5 := Keeps.alive al4 K5 P5
    have K5 := K2.trans ((Keeps.of_same s12).trans K5)
    clear hx hds hv2 al al1 al2 al3 al4 s1 s2 s12 e1 P1 P2 K1 K2 hP m5
    refine ⟨by show 1 ≤ sizeLine; decide, fun c3 m3 => ?_⟩
    have s3 := same_new (o := .lst [wv]) m3
    have e3 : (upd H5 c3 (.lst [wv])) c3 = some (.lst [wv]) := upd_same
    have al6 := al5.same s3
    have e2 := s3 _ _ e2
    have hds6 := dpAll_same (mask_same s3) _ _ hds5
    have hv6 := dp_same (mask_same s3) _ _ hv5
    have dW := dp_same (mask_same s3) _ _ dW
    have P6 := P5.same s3
    have K6 := K5.trans (.of_same s3)
    generalize upd H5 c3 (.lst [wv]) = H6 at *
    clear hds5 hv5 al5 P5 K5 s3
    have lt : (ds.take i).length ≤ 100 := by rw [List.length_take]; omega
    have ld : (ds.drop i).length ≤ 100 := by rw [List.length_drop]; omega
    refine cat_dl al6 e2 (dpAll_take i hds6) e3 (.cons dW .nil) (by show (ds.take i).length + 1 ≤ 1000; omega) fun t1 H7 s7 _ et1 dt1 => ?_
    have hv7 := dp_same (mask_same s7) _ _ hv6
    have al7 := al6.same s7
    obtain ⟨_, zs, er, hx, hds⟩ := dp_lst hv7
    cases er
    have lzs := dpAll_len hds
    have hx := (mask_sub l H7).seq hx
    -- the back
    refine ⟨_, rfl, _, rfl, (i : Int), rfl, rv, zs, rfl, hx, fun c4 m4 => ?_⟩
    have s8 := same_new (o := .lst (cutV zs (some (i : Int)) none)) m4
    have e4 : (upd H7 c4 (.lst (cutV zs (some (i : Int)) none))) c4 = some (.lst (cutV zs (some (i : Int)) none)) := upd_same
    have al8 := al7.same s8
    generalize upd H7 c4 (.lst (cutV zs (some (i : Int)) none)) = H8 at *
    rw [cut_drop] at e4
    refine ⟨c4, zs.drop i, rfl, .inl (SqL.of e4), fun c5 m5 => ?_⟩
    have s9 := same_new (o := .lst (zs.drop i)) m5
    have e5 : (upd H8 c5 (.lst (zs.drop i))) c5 = some (.lst (zs.drop i)) := upd_same
    have al9 := al8.same s9
    have s89 := s8.trans s9
    generalize upd H8 c5 (.lst (zs.drop i)) = H9 at *
    refine cat_dl al9 (s89 _ _ et1) (dpAll_same (mask_same s89) _ _ dt1) e5 (dpAll_drop i (dpAll_same (mask_same s89) _ _ hds)) (by rw [List.length_append]; show (ds.take i).length + 1 + (ds.drop i).length ≤ 1000; omega) fun t2 H10 s10 nt2 et2 dt2 => ?_
    have sF := (s7.trans s89).trans s10
    have P10 := P6.same sF
    have K10 := K6.trans (.of_same sF)
    have bad : ∀ (D : PyData), mem D = ds.take i ++ [wd] ++ ds.drop i → okP part D = false := fun D e => okL_bad (x := wd) (by rw [e]; simp) bW
    have ll : (ds.take i ++ [wd] ++ ds.drop i).length ≤ 1000000 := by
      rw [List.length_append, List.length_append]
      show (ds.take i).length + 1 + (ds.drop i).length ≤ 1000000
      omega
    have lz : ∀ x ∈ ds.take i ++ [wd] ++ ds.drop i, sz 5 x := fun x hx => by
      rcases List.mem_append.mp hx with h | h
      · rcases List.mem_append.mp h with h | h
        · exact hsz x (List.mem_of_mem_take h)
        · rw [List.mem_singleton.mp h]; exact zW
      · exact hsz x (List.mem_of_mem_drop h)
    refine ⟨_, rfl, _, _, rfl, rfl, (by show (0 : Int) < 2; decide), _, rfl, ite2 (fun hz => ?_) (fun hz => ?_)⟩
    · exact ⟨_, rfl, kk (.ref t2) (.list _) n5 H10 (.lst (SqL.of (by rw [mask_out nt2]; exact et2)) dt2) (bad _ rfl) (by simp only [sz]; exact ⟨ll, lz⟩) (by omega) (by omega) P10 K10⟩
    · refine ⟨_, rfl, ⟨⟨t2, _, rfl, .inl ⟨SqL.of et2, fun t3 m3 => ?_⟩⟩⟩⟩
      have s11 := same_new (o := .tup (ys.take i ++ [wv] ++ zs.drop i)) m3
      exact kk (.ref t3) (.tuple _) n5 _ (.tup (SqT.of (mask_upd ((al9.same s10).not m3))) (dpAll_same (mask_same s11) _ _ dt2)) (bad _ rfl) (by simp only [sz]; exact ⟨ll, lz⟩) (by omega) (by omega) (P10.same s11) (K10.trans (.of_same s11))
end
/-! ### the law -/
theorem sayD_app (a b : List Bool) : sayD (a ++ b) = sayD a ++ sayD b := List.map_append ..
theorem sizD_app (a b : List Int) : sizD (a ++ b) = sizD a ++ sizD b := List.map_append ..
theorem loaD_app (a b : List (List Str)) : loaD (a ++ b) = loaD a ++ loaD b := List.map_append ..
theorem sayD_len (a : List Bool) : (sayD a).length = a.length := List.length_map ..
theorem sizD_len (a : List Int) : (sizD a).length = a.length := List.length_map ..
theorem loaD_len (a : List (List Str)) : (loaD a).length = a.length := List.length_map ..
/-- a triple drawn, as data -/
theorem trip_data {K : PySem.W.Frag} {l : List Addr} {H : Hp} {r a b c : Addr} {ts : List Addr} {says : List Bool} {sizes : List Int} {loads : List (List Str)} (out : ∀ y ∈ r :: a :: b :: c :: ts, y ∉ l) (ht : TripAt H r a b c ts says sizes loads) : Dp K (mask l H) (.ref r) (tripD says sizes loads) := by
  have dA : Dp K (mask l H) (.ref a) (.list (sayD says)) := .lst (SqL.of (by rw [mask_out (out a (by simp))]; exact ht.ha)) (bools_dp says)
  have dB : Dp K (mask l H) (.ref b) (.list (sizD sizes)) := .lst (SqL.of (by rw [mask_out (out b (by simp))]; exact ht.hb)) (ints_dp sizes)
  have dC : Dp K (mask l H) (.ref c) (.list (loaD loads)) := by
    refine .lst (SqL.of (by rw [mask_out (out c (by simp))]; exact ht.hc)) ?_
    have go : ∀ (ts : List Addr) (loads : List (List Str)), (∀ y ∈ ts, y ∉ l) → Paired (fun t load => H t = some (.tup (load.map V.str))) ts loads → DpAll K (mask l H) (ts.map V.ref) (loaD loads) := by
      intro ts loads ho hp
      induction hp with
      | nil => exact .nil
      | cons h t ih => exact .cons (.tup (SqT.of (by rw [mask_out (ho _ List.mem_cons_self)]; exact h)) (strs_dp _)) (ih fun y hy => ho y (List.mem_cons_of_mem _ hy))
    exact go ts loads (fun y hy => out y (by simp [hy])) ht.ht
  exact .lst (SqL.of (by rw [mask_out (out r (by simp))]; exact ht.hr)) (.cons dA (.cons dB (.cons dC .nil)))
theorem dp4_load (l : List Str) (h : l.length ≤ 1000000) : dp 4 (.tuple (l.map PyData.str)) := by
  simp only [dp]
  refine ⟨by rw [List.length_map]; exact h, fun y hy => ?_⟩
  obtain ⟨z, _, rfl⟩ := List.mem_map.mp hy
  simp only [dp]
/-- what a look at a triple's sizes wants -/
theorem has6 {says : List Bool} {sizes : List Int} {loads : List (List Str)} (l1 : says.length ≤ 2000) (l2 : sizes.length ≤ 2000) (l3 : loads.length ≤ 2000) (ho : ∀ l ∈ loads, l.length ≤ 100) :
    (mem (.list (sayD says))).length ≤ 100000 ∧ (mem (.list (sizD sizes))).length ≤ 100000 ∧ (mem (.list (loaD loads))).length ≤ 100000 ∧ (∀ d ∈ mem (.list (sayD says)), dp 4 d) ∧ (∀ d ∈ mem (.list (sizD sizes)), dp 4 d) ∧ (∀ d ∈ mem (.list (loaD loads)), dp 4 d) := by
  refine ⟨?_, ?_, ?_, ?_, ?_, ?_⟩
  · show (sayD says).length ≤ _; rw [sayD_len]; omega
  · show (sizD sizes).length ≤ _; rw [sizD_len]; omega
  · show (loaD loads).length ≤ _; rw [loaD_len]; omega
  · intro d hd
    obtain ⟨b, _, rfl⟩ := List.mem_map.mp (show d ∈ says.map PyData.bool from hd)
    simp only [dp]
  · intro d hd
    obtain ⟨b, _, rfl⟩ := List.mem_map.mp (show d ∈ sizes.map PyData.int from hd)
    simp only [dp]
  · intro d hd
    obtain ⟨b, hb, rfl⟩ := List.mem_map.mp (show d ∈ loads.map _ from hd)
    exact dp4_load b (by have := ho b hb; omega)
theorem dpAll_set {K : PySem.W.Frag} {H : Hp} : ∀ (k : Nat) {vs : List V} {ds : List PyData} {v : V} {d : PyData}, DpAll K H vs ds → Dp K H v d → DpAll K H (vs.set k v) (ds.set k d)
  | _, _, _, _, _, .nil, _ => .nil
  | 0, _, _, _, _, .cons _ t, h => .cons h t
  | k + 1, _, _, _, _, .cons a t, h => .cons a (dpAll_set k t h)
def goodL (says : List Bool) (sizes : List Int) (loads : List (List Str)) : List PyData := [.list (sayD says), .list (sizD sizes), .list (loaD loads)]
theorem good_ok {says : List Bool} {sizes : List Int} {loads : List (List Str)} (g : Good says sizes loads) : ∀ k < 3, ∃ d, (goodL says sizes loads)[k]? = some d ∧ okP k d = true ∧ sz 6 d := fun k h => by
  match k, h with
  | 0, _ => exact ⟨_, rfl, g.ans (d := .list (sayD says)) rfl rfl, sz_says g.l1⟩
  | 1, _ => exact ⟨_, rfl, g.lens (d := .list (sizD sizes)) rfl rfl, sz_sizes g.l2⟩
  | 2, _ => exact ⟨_, rfl, g.loads (d := .list (loaD loads)) rfl rfl, sz_loads g.l3 g.o⟩
/-- the members of a part of a triple, as data that may be spoilt -/
theorem good_row {says : List Bool} {sizes : List Int} {loads : List (List Str)} (g : Good says sizes loads) (hm : says.length ≤ 40 ∧ sizes.length ≤ 40 ∧ loads.length ≤ 40) : ∀ k < 3, ∃ ds, (goodL says sizes loads)[k]? = some (.list ds) ∧ ds.length ≤ 100 ∧ ∀ d ∈ ds, sz 5 d := fun k h => by
  match k, h with
  | 0, _ => exact ⟨_, rfl, by rw [sayD_len]; omega, (sz_mem (sz_says g.l1)).2⟩
  | 1, _ => exact ⟨_, rfl, by rw [sizD_len]; omega, (sz_mem (sz_sizes g.l2)).2⟩
  | 2, _ => exact ⟨_, rfl, by rw [loaD_len]; omega, (sz_mem (sz_loads g.l3 g.o)).2⟩
def dueS (k : Nat) : Str := if k = 0 then "answers" else if k = 1 then "lengths" else "loads"
theorem due_at : ∀ k : Nat, k < 3 → atI [V.str "answers", .str "lengths", .str "loads"] (k : Int) = some (.str (dueS k)) := fun k h => by
  match k, h with
  | 0, _ => exact atI_nat (j := 0) rfl
  | 1, _ => exact atI_nat (j := 1) rfl
  | 2, _ => exact atI_nat (j := 2) rfl
def spLaw (K : PySem.W.Frag) : Sp := fun vs H Q _ => ∃ (a : Addr) (ns : List Int), vs = [.ref a] ∧ SqL K H a (ns.map V.int) ∧ ns.length ≤ 63 ∧ ∀ H', Q (.bl true) H'
structure Law37 (P : Program) (w : World) (K : PySem.W.Frag) (mg : Str → Option Value) (base : Heap) where
  B : Bts mg
  mmin : mg "min" = none
  C : Addr
  fP : Addr
  fdP : FuncData
  GP : FnOk P w K mg base CX0 1 fP fdP ["script"] (spPool K)
  mP : mg "_law_pool" = some (.ref fP)
  kP : PySem.W.keepIn K (.ref fP) = true
  bP : Binds K fdP ["script"] []
  fD : Addr
  fdD : FuncData
  GD : FnOk P w K mg base CX0 1 fD fdD ["pool", "many"] (spDraw)
  mD : mg "_law_draw" = some (.ref fD)
  kD : PySem.W.keepIn K (.ref fD) = true
  bD : Binds K fdD ["pool", "many"] []
  fT : Addr
  fdT : FuncData
  GT : FnOk P w K mg base CX0 3 fT fdT ["pool", "most"] (spTriple)
  mT : mg "_law_triple" = some (.ref fT)
  kT : PySem.W.keepIn K (.ref fT) = true
  bT : Binds K fdT ["pool", "most"] []
  fS : Addr
  fdS : FuncData
  GS : FnOk P w K mg base CX0 6 fS fdS ["actual", "due"] (spSame K 6)
  mS : mg "_law_same" = some (.ref fS)
  kS : PySem.W.keepIn K (.ref fS) = true
  bS : Binds K fdS ["actual", "due"] []
  fH : Addr
  fdH : FuncData
  GH : FnOk P w K mg base CX0 7 fH fdH ["contents", "triple"] (spHas K C)
  mH : mg "_law_has" = some (.ref fH)
  kH : PySem.W.keepIn K (.ref fH) = true
  bH : Binds K fdH ["contents", "triple"] []
  fTr : Addr
  fdTr : FuncData
  GTr : FnOk P w K mg base CX0 6 fTr fdTr ["rows"] (spTried K C)
  mTr : mg "_law_tried" = some (.ref fTr)
  kTr : PySem.W.keepIn K (.ref fTr) = true
  bTr : Binds K fdTr ["rows"] []
  fSp : Addr
  fdSp : FuncData
  GSp : FnOk P w K mg base CX0 4 fSp fdSp ["pool", "part", "row"] (spSpoilt K)
  mSp : mg "_law_spoilt" = some (.ref fSp)
  kSp : PySem.W.keepIn K (.ref fSp) = true
  bSp : Binds K fdSp ["pool", "part", "row"] []
section
variable {P : Program} {w : World} {K : PySem.W.Frag} {mg : Str → Option Value} {base : Heap}
theorem scLw : FnScope ["script", "pool", "turn", "triple", "wrong", "rows", "part", "due"] ["script"] (defScope sLaw) := ⟨rfl, rfl, rfl, by decide +kernel, rfl, by decide +kernel, by decide +kernel⟩
theorem ok_law {f : Addr} {fd : FuncData} (F : Fun K "law" "law" sLaw f fd) (G : Law37 P w K mg base) : FnOk P w K mg base CX0 8 f fd ["script"] (spLaw K) := by
  obtain ⟨B, mmin, C, fP, fdP, GP, mP, kP, bP, fD, fdD, GD, mD, kD, bD, fT, fdT, GT, mT, kT, bT, fS, fdS, GS, mS, kS, bS, fH, fdH, GH, mH, kH, bH, fTr, fdTr, GTr, mTr, kTr, bTr, fSp, fdSp, GSp, mSp, kSp, bSp⟩ := G
  refine F.ok scLw (fun vs H Q E h => ?_) (fun cdv A outer s0 H vs Q E hr h => ?_)
  · obtain ⟨a, ns, rfl, _⟩ := h
    rfl
  · obtain ⟨a, ns, rfl, hS0, hlen, kk⟩ := h
    have hrP : Room 1 _ := hr.mono (by decide)
    have hrD := hrP
    have hrT : Room 3 _ := hr.mono (by decide)
    have hrSp : Room 4 _ := hr.mono (by decide)
    have hrTr : Room 6 _ := hr.mono (by decide)
    have hrS := hrTr
    have hrH : Room 7 _ := hr
    refine ⟨_, pss_cons (ps_set (i := 1) scLw.nd rfl (.inl rfl) (pe_call GP hrP (by rfl) mP kP bP .nil pass0 (pa_cons (pv 0) pa_nil)))
      (pss_cons (ps_for PassesOwn.never rfl (pi_range1 (by rfl) B.range (pa_cons pe_int pa_nil)) (pg_name (i := 2) scLw.nd rfl (.inl rfl))
        (pss_cons (ps_set (i := 3) scLw.nd rfl (.inl rfl) (pe_call GT hrT (by rfl) mT kT bT .nil pass0 (pa_cons (pv 1) (pa_cons pe_int pa_nil))))
          (pss_cons (ps_if (pt_not (pt_val (pe_call GH hrH (by rfl) mH kH bH .nil pass0 (pa_cons (pe_call GTr hrTr (by rfl) mTr kTr bTr .nil pass0 (pa_cons (pv 3) pa_nil)) (pa_cons (pv 3) pa_nil)))))
            (pss_one (ps_ret pe_bl))
            pss_nil)
          (pss_cons (ps_set (i := 4) scLw.nd rfl (.inl rfl) (pe_lst (pa_cons (pe_call GD hrD (by rfl) mD kD bD .nil pass0 (pa_cons (pv 1) (pa_cons pe_int pa_nil))) (pa_cons (pe_call GD hrD (by rfl) mD kD bD .nil pass0 (pa_cons (pv 1) (pa_cons pe_int pa_nil))) pa_nil))))
          (pss_cons (ps_set (i := 5) scLw.nd rfl (.inl rfl) (pe_callTy call_list_of (by rfl) B.list (by decide +kernel) (pa_cons (pv 3) pa_nil)))
          (pss_cons (ps_for PassesOwn.never rfl (pi_list (pv 4)) (pg_name (i := 6) scLw.nd rfl (.inl rfl))
            (pss_one (ps_asg (pe_call GSp hrSp (by rfl) mSp kSp bSp .nil pass0 (pa_cons (pv 1) (pa_cons (pv 6) (pa_cons (pe_ix ix_list (pv 3) (pv 6) (fun _ _ => rfl)) pa_nil)))) (pg_sub (pv 5) (pv 6) set_list))))
          (pss_cons (ps_set (i := 7) scLw.nd rfl (.inl rfl) (pe_ix ix_list (pe_lst (pa_cons pe_str (pa_cons pe_str (pa_cons pe_str pa_nil)))) (pe_callB (cr_min rfl) (by rfl) mmin (by decide +kernel) (pa_cons (pv 4) pa_nil)) (fun _ _ => rfl)))
          (pss_one (ps_if (PW.pt (pw_or (pt_not (pt_val (pe_call GS hrS (by rfl) mS kS bS .nil pass0 (pa_cons (pe_call GTr hrTr (by rfl) mTr kTr bTr .nil pass0 (pa_cons (pv 5) pa_nil)) (pa_cons (pv 7) pa_nil))))) (pw_or1 (pt_not (pt_val (pe_call GH hrH (by rfl) mH kH bH .nil pass0 (pa_cons (pe_call GTr hrTr (by rfl) mTr kTr bTr .nil pass0 (pa_cons (pv 3) pa_nil)) (pa_cons (pv 3) pa_nil))))))))
            (pss_one (ps_ret pe_bl))
            pss_nil)))))))))
      (pss_one (ps_ret pe_bl))), ?_⟩
    refine ⟨_, rfl, a, ns, rfl, hS0, hlen, fun p q H1 np nq P1 s1 => ?_⟩
    clear s1 hS0 np nq
    have lp : p ∈ [p, q] := by simp
    have lq : q ∈ [p, q] := by simp
    refine ⟨4, rfl, by decide, by decide, for_range (lo := 0) (n := 4) (fun i σ H2 => ∃ (y2 y3 y4 y5 y6 y7 : Option V) (n : Nat), σ = [some (.ref a), some (.ref p), y2, y3, y4, y5, y6, y7] ∧ n ≤ 5000 * i ∧ PoolAt H2 p q n)
      ⟨none, none, none, none, none, none, 0, rfl, by omega, P1⟩ ?_ ?_⟩
    · rintro i σ H2 hi ⟨y2, y3, y4, y5, y6, y7, n, rfl, hn, P2⟩
      have al2 := P2.alive
      refine ⟨_, rfl, p, q, n, 9, rfl, P2, by omega, by decide, by decide, fun r a0 b0 c0 ts says sizes loads n3 H3 hnew hra ht hok hn1 hn2 P3 K3 => ?_⟩
      have d1 := trip_data (K := K) (l := [p, q]) (fun y hy => al2.not (hnew y hy)) ht
      clear ht hnew hra
      have g : Good says sizes loads := ⟨by have := hok.l1; omega, by have := hok.l2; omega, by have := hok.l3; omega, hok.s, fun l h => ⟨by have := (hok.o l h).1; omega, (hok.o l h).2⟩⟩
      have hm : says.length ≤ 40 ∧ sizes.length ≤ 40 ∧ loads.length ≤ 40 := ⟨by have := hok.l1; omega, by have := hok.l2; omega, by have := hok.l3; omega⟩
      have o1 : okAns (.list (sayD says)) = true := g.ans rfl rfl
      have o2 : okLens (.list (sizD sizes)) = true := g.lens rfl rfl
      have o3 : okLoads (.list (loaD loads)) = true := g.loads rfl rfl
      have kU := has6 (says := says) (sizes := sizes) (loads := loads) (by have := g.l1; omega) (by have := g.l2; omega) (by have := g.l3; omega) fun l h => (g.o l h).1
      refine ⟨_, rfl, [p, q], .ref r, _, _, _, rfl, P3.alive, d1, sz_says g.l1, sz_sizes g.l2, sz_loads g.l3 g.o, fun _ _ _ x4 H4 s4 hC => ?_, fun e => absurd e (by rw [o1]; decide), fun _ e => absurd e (by rw [o2]; decide), fun _ _ e => absurd e (by rw [o3]; decide)⟩
      have hC : ContAt K [p, q] H4 C x4 (sayD says) (sizD sizes) (loaD loads) := by rw [← tup_loads loads]; exact hC
      refine ⟨_, rfl, [p, q], _, .ref r, .list (sayD says), .list (sizD sizes), .list (loaD loads), rfl, hC, dp_free (dp_same (mask_same s4) _ _ d1), rfl, rfl, rfl, kU.1, kU.2.1, kU.2.2.1, kU.2.2.2.1, kU.2.2.2.2.1, kU.2.2.2.2.2, fun H5 s5 => ⟨_, rfl, iteF ?_⟩⟩
      have d1 := dp_same (mask_same (s4.trans s5)) _ _ d1
      have P5 := P3.same (s4.trans s5)
      clear hC s4 s5 P3 K3 P2 al2 H1 P1 hok
      refine ⟨_, rfl, p, q, n3, 3, rfl, P5, by omega, by decide, by decide, fun w0 H6 a00 a01 P6 K6 => ?_⟩
      refine ⟨_, rfl, p, q, n3 + 1, 3, rfl, P6, by omega, by decide, by decide, fun w1 H7 b00 b01 P7 K7 => ?_⟩
      obtain ⟨k0, rfl⟩ : ∃ k : Nat, w0 = (k : Int) := ⟨w0.toNat, by omega⟩
      obtain ⟨k1, rfl⟩ : ∃ k : Nat, w1 = (k : Int) := ⟨w1.toNat, by omega⟩
      have d1 := dp_same ((K6.trans K7).maskL lp lq) _ _ d1
      refine ⟨by show 2 ≤ sizeLine; decide, fun wl nwl => ?_⟩
      have s8 := same_new (o := .lst [.int (k0 : Int), .int (k1 : Int)]) nwl
      have ew : (upd H7 wl (.lst [.int (k0 : Int), .int (k1 : Int)])) wl = some (.lst [.int (k0 : Int), .int (k1 : Int)]) := upd_same
      have nwl2 := P7.alive.not nwl
      have P8 := P7.same s8
      have d1 := dp_same (mask_same s8) _ _ d1
      generalize upd H7 wl (.lst [.int (k0 : Int), .int (k1 : Int)]) = H8 at *
      clear P5 P6 P7 K6 K7 s8 nwl
      obtain ⟨_, xs, er, hr8, dall⟩ := dp_lst d1
      cases er
      have hr8u := (mask_sub _ _).seq hr8
      refine ⟨_, rfl, r, xs, rfl, .inl hr8u, fun D nD => ?_⟩
      have s9 := same_new (o := .lst xs) nD
      have eD : (upd H8 D (.lst xs)) D = some (.lst xs) := upd_same
      have nDl : D ∉ [p, q] := P8.alive.not nD
      have nDw : D ≠ wl := (ne_of_none ew nD).symm
      have m9 : Same (mask [p, q] H8) (mask [D, p, q] (upd H8 D (.lst xs))) := (mask_new nD).trans (mask_same s9)
      have d1 := dp_same m9 _ _ d1
      have dall := dpAll_same m9 _ _ dall
      have P9 := P8.same s9
      have ew := s9 _ _ ew
      generalize upd H8 D (.lst xs) = H9 at *
      clear P8 s9 m9 nD hr8 hr8u
      have nwp : wl ≠ p := fun e => nwl2 (by rw [e]; exact lp)
      have nwq : wl ≠ q := fun e => nwl2 (by rw [e]; exact lq)
      have nDp : D ≠ p := fun e => nDl (by rw [e]; exact lp)
      have nDq : D ≠ q := fun e => nDl (by rw [e]; exact lq)
      have lp3 : p ∈ [D, p, q] := by simp
      have lq3 : q ∈ [D, p, q] := by simp
      -- the parts that are spoilt
      refine ⟨_, rfl, wl, rfl, ⟨_, SqL.of ew⟩, for_list (K := K) (a := wl) (xs := [.int (k0 : Int), .int (k1 : Int)]) (fun j σ H => ∃ (y6 : Option V) (vs : List V) (ds : List PyData) (m : Nat), σ = [some (.ref a), some (.ref p), some (.int (0 + (i : Int))), some (.ref r), some (.ref wl), some (.ref D), y6, y7] ∧ H D = some (.lst vs) ∧ DpAll K (mask [D, p, q] H) vs ds ∧
          (∀ k < 3, ∃ d, ds[k]? = some d ∧ sz 6 d ∧ (k ∈ [k0, k1].take j → okP k d = false) ∧ (k ∉ [k0, k1].take j → (goodL says sizes loads)[k]? = some d)) ∧ ds.length = 3 ∧ n3 ≤ m ∧ m ≤ n3 + 2 + 60 * j ∧ PoolAt H p q m ∧ Dp K (mask [D, p, q] H) (.ref r) (tripD says sizes loads) ∧ H wl = some (.lst [.int (k0 : Int), .int (k1 : Int)]))
        ⟨y6, xs, _, n3 + 2, rfl, eD, dall, fun k hk => ?_, rfl, by omega, by omega, P9, d1, ew⟩ (fun j σ H _ ⟨_, _, _, _, _, _, _, _, _, _, _, _, _, e⟩ => SqL.of e) ?_ ?_⟩
      · obtain ⟨d, h1, _, h3⟩ := good_ok g k hk
        exact ⟨d, h1, h3, fun h => (nomatch h), fun _ => h1⟩
      · rintro j x σ H hx ⟨y6, vs, ds, m, rfl, eD, dall, hds, lds, hm1, hm2, P10, d1, ew⟩
        obtain ⟨k, hk3, ex, ek⟩ : ∃ k : Nat, k < 3 ∧ x = .int (k : Int) ∧ [k0, k1][j]? = some k := by
          match j, hx with
          | 0, hx => cases hx; exact ⟨k0, by omega, rfl, rfl⟩
          | 1, hx => cases hx; exact ⟨k1, by omega, rfl, rfl⟩
        subst ex
        have jl : j < 2 := (List.getElem?_eq_some_iff.mp ek).1
        obtain ⟨row, hrow, lrow, zrow⟩ := good_row g hm k hk3
        obtain ⟨_, xs', er, hr10, dall'⟩ := dp_lst d1
        cases er
        have lxs := dpAll_len dall'
        obtain ⟨vk, hvk⟩ : ∃ vk, xs'[k]? = some vk := ⟨_, List.getElem?_eq_getElem (by rw [lxs]; exact hk3)⟩
        obtain ⟨dk, hdk, hvk'⟩ := dpAll_at dall' hvk
        have : dk = .list row := by
          have e : (goodL says sizes loads)[k]? = some dk := hdk
          rw [hrow] at e
          exact (Option.some.inj e).symm
        subst this
        have lvs := dpAll_len dall
        refine ⟨_, rfl, _, rfl, _, rfl, _, rfl, r, _, _, _, rfl, rfl, (mask_sub _ _).seq hr10, atI_nat hvk, p, q, m, k, [D, p, q], vk, row, rfl, P10, hk3, by omega, lp3, lq3, fun y my => ?_, hvk', lrow, zrow, fun v d n' H' dV bad zd h1 h2 P11 K11 => ?_⟩
        · rcases List.mem_cons.mp my with rfl | my
          · exact ⟨_, eD⟩
          · exact P10.alive y my
        have eD := K11 _ _ nDp nDq eD
        have m11 := (K11.maskL lp3 lq3).trans (mask_at (o := .lst (vs.set k v)) (D := D) (l := [D, p, q]) List.mem_cons_self)
        have hix : ixN vs.length (k : Int) = some k := by
          rw [lvs, lds]
          match k, hk3 with
          | 0, _ => rfl
          | 1, _ => rfl
          | 2, _ => rfl
        refine ⟨_, rfl, _, rfl, D, vs, _, k, rfl, rfl, eD, hix, _, vs.set k v, ds.set k d, n', rfl, upd_same, ?_, fun k' hk' => ?_, by rw [List.length_set]; exact lds, by omega, by omega, P11.upd nDp nDq, dp_same m11 _ _ d1, by rw [upd_ne nDw.symm]; exact K11 _ _ nwp nwq ew⟩
        · exact dpAll_set k (dpAll_same m11 _ _ dall) (dp_same (mask_at List.mem_cons_self) _ _ dV)
        · have tk : ∀ z, z ∈ [k0, k1].take (j + 1) ↔ z ∈ [k0, k1].take j ∨ z = k := fun z => by
            rw [List.take_succ, ek, List.mem_append]
            simp
          by_cases e : k' = k
          · subst e
            refine ⟨d, by rw [List.getElem?_set_self (by rw [lds]; exact hk')], zd, fun _ => bad, fun h => absurd ((tk k').mpr (.inr rfl)) h⟩
          · obtain ⟨d', q1, q2, q3, q4⟩ := hds k' hk'
            refine ⟨d', by rw [List.getElem?_set_ne (fun z => e z.symm)]; exact q1, q2, fun h => ?_, fun h => q4 fun h' => h ((tk k').mpr (.inl h'))⟩
            rcases (tk k').mp h with h | h
            · exact q3 h
            · exact absurd h e
      rintro σ H10 ⟨y6, vs, ds, m, rfl, eD, dall, hds, lds, hm1, hm2, P10, d1, ew⟩
      have tk : [k0, k1].take [V.int (k0 : Int), .int (k1 : Int)].length = [k0, k1] := rfl
      rw [tk] at hds
      clear tk
      have hm2 : m ≤ n3 + 2 + 60 * 2 := hm2
      obtain ⟨da, qa, za, ba, ga⟩ := hds 0 (by omega)
      obtain ⟨dl, ql, zl, bl, gl⟩ := hds 1 (by omega)
      obtain ⟨do_, qo, zo, bo, go⟩ := hds 2 (by omega)
      obtain rfl : ds = [da, dl, do_] := by
        match ds, lds, qa, ql, qo with
        | [_, _, _], _, qa, ql, qo => cases qa; cases ql; cases qo; rfl
      clear hds lds qa ql qo
      have dR : Dp K (mask [p, q] H10) (.ref D) (.list [da, dl, do_]) := .lst (SqL.of (by rw [mask_out nDl]; exact eD)) (dpAll_same mask_less _ _ dall)
      have d1 := dp_same (mask_less (D := D)) _ _ d1
      -- what is due
      refine ⟨by show 3 ≤ sizeLine; decide, fun c nc => ?_⟩
      have s11 := same_new (o := .lst [.str "answers", .str "lengths", .str "loads"]) nc
      have ec : (upd H10 c (.lst [.str "answers", .str "lengths", .str "loads"])) c = some (.lst [.str "answers", .str "lengths", .str "loads"]) := upd_same
      have ew := s11 _ _ ew
      have dR := dp_same (mask_same s11) _ _ dR
      have d1 := dp_same (mask_same s11) _ _ d1
      have P11 := P10.same s11
      generalize upd H10 c (.lst [.str "answers", .str "lengths", .str "loads"]) = H11 at *
      refine ⟨_, rfl, wl, [(k0 : Int), (k1 : Int)], rfl, SqL.of ew, by show 0 < 2; decide, fun mn hmn hle => ?_⟩
      have hmn' : mn = (k0 : Int) ∨ mn = (k1 : Int) := by simpa using hmn
      obtain ⟨kn, rfl⟩ : ∃ k : Nat, mn = (k : Int) := ⟨mn.toNat, by omega⟩
      have le0 := hle (k0 : Int) (by simp)
      have le1 := hle (k1 : Int) (by simp)
      refine ⟨c, _, _, .str (dueS kn), rfl, rfl, SqL.of ec, due_at kn (by omega), ?_⟩
      have kin : ∀ k, k ∈ [k0, k1] ↔ k = k0 ∨ k = k1 := fun k => by simp
      have fa : okAns da = false ↔ 0 ∈ [k0, k1] := by
        refine ⟨fun h => Classical.byContradiction fun n0 => ?_, ba⟩
        have e : some da = some (PyData.list (sayD says)) := (ga n0).symm
        cases e
        rw [o1] at h; cases h
      have fl : okLens dl = false ↔ 1 ∈ [k0, k1] := by
        refine ⟨fun h => Classical.byContradiction fun n0 => ?_, bl⟩
        have e : some dl = some (PyData.list (sizD sizes)) := (gl n0).symm
        cases e
        rw [o2] at h; cases h
      have fo : okLoads do_ = false ↔ 2 ∈ [k0, k1] := by
        refine ⟨fun h => Classical.byContradiction fun n0 => ?_, bo⟩
        have e : some do_ = some (PyData.list (loaD loads)) := (go n0).symm
        cases e
        rw [o3] at h; cases h
      rw [kin] at fa fl fo
      have na : okAns da = true ↔ ¬ (0 = k0 ∨ 0 = k1) := by rw [← fa]; cases okAns da <;> simp
      have nl : okLens dl = true ↔ ¬ (1 = k0 ∨ 1 = k1) := by rw [← fl]; cases okLens dl <;> simp
      have no : okLoads do_ = true ↔ ¬ (2 = k0 ∨ 2 = k1) := by rw [← fo]; cases okLoads do_ <;> simp
      refine ⟨_, rfl, [p, q], .ref D, da, dl, do_, rfl, P11.alive, dR, za, zl, zo, fun e1 e2 e3 => ?_, fun e1 H12 s12 => ?_, fun e1 e2 H12 s12 => ?_, fun e1 e2 e3 H12 s12 => ?_⟩
      · have := na.mp e1
        have := nl.mp e2
        have := no.mp e3
        omega
      · have hk : kn = 0 := by have := fa.mp e1; omega
        rw [hk, show dueS 0 = "answers" from rfl]
        refine ⟨_, rfl, .str _, .str _, .str _, rfl, .str _, .str _, by simp only [dp], fun H13 s13 => ⟨_, rfl, iteF ?_⟩⟩
        have s13 := s12.trans s13
        refine ⟨_, rfl, [p, q], .ref r, _, _, _, rfl, (P11.same s13).alive, dp_same (mask_same s13) _ _ d1, sz_says g.l1, sz_sizes g.l2, sz_loads g.l3 g.o, fun _ _ _ x14 H14 s14 hC => ?_, fun e => absurd e (by rw [o1]; decide), fun _ e => absurd e (by rw [o2]; decide), fun _ _ e => absurd e (by rw [o3]; decide)⟩
        have hC : ContAt K [p, q] H14 C x14 (sayD says) (sizD sizes) (loaD loads) := by rw [← tup_loads loads]; exact hC
        refine ⟨_, rfl, [p, q], _, .ref r, .list (sayD says), .list (sizD sizes), .list (loaD loads), rfl, hC, dp_free (dp_same (mask_same (s13.trans s14)) _ _ d1), rfl, rfl, rfl, kU.1, kU.2.1, kU.2.2.1, kU.2.2.2.1, kU.2.2.2.2.1, kU.2.2.2.2.2, fun H15 s15 => ⟨_, rfl, iteF ?_⟩⟩
        exact ⟨_, _, _, _, _, _, m, rfl, by omega, P11.same ((s13.trans s14).trans s15)⟩
      · have hk : kn = 1 := by have := na.mp e1; have := fl.mp e2; omega
        rw [hk, show dueS 1 = "lengths" from rfl]
        refine ⟨_, rfl, .str _, .str _, .str _, rfl, .str _, .str _, by simp only [dp], fun H13 s13 => ⟨_, rfl, iteF ?_⟩⟩
        have s13 := s12.trans s13
        refine ⟨_, rfl, [p, q], .ref r, _, _, _, rfl, (P11.same s13).alive, dp_same (mask_same s13) _ _ d1, sz_says g.l1, sz_sizes g.l2, sz_loads g.l3 g.o, fun _ _ _ x14 H14 s14 hC => ?_, fun e => absurd e (by rw [o1]; decide), fun _ e => absurd e (by rw [o2]; decide), fun _ _ e => absurd e (by rw [o3]; decide)⟩
        have hC : ContAt K [p, q] H14 C x14 (sayD says) (sizD sizes) (loaD loads) := by rw [← tup_loads loads]; exact hC
        refine ⟨_, rfl, [p, q], _, .ref r, .list (sayD says), .list (sizD sizes), .list (loaD loads), rfl, hC, dp_free (dp_same (mask_same (s13.trans s14)) _ _ d1), rfl, rfl, rfl, kU.1, kU.2.1, kU.2.2.1, kU.2.2.2.1, kU.2.2.2.2.1, kU.2.2.2.2.2, fun H15 s15 => ⟨_, rfl, iteF ?_⟩⟩
        exact ⟨_, _, _, _, _, _, m, rfl, by omega, P11.same ((s13.trans s14).trans s15)⟩
      · have hk : kn = 2 := by have := na.mp e1; have := nl.mp e2; have := fo.mp e3; omega
        rw [hk, show dueS 2 = "loads" from rfl]
        refine ⟨_, rfl, .str _, .str _, .str _, rfl, .str _, .str _, by simp only [dp], fun H13 s13 => ⟨_, rfl, iteF ?_⟩⟩
        have s13 := s12.trans s13
        refine ⟨_, rfl, [p, q], .ref r, _, _, _, rfl, (P11.same s13).alive, dp_same (mask_same s13) _ _ d1, sz_says g.l1, sz_sizes g.l2, sz_loads g.l3 g.o, fun _ _ _ x14 H14 s14 hC => ?_, fun e => absurd e (by rw [o1]; decide), fun _ e => absurd e (by rw [o2]; decide), fun _ _ e => absurd e (by rw [o3]; decide)⟩
        have hC : ContAt K [p, q] H14 C x14 (sayD says) (sizD sizes) (loaD loads) := by rw [← tup_loads loads]; exact hC
        refine ⟨_, rfl, [p, q], _, .ref r, .list (sayD says), .list (sizD sizes), .list (loaD loads), rfl, hC, dp_free (dp_same (mask_same (s13.trans s14)) _ _ d1), rfl, rfl, rfl, kU.1, kU.2.1, kU.2.2.1, kU.2.2.2.1, kU.2.2.2.2.1, kU.2.2.2.2.2, fun H15 s15 => ⟨_, rfl, iteF ?_⟩⟩
        exact ⟨_, _, _, _, _, _, m, rfl, by omega, P11.same ((s13.trans s14).trans s15)⟩
    rintro σ H2 ⟨y2, y3, y4, y5, y6, y7, n, rfl, _, _⟩
    exact kk H2
end
/-! ### what the top has written -/
structure FunIn (K : PySem.W.Frag) (mg : Str → Option Value) (x : Str) (st : Stmt) (f : Addr) (fd : FuncData) : Prop where
  F : Fun K x x st f fd
  m : mg x = some (.ref f)
theorem fun_in {K : PySem.W.Frag} {h : Heap} {mg : Str → Option Value} {x : Str} {st : Stmt} {f : Addr} {oc : Value} {od an : Option Addr} {osl : Array (Option Value)} {kV doc pm cdv ct : Value} (X : K.In h) (G : h.Ns mainGlobals mg)
    (a : PySem.W.nsIn K mainGlobals x = some (some (.ref f))) (l : K.lookup f = some ⟨oc, od, .func (PySem.W.fnOf x x (defArgs st) (defBody st) (defScope st) .none kV doc pm an cdv ct), osl⟩)
    (c : PySem.W.codeIn K cdv x = true) (k : PySem.W.keepIn K (.ref f) = true) : ∃ f fd, FunIn K mg x st f fd :=
  ⟨f, _, fun_mk l c k, PySem.W.mg_of X G a⟩
theorem bts_in {K : PySem.W.Frag} {h : Heap} {mg : Str → Option Value} (X : K.In h) (G : h.Ns mainGlobals mg) (z1 : PySem.W.nsIn K mainGlobals "isinstance" = some none) (z2 : PySem.W.nsIn K mainGlobals "bool" = some none) (z3 : PySem.W.nsIn K mainGlobals "str" = some none)
    (z4 : PySem.W.nsIn K mainGlobals "int" = some none) (z5 : PySem.W.nsIn K mainGlobals "list" = some none) (z6 : PySem.W.nsIn K mainGlobals "tuple" = some none) (z7 : PySem.W.nsIn K mainGlobals "len" = some none) (z8 : PySem.W.nsIn K mainGlobals "range" = some none) : Bts mg :=
  ⟨PySem.W.mg_none_of X G z1, PySem.W.mg_none_of X G z2, PySem.W.mg_none_of X G z3, PySem.W.mg_none_of X G z4, PySem.W.mg_none_of X G z5, PySem.W.mg_none_of X G z6, PySem.W.mg_none_of X G z7, PySem.W.mg_none_of X G z8⟩
theorem rais_in_top {P : Program} {K : PySem.W.Frag} {h : Heap} {mg : Str → Option Value} {n x nm q nmq qq qual txt : Str} {C QE N NQ fI cc cda : Addr} {bs bm bsq bmq : List Value} {sn snq : List Str} {sub subq : List Value} {ab abq : Bool} {col colq : Option Bool} {dd ddq : Option Addr} {k0 k1 k2 k3 k5 j0 j1 j2 j3 j5 : Option Value}
    {oc ct doc pm ccl cl : Value} {od an cdd cld : Option Addr} {osl csl ccs : Array (Option Value)} {vs : Array Value} {file : Str} {tf : Tok} {j : Nat} {mr : List (Str × Const)} {r1 r2 p0 p1 p2 p3 p4 p5 p6 p7 p8 q1 q2 q3 q4 : Pos} (X : K.In h) (G : h.Ns mainGlobals mg)
    (a1 : PySem.W.nsIn K mainGlobals n = some (some (.ref C))) (a2 : PySem.W.nsIn K mainGlobals "QuietError" = some (some (.ref QE))) (a3 : PySem.W.nsIn K mainGlobals "super" = some none)
    (l1 : K.lookup C = some (excClassObj nm q C N bs bm true sn sub ab col dd k0 k1 k2 k3 k5 "ValueError.__new__")) (l2 : K.lookup QE = some (excClassObj nmq qq QE NQ bsq bmq true snq subq abq colq ddq j0 j1 j2 j3 j5 "ValueError.__new__"))
    (b0 : bm = [.ref QE, .type "ValueError", .type "Exception", .type "BaseException", .type "object"]) (b1 : nm = n) (b2 : nmq = "QuietError")
    (iC : PySem.W.findIn K (.ref C) "__init__" = some (some (.ref fI)))
    (lf : K.lookup fI = some ⟨oc, od, .func (PySem.W.ksFn "__init__" qual (eArgs x r1 r2) (eBody x txt j p0 p1 p2 p3 p4 p5 p6 p7 p8 q1 q2 q3 q4) (eScope x mr) .none .none doc pm an (.ref cda) ct cc), osl⟩)
    (lc : K.lookup cda = some ⟨ccl, cdd, .fields vs, ccs⟩) (lcc : K.lookup cc = some ⟨cl, cld, .cell (some (.ref C)), csl⟩)
    (sa : PySem.W.findIn K (.ref C) "__setattr__" = some (some (.builtin "object.__setattr__"))) (exC : PySem.W.subIn K (.ref C) (.type "BaseException") = some true) (tyC : PySem.W.typeIn K (.ref C) = some (.type "type")) (kC : PySem.W.keepIn K (.ref C) = true)
    (noX : PySem.W.findIn K (.ref C) x = some none) (tI : PySem.W.typeIn K (.ref fI) = some (.type "function")) (cd : PySem.W.codeIn K (.ref cda) qual = true) (subC : PySem.W.mroIn K C (.ref C) = some true)
    (opq : PySem.W.nsIn K cStatics "thirdparty.any" = some none) (up : PySem.W.ks_superIn K C C "__init__" = some (some (.builtin "ValueError.__init__"))) (subV : PySem.W.subIn K (.ref C) (.type "ValueError") = some true)
    (ga : PySem.W.findIn K (.ref C) "__getattribute__" = some (some (.builtin "BaseException.__getattribute__"))) (gg : PySem.W.findIn K (.ref C) "__getattr__" = some none) (hdC : PySem.W.hasDictIn K C = true)
    (ha : PySem.W.findIn K (.ref C) "__class__" = some (some (.builtin "object.__class__"))) (hn : PySem.W.specialIn K (.builtin "object.__class__") "__get__" = some (some (.builtin "getset_descriptor.__get__"))) (htk : PySem.W.takesIn K (.builtin "object.__class__") = some true) (hm : PySem.W.mroIn K C (.type "object") = some true)
    (tyQ : PySem.W.typeIn K (.ref QE) = some (.type "type"))
    (v2 : vs[2]? = some (.str file tf)) (fl : ((P.main.file : Str) == file) = true) (tl : txt.length ≤ 1000) (ev : SupEv x txt j p0 p1 p2 p3 p4 p5 p6 p7) (top : (P.main.scope.names.lookup ("super" : Str)).isSome = false) (nx : NmOk x)
    (bd : ∀ us : List Value, us.length = 2 → bindArgs (PySem.W.ksFn "__init__" qual (eArgs x r1 r2) (eBody x txt j p0 p1 p2 p3 p4 p5 p6 p7 p8 q1 q2 q3 q4) (eScope x mr) .none .none doc pm an (.ref cda) ct cc) ⟨us, []⟩ = pure ([("self" : Str), x].zip us)) :
    ∃ C fI cc fd, RaisC P K mg n x C fI cc fd ∧ XfC K C := by
  subst b0 b1
  have hcl : PySem.W.clsIn K C = some { name := nm, bases := bs, mro := .ref C :: [.ref QE, .type "ValueError", .type "Exception", .type "BaseException", .type "object"], ns := N, qualname := q, hasDict := true, slotNames := sn, subclasses := sub, abstract := ab, collection := col, hasDel := false } := by unfold PySem.W.clsIn; rw [l1] <;> rfl
  have bdd : Binds K (PySem.W.ksFn "__init__" qual (eArgs x r1 r2) (eBody x txt j p0 p1 p2 p3 p4 p5 p6 p7 p8 q1 q2 q3 q4) (eScope x mr) .none .none doc pm an (.ref cda) ct cc) ["self", x] [] := .all bd
  have mC := PySem.W.mg_of X G a1
  refine ⟨C, fI, cc, _, ⟨nx, ?_, bdd⟩, ⟨ga, gg, exC, hdC⟩⟩
  exact ⟨mC, ⟨⟨_, _, _, _, _, _, _, _, _, _, _, _, _, _, _, l1, by rfl⟩, sa, exC, tyC, kC⟩, noX, iC, tI, ⟨_, _, _, _, _, _, _, _, _, _, _, _, _, _, _, _, _, _, _, _, _, _, _, _, _, _, _, rfl, lf, cd, tl, ev, _, _, _, _, _, _, lc, v2, fl⟩, ⟨_, _, _, lcc⟩, ⟨_, hcl⟩, subC, PySem.W.mg_none_of X G a3, top, opq, up, subV⟩
/-! ### what the top says of Contents -/
theorem mg_int {K : PySem.W.Frag} {h : Heap} {mg : Str → Option Value} {n : Str} {i : Int} {tk : Tok} (X : K.In h) (G : h.Ns mainGlobals mg) (e : PySem.W.nsIn K mainGlobals n = some (some (.int i tk))) : ∃ tk, mg n = some (.int i tk) := ⟨tk, PySem.W.mg_of X G e⟩
def SmC (K : PySem.W.Frag) (C : Addr) (m qual : Str) (i : Nat) : Prop := ∃ p g fd, SMet K C m p g ∧ Fun K m qual (co i) g fd
theorem sm_in {K : PySem.W.Frag} {C p g : Addr} {m qual : Str} {i : Nat} {rest : List Value} {oc : Value} {od an : Option Addr} {osl : Array (Option Value)} {kV doc pm cdv ct : Value}
    (at_ : PySem.W.findCls K (.ref C) (.type "type") m = some (.get (.builtin "staticmethod.__get__") (.ref p) .none (.ref C))) (rc : PySem.W.recIn K p "staticmethod" = some (.ref g :: rest)) (kp : PySem.W.keepIn K (.ref g) = true)
    (l : K.lookup g = some ⟨oc, od, .func (PySem.W.fnOf m qual (defArgs (co i)) (defBody (co i)) (defScope (co i)) .none kV doc pm an cdv ct), osl⟩) (c : PySem.W.codeIn K cdv qual = true) : SmC K C m qual i :=
  ⟨p, g, _, ⟨at_, ⟨rest, rc⟩, kp⟩, fun_mk l c kp⟩
def MtC (K : PySem.W.Frag) (C : Addr) (m qual : Str) (i : Nat) : Prop := ∃ g fd, PySem.W.findIn K (.ref C) m = some (some (.ref g)) ∧ PySem.W.isFn K (.ref g) = true ∧ Fun K m qual (co i) g fd
theorem mt_in {K : PySem.W.Frag} {C g : Addr} {m qual : Str} {i : Nat} {oc : Value} {od an : Option Addr} {osl : Array (Option Value)} {kV doc pm cdv ct : Value}
    (at_ : PySem.W.findIn K (.ref C) m = some (some (.ref g))) (fn : PySem.W.isFn K (.ref g) = true) (kp : PySem.W.keepIn K (.ref g) = true)
    (l : K.lookup g = some ⟨oc, od, .func (PySem.W.fnOf m qual (defArgs (co i)) (defBody (co i)) (defScope (co i)) .none kV doc pm an cdv ct), osl⟩) (c : PySem.W.codeIn K cdv qual = true) : MtC K C m qual i :=
  ⟨g, _, at_, fn, fun_mk l c kp⟩
/-- __init__ with its three defaults -/
def IniC (K : PySem.W.Frag) (C : Addr) : Prop := ∃ g fd, ∃ dv : List V, dv ≠ [] ∧ dv.length = 3 ∧ Mk K C g ∧ FunD K "__init__" "Contents.__init__" (defArgs (co 0)) (defBody (co 0)) (defScope (co 0)) dv [] g fd
theorem ini_in {K : PySem.W.Frag} {C g T e1 e2 e3 : Addr} {n : Nat} {oc tc : Value} {od an td : Option Addr} {osl tsl : Array (Option Value)} {kV doc pm cdv ct : Value}
    (mk : PySem.W.makesIn K C = true) (at_ : PySem.W.findIn K (.ref C) "__init__" = some (some (.ref g))) (fn : PySem.W.isFn K (.ref g) = true) (kp : PySem.W.keepIn K (.ref g) = true) (kc : PySem.W.keepIn K (.ref C) = true)
    (l : K.lookup g = some ⟨oc, od, .func (PySem.W.fnOf "__init__" "Contents.__init__" (defArgs (co 0)) (defBody (co 0)) (defScope (co 0)) (.ref T) kV doc pm an cdv ct), osl⟩) (c : PySem.W.codeIn K cdv "Contents.__init__" = true)
    (lT : K.lookup T = some ⟨tc, td, .seq #[.ref e1, .ref e2, .ref e3] n, tsl⟩) : IniC K C :=
  ⟨g, _, [.ref e1, .ref e2, .ref e3], (fun h => nomatch h), rfl, ⟨mk, at_, fn, kc⟩, ⟨_, _, _, _, _, _, _, _, _, _, rfl, l, c, .inr ⟨(fun h => nomatch h), T, _, [.ref e1, .ref e2, .ref e3], n, rfl, lT, rfl, .cons rfl (.cons rfl (.cons rfl .nil))⟩, .inl rfl⟩, kp⟩
theorem cn_in {K : PySem.W.Frag} {h : Heap} {mg : Str → Option Value} {C : Addr} (X : K.In h) (G : h.Ns mainGlobals mg) (a : PySem.W.nsIn K mainGlobals "Contents" = some (some (.ref C)))
    (pg : PySem.W.plainGet K C Str.empty = true) (hd : PySem.W.hasDictIn K C = true) (po : PySem.W.plainOver K C = true) (sa : PySem.W.findIn K (.ref C) "__setattr__" = some (some (.builtin "object.__setattr__")))
    (na : PySem.W.findIn K (.ref C) "answers" = some none) (nl : PySem.W.findIn K (.ref C) "lengths" = some none) (no : PySem.W.findIn K (.ref C) "loads" = some none)
    (rd : PySem.W.readsIn K C (.type "type") = true) (ga : PySem.W.specialIn K (.ref C) "__getattribute__" = some (some (.builtin "type.__getattribute__")))
    (ca : PySem.W.findIn K (.ref C) "__class__" = some (some (.builtin "object.__class__"))) (cn : PySem.W.specialIn K (.builtin "object.__class__") "__get__" = some (some (.builtin "getset_descriptor.__get__"))) (ct : PySem.W.takesIn K (.builtin "object.__class__") = some true) (cm : PySem.W.mroIn K C (.type "object") = some true)
    (ini : IniC K C) (mr : SmC K C "read" "Contents.read" 1) (md : MtC K C "__add__" "Contents.__add__" 2) (ml : MtC K C "__len__" "Contents.__len__" 3) (me : MtC K C "__eq__" "Contents.__eq__" 4) (ms : MtC K C "__str__" "Contents.__str__" 5) :
    ∃ C, CnIn K mg C ∧ IniC K C ∧ SmC K C "read" "Contents.read" 1 ∧ MtC K C "__add__" "Contents.__add__" 2 ∧ MtC K C "__len__" "Contents.__len__" 3 ∧ MtC K C "__eq__" "Contents.__eq__" 4 ∧ MtC K C "__str__" "Contents.__str__" 5 :=
  ⟨C, ⟨PySem.W.mg_of X G a, ⟨pg, hd, po, sa⟩, na, nl, no, ⟨rd, ga⟩, ca, cn, ct, cm⟩, ini, mr, md, ml, me, ms⟩
theorem ini_binds {K : PySem.W.Frag} {dv : List V} {g : Addr} {fd : FuncData} (h0 : dv ≠ []) (h3 : dv.length = 3) (F : FunD K "__init__" "Contents.__init__" (defArgs (co 0)) (defBody (co 0)) (defScope (co 0)) dv [] g fd) : Binds K fd ["self", "answers", "lengths", "loads"] [] := by
  obtain ⟨ds, hv, hb⟩ := F.binds1 (ps := ["self", "answers", "lengths", "loads"]) 4 3 h0 (by rw [h3]; rfl) fun T kV doc pm an cdv ct us its hu hi => by
    rw [h3] at hi
    match us, its, hu, hi with
    | [_, _, _, _], [_, _, _], _, _ => exact ⟨_, rfl, rfl⟩
  have e : dv.drop 3 = [] := List.drop_eq_nil_of_le (by omega)
  rw [e] at hv
  cases hv
  exact hb
theorem mg_ref {K : PySem.W.Frag} {h : Heap} {mg : Str → Option Value} {n : Str} {a : Addr} (X : K.In h) (G : h.Ns mainGlobals mg) (e : PySem.W.nsIn K mainGlobals n = some (some (.ref a))) : ∃ a, mg n = some (.ref a) := ⟨a, PySem.W.mg_of X G e⟩
def KitQ (K : PySem.W.Frag) (mg : Str → Option Value) (C : Addr) (b : Bool) : Prop := ∀ QE, mg "QuietError" = some (.ref QE) → PySem.W.kitOne K (.ref C) (.ref QE) = some b
theorem kit_sub {K : PySem.W.Frag} {C N : Addr} {b : Bool} (hd : PySem.W.hasDictIn K N = true) (ty : PySem.W.typeIn K (.ref N) = some (.type "type")) (self : PySem.W.subIn K (.ref C) (.ref C) = some true) (s : PySem.W.subIn K (.ref C) (.ref N) = some b) : PySem.W.kitOne K (.ref C) (.ref N) = some b := by
  obtain ⟨cd, hcd, _⟩ := PySem.W.any_some hd
  unfold PySem.W.kitOne
  by_cases e : (Value.ref C == Value.ref N) = true
  · rw [if_pos e]
    have e2 := beq_iff_eq.mp e
    rw [← e2, self] at s
    exact s
  · rw [if_neg e]
    unfold PySem.W.kitCls
    have hc : ((PySem.W.clsIn K N).isSome && PySem.W.typeIn K (.ref N) == some (.type "type")) = true := by rw [hcd, ty]; simp
    simp only [hc, if_true]
    exact s
theorem isc_in {K : PySem.W.Frag} {h : Heap} {mg : Str → Option Value} {C N QE : Addr} (X : K.In h) (G : h.Ns mainGlobals mg) (c1 : PySem.W.nsIn K mainGlobals "BadContents" = some (some (.ref C))) (c2 : PySem.W.nsIn K mainGlobals "BadName" = some (some (.ref N))) (c3 : PySem.W.nsIn K mainGlobals "QuietError" = some (some (.ref QE)))
    (cl : PySem.W.hasDictIn K C = true) (ga : PySem.W.findIn K (.ref C) "__getattribute__" = some (some (.builtin "BaseException.__getattribute__"))) (gg : PySem.W.findIn K (.ref C) "__getattr__" = some none) (ex : PySem.W.subIn K (.ref C) (.type "BaseException") = some true)
    (ha : PySem.W.findIn K (.ref C) "__class__" = some (some (.builtin "object.__class__"))) (hn : PySem.W.specialIn K (.builtin "object.__class__") "__get__" = some (some (.builtin "getset_descriptor.__get__"))) (ht : PySem.W.takesIn K (.builtin "object.__class__") = some true) (hm : PySem.W.mroIn K C (.type "object") = some true)
    (dq : PySem.W.hasDictIn K QE = true) (dn : PySem.W.hasDictIn K N = true) (tq : PySem.W.typeIn K (.ref QE) = some (.type "type")) (tn : PySem.W.typeIn K (.ref N) = some (.type "type"))
    (sc : PySem.W.subIn K (.ref C) (.ref C) = some true) (kq : PySem.W.subIn K (.ref C) (.ref QE) = some true) (kn : PySem.W.subIn K (.ref C) (.ref N) = some false) :
    ∃ C N, mg "BadContents" = some (.ref C) ∧ mg "BadName" = some (.ref N) ∧ IsC K C ∧ KitQ K mg C true ∧ PySem.W.kitOne K (.ref C) (.ref N) = some false := by
  obtain ⟨cd, hcd, _⟩ := PySem.W.any_some cl
  refine ⟨C, N, PySem.W.mg_of X G c1, PySem.W.mg_of X G c2, ⟨by rw [hcd]; rfl, ga, gg, ex, ha, hn, ht, hm⟩, fun q e => ?_, kit_sub dn tn sc kn⟩
  have := (PySem.W.mg_of X G c3).symm.trans e
  cases this
  exact kit_sub dq tq sc kq
section
variable {P : Program} {w : World} {K : PySem.W.Frag} {mg : Str → Option Value} {base : Heap}
theorem fnR0 {f : Addr} {fd : FuncData} {ps : List Str} {k : Nat} {sp : Sp} (F : FnOk P w K mg base CX0 k f fd ps sp) (b : Binds K fd ps []) : FnR P w K mg base CX0 k f sp := by
  have := F.raw b .nil
  intro A outer s H us vs Q E hr e0 r h
  exact this A outer s H us vs Q E hr e0 r (by show sp (vs ++ []) H Q E; rw [List.append_nil]; exact h)
end
end Qp
open PySem PySem.W PyProof.Rows
set_option maxRecDepth 100000 in
set_option maxHeartbeats 0 in
theorem PySem.Challenge.cw_quietprobes_k37_contents_refused_holds : PySem.Challenge.rw_quietprobes_k37_contents_refused.Holds := by
  w_on; o_law; k_head; (case hw => w_witness2)
  k_fill
  refine L2.walk_of (l := PySem.Challenge.rw_quietprobes_k37_contents_refused) (n := 63) (k := 8) (x := "script") (CX := fun _ => L2.CX0) (sp := fun w => Qp.spLaw _) rfl (by decide) rfl ⟨rfl, by decide, by decide⟩ (fun w h Y => PySem.W.kIn_of Y) ?F (fun _ _ a ns hl _ hS => ⟨a, ns, rfl, hS, hl, fun _ => rfl⟩) (fun _ _ _ _ _ h => h)
  case F =>
    intro w mg fa h KX G hmg
    obtain ⟨f1, fd1, F1⟩ : ∃ f fd, Qp.FunIn _ mg "is_int" Qp.sIsInt f fd := by
      refine' Qp.fun_in KX G ?a ?l ?c ?k
      (case a => k_is); (case l => k_is); (case c => k_is); (case k => k_is)
    obtain ⟨f2, fd2, F2⟩ : ∃ f fd, Qp.FunIn _ mg "is_name" Qp.sIsName f fd := by
      refine' Qp.fun_in KX G ?a ?l ?c ?k
      (case a => k_is); (case l => k_is); (case c => k_is); (case k => k_is)
    obtain ⟨f3, fd3, F3⟩ : ∃ f fd, Qp.FunIn _ mg "is_length" Qp.sIsLength f fd := by
      refine' Qp.fun_in KX G ?a ?l ?c ?k
      (case a => k_is); (case l => k_is); (case c => k_is); (case k => k_is)
    obtain ⟨f4, fd4, F4⟩ : ∃ f fd, Qp.FunIn _ mg "_is_list" Qp.sIsList f fd := by
      refine' Qp.fun_in KX G ?a ?l ?c ?k
      (case a => k_is); (case l => k_is); (case c => k_is); (case k => k_is)
    obtain ⟨f5, fd5, F5⟩ : ∃ f fd, Qp.FunIn _ mg "_are_answers" Qp.sAns f fd := by
      refine' Qp.fun_in KX G ?a ?l ?c ?k
      (case a => k_is); (case l => k_is); (case c => k_is); (case k => k_is)
    obtain ⟨f6, fd6, F6⟩ : ∃ f fd, Qp.FunIn _ mg "_are_lengths" Qp.sLens f fd := by
      refine' Qp.fun_in KX G ?a ?l ?c ?k
      (case a => k_is); (case l => k_is); (case c => k_is); (case k => k_is)
    obtain ⟨f7, fd7, F7⟩ : ∃ f fd, Qp.FunIn _ mg "_are_loads" Qp.sLoads f fd := by
      refine' Qp.fun_in KX G ?a ?l ?c ?k
      (case a => k_is); (case l => k_is); (case c => k_is); (case k => k_is)
    obtain ⟨f8, fd8, F8⟩ : ∃ f fd, Qp.FunIn _ mg "_is_load" Qp.sLoad f fd := by
      refine' Qp.fun_in KX G ?a ?l ?c ?k
      (case a => k_is); (case l => k_is); (case c => k_is); (case k => k_is)
    obtain ⟨f9, fd9, F9⟩ : ∃ f fd, Qp.FunIn _ mg "_law_pool" Qp.sPool f fd := by
      refine' Qp.fun_in KX G ?a ?l ?c ?k
      (case a => k_is); (case l => k_is); (case c => k_is); (case k => k_is)
    obtain ⟨f10, fd10, F10⟩ : ∃ f fd, Qp.FunIn _ mg "_law_draw" Qp.sDraw f fd := by
      refine' Qp.fun_in KX G ?a ?l ?c ?k
      (case a => k_is); (case l => k_is); (case c => k_is); (case k => k_is)
    obtain ⟨f11, fd11, F11⟩ : ∃ f fd, Qp.FunIn _ mg "_law_names" Qp.sLNames f fd := by
      refine' Qp.fun_in KX G ?a ?l ?c ?k
      (case a => k_is); (case l => k_is); (case c => k_is); (case k => k_is)
    obtain ⟨f12, fd12, F12⟩ : ∃ f fd, Qp.FunIn _ mg "_law_odd" Qp.sOdd f fd := by
      refine' Qp.fun_in KX G ?a ?l ?c ?k
      (case a => k_is); (case l => k_is); (case c => k_is); (case k => k_is)
    obtain ⟨f13, fd13, F13⟩ : ∃ f fd, Qp.FunIn _ mg "_law_triple" Qp.sTriple f fd := by
      refine' Qp.fun_in KX G ?a ?l ?c ?k
      (case a => k_is); (case l => k_is); (case c => k_is); (case k => k_is)
    obtain ⟨f14, fd14, F14⟩ : ∃ f fd, Qp.FunIn _ mg "_law_same" Qp.sSame f fd := by
      refine' Qp.fun_in KX G ?a ?l ?c ?k
      (case a => k_is); (case l => k_is); (case c => k_is); (case k => k_is)
    obtain ⟨f15, fd15, F15⟩ : ∃ f fd, Qp.FunIn _ mg "_law_has" Qp.sHas f fd := by
      refine' Qp.fun_in KX G ?a ?l ?c ?k
      (case a => k_is); (case l => k_is); (case c => k_is); (case k => k_is)
    obtain ⟨f16, fd16, F16⟩ : ∃ f fd, Qp.FunIn _ mg "_law_tried" Qp.sTried f fd := by
      refine' Qp.fun_in KX G ?a ?l ?c ?k
      (case a => k_is); (case l => k_is); (case c => k_is); (case k => k_is)
    obtain ⟨f17, fd17, F17⟩ : ∃ f fd, Qp.FunIn _ mg "_law_wrong_member" Qp.sWrongM f fd := by
      refine' Qp.fun_in KX G ?a ?l ?c ?k
      (case a => k_is); (case l => k_is); (case c => k_is); (case k => k_is)
    obtain ⟨f18, fd18, F18⟩ : ∃ f fd, Qp.FunIn _ mg "_law_spoilt" Qp.sSpoilt f fd := by
      refine' Qp.fun_in KX G ?a ?l ?c ?k
      (case a => k_is); (case l => k_is); (case c => k_is); (case k => k_is)
    obtain ⟨f19, fd19, F19⟩ : ∃ f fd, Qp.FunIn _ mg "law" Qp.sLaw f fd := by
      refine' Qp.fun_in KX G ?a ?l ?c ?k
      (case a => k_is); (case l => k_is); (case c => k_is); (case k => k_is)
    have B : Qp.Bts mg := by
      refine' Qp.bts_in KX G ?z1 ?z2 ?z3 ?z4 ?z5 ?z6 ?z7 ?z8
      (case z1 => k_is); (case z2 => k_is); (case z3 => k_is); (case z4 => k_is); (case z5 => k_is); (case z6 => k_is); (case z7 => k_is); (case z8 => k_is)
    have mA : mg "all" = none := by
      refine' PySem.W.mg_none_of KX G ?zA
      (case zA => k_is)
    obtain ⟨tmLN, mLN⟩ : ∃ tk, mg "LONGEST_NAME" = some (.int 8 tk) := by
      refine' Qp.mg_int KX G ?z
      (case z => k_is)
    obtain ⟨tmLR, mLR⟩ : ∃ tk, mg "LONGEST_ROW" = some (.int 1000000000000000000000000000000 tk) := by
      refine' Qp.mg_int KX G ?z
      (case z => k_is)
    obtain ⟨tmMM, mMM⟩ : ∃ tk, mg "MOST_MEMBERS" = some (.int 1000 tk) := by
      refine' Qp.mg_int KX G ?z
      (case z => k_is)
    obtain ⟨tmMN, mMN⟩ : ∃ tk, mg "MOST_NAMES" = some (.int 100 tk) := by
      refine' Qp.mg_int KX G ?z
      (case z => k_is)
    have mMin : mg "min" = none := by
      refine' PySem.W.mg_none_of KX G ?zM
      (case zM => k_is)
    obtain ⟨QE, mQE⟩ : ∃ a, mg "QuietError" = some (.ref a) := by
      refine' Qp.mg_ref KX G ?z
      (case z => k_is)
    obtain ⟨BC, BN, mBC, mBN, iB, kQ, kN⟩ : ∃ C N, mg "BadContents" = some (.ref C) ∧ mg "BadName" = some (.ref N) ∧ Qp.IsC _ C ∧ Qp.KitQ _ mg C true ∧ PySem.W.kitOne _ (.ref C) (.ref N) = some false := by
      refine' Qp.isc_in KX G ?c1 ?c2 ?c3 ?cl ?ga ?gg ?ex ?ha ?hn ?ht ?hm ?dq ?dn ?tq ?tn ?sc ?kq ?kn
      (case c1 => k_is); (case c2 => k_is); (case c3 => k_is); (case cl => k_is); (case ga => k_is); (case gg => k_is); (case ex => k_is); (case ha => k_is); (case hn => k_is); (case ht => k_is); (case hm => k_is); (case dq => k_is); (case dn => k_is); (case tq => k_is); (case tn => k_is); (case sc => k_is); (case kq => k_is); (case kn => k_is)
    obtain ⟨C, T, ⟨fI, fdI, dv, d0, d3, MK, FI⟩, ⟨pRd, gRd, fdRd, SMRd, FRd⟩, ⟨gA, fdA, aA, iA, FA⟩, ⟨gLn, fdLn, aLn, iLn, FLn⟩, ⟨gE, fdE, aE, iE, FE⟩, ⟨gS, fdS, aS, iS, FS⟩⟩ : ∃ C, Qp.CnIn _ mg C ∧ Qp.IniC _ C ∧ Qp.SmC _ C "read" "Contents.read" 1 ∧ Qp.MtC _ C "__add__" "Contents.__add__" 2 ∧ Qp.MtC _ C "__len__" "Contents.__len__" 3 ∧ Qp.MtC _ C "__eq__" "Contents.__eq__" 4 ∧ Qp.MtC _ C "__str__" "Contents.__str__" 5 := by
      refine' Qp.cn_in KX G ?a ?pg ?hd ?po ?sa ?na ?nl ?no ?rd ?ga ?ca ?cn ?ct ?cm ?ini ?mr ?md ?ml ?me ?ms
      (case a => k_is); (case pg => k_is); (case hd => k_is); (case po => k_is); (case sa => k_is); (case na => k_is); (case nl => k_is); (case no => k_is); (case rd => k_is); (case ga => k_is); (case ca => k_is); (case cn => k_is); (case ct => k_is); (case cm => k_is)
      (case ini => (refine' Qp.ini_in ?i_mk ?i_at ?i_fn ?i_kp ?i_kc ?i_l ?i_c ?i_T; (case i_mk => k_is); (case i_at => k_is); (case i_fn => k_is); (case i_kp => k_is); (case i_kc => k_is); (case i_l => k_is); (case i_c => k_is); (case i_T => k_is)))
      (case mr => (refine' Qp.sm_in ?r_a ?r_r ?r_k ?r_l ?r_c; (case r_a => k_is); (case r_r => k_is); (case r_k => k_is); (case r_l => k_is); (case r_c => k_is)))
      (case md => (refine' Qp.mt_in ?d_a ?d_f ?d_k ?d_l ?d_c; (case d_a => k_is); (case d_f => k_is); (case d_k => k_is); (case d_l => k_is); (case d_c => k_is)))
      (case ml => (refine' Qp.mt_in ?l_a ?l_f ?l_k ?l_l ?l_c; (case l_a => k_is); (case l_f => k_is); (case l_k => k_is); (case l_l => k_is); (case l_c => k_is)))
      (case me => (refine' Qp.mt_in ?e_a ?e_f ?e_k ?e_l ?e_c; (case e_a => k_is); (case e_f => k_is); (case e_k => k_is); (case e_l => k_is); (case e_c => k_is)))
      (case ms => (refine' Qp.mt_in ?s_a ?s_f ?s_k ?s_l ?s_c; (case s_a => k_is); (case s_f => k_is); (case s_k => k_is); (case s_l => k_is); (case s_c => k_is)))
    obtain ⟨BC2, fB, cB, fdB, RB, xB⟩ : ∃ C fI cc fd, Qp.RaisC PySem.Challenge.rw_quietprobes_k37_contents_refused.prog _ mg "BadContents" "part" C fI cc fd ∧ L2.XfC _ C := by
      refine' Qp.rais_in_top KX G ?a1 ?a2 ?a3 ?l1 ?l2 ?b0 ?b1 ?b2 ?iC ?lf ?lc ?lcc ?sa ?exC ?tyC ?kC ?noX ?tI ?cd ?subC ?opq ?up ?subV ?ga ?gg ?hdC ?ha ?hn ?htk ?hm ?tyQ ?v2 ?fl ?tl ?ev ?top ?nx ?bd
      (case a1 => k_is); (case a2 => k_is); (case a3 => k_is); (case l1 => k_is); (case l2 => k_is); (case b0 => exact rfl); (case b1 => exact rfl); (case b2 => exact rfl); (case iC => k_is); (case lf => k_is); (case lc => k_is); (case lcc => k_is)
      (case sa => k_is); (case exC => k_is); (case tyC => k_is); (case kC => k_is); (case noX => k_is); (case tI => k_is); (case cd => k_is); (case subC => k_is); (case opq => k_is); (case up => ks_is); (case subV => k_is); (case ga => k_is); (case gg => k_is); (case hdC => k_is); (case ha => k_is); (case hn => k_is); (case htk => k_is); (case hm => k_is); (case tyQ => k_is)
      (case v2 => exact rfl); (case fl => exact rfl); (case tl => decide +kernel); (case ev => exact fun env => ⟨_, rfl⟩); (case top => exact rfl); (case nx => exact ⟨by decide, by decide, by decide, by decide, by decide⟩); (case bd => exact fun us hl => match us, hl with | [_, _], _ => rfl)
    have b1 := F1.F.binds (ps := ["thing"]) fun _ _ _ _ _ _ us hl => match us, hl with | [_], _ => rfl
    have b2 := F2.F.binds (ps := ["thing"]) fun _ _ _ _ _ _ us hl => match us, hl with | [_], _ => rfl
    have b3 := F3.F.binds (ps := ["given"]) fun _ _ _ _ _ _ us hl => match us, hl with | [_], _ => rfl
    have b4 := F4.F.binds (ps := ["given", "most"]) fun _ _ _ _ _ _ us hl => match us, hl with | [_, _], _ => rfl
    have b5 := F5.F.binds (ps := ["answers"]) fun _ _ _ _ _ _ us hl => match us, hl with | [_], _ => rfl
    have b6 := F6.F.binds (ps := ["lengths"]) fun _ _ _ _ _ _ us hl => match us, hl with | [_], _ => rfl
    have b7 := F7.F.binds (ps := ["loads"]) fun _ _ _ _ _ _ us hl => match us, hl with | [_], _ => rfl
    have b8 := F8.F.binds (ps := ["load"]) fun _ _ _ _ _ _ us hl => match us, hl with | [_], _ => rfl
    have b9 := F9.F.binds (ps := ["script"]) fun _ _ _ _ _ _ us hl => match us, hl with | [_], _ => rfl
    have b10 := F10.F.binds (ps := ["pool", "many"]) fun _ _ _ _ _ _ us hl => match us, hl with | [_, _], _ => rfl
    have b11 := F11.F.binds (ps := ["pool", "many"]) fun _ _ _ _ _ _ us hl => match us, hl with | [_, _], _ => rfl
    have b12 := F12.F.binds (ps := ["pool"]) fun _ _ _ _ _ _ us hl => match us, hl with | [_], _ => rfl
    have b13 := F13.F.binds (ps := ["pool", "most"]) fun _ _ _ _ _ _ us hl => match us, hl with | [_, _], _ => rfl
    have b14 := F14.F.binds (ps := ["actual", "due"]) fun _ _ _ _ _ _ us hl => match us, hl with | [_, _], _ => rfl
    have b15 := F15.F.binds (ps := ["contents", "triple"]) fun _ _ _ _ _ _ us hl => match us, hl with | [_, _], _ => rfl
    have b16 := F16.F.binds (ps := ["rows"]) fun _ _ _ _ _ _ us hl => match us, hl with | [_], _ => rfl
    have b17 := F17.F.binds (ps := ["pool", "part"]) fun _ _ _ _ _ _ us hl => match us, hl with | [_, _], _ => rfl
    have b18 := F18.F.binds (ps := ["pool", "part", "row"]) fun _ _ _ _ _ _ us hl => match us, hl with | [_, _, _], _ => rfl
    have bI := Qp.ini_binds d0 d3 FI
    have bLn := FLn.binds (ps := ["self"]) fun _ _ _ _ _ _ us hl => match us, hl with | [_], _ => rfl
    have eBC : some (Value.ref BC) = some (Value.ref BC2) := mBC.symm.trans RB.T.gC
    cases eBC
    have kQE := kQ QE mQE
    have e := hmg.symm.trans F19.m
    cases e
    obtain ⟨oc, od, kV, doc, pm, an, cdv, ct, osl, rfl, lk, hcd⟩ := F19.F.ex
    refine ⟨_, fun s v => .of_eq rfl, fun base _ _ => Qp.ok_law F19.F ?_⟩
    have gInt := Qp.ok_isint (P := PySem.Challenge.rw_quietprobes_k37_contents_refused.prog) (w := w) (mg := mg) (base := base) (k := 0) F1.F B
    have gNm := Qp.ok_isname (P := PySem.Challenge.rw_quietprobes_k37_contents_refused.prog) (w := w) (mg := mg) (base := base) (k := 0) F2.F B mLN
    have gLen := Qp.ok_islen F3.F gInt F1.m F1.F.kp b1 mLR
    have gLi := Qp.ok_islist (P := PySem.Challenge.rw_quietprobes_k37_contents_refused.prog) (w := w) (mg := mg) (base := base) (k := 0) F4.F B
    have gAns := Qp.ok_ans F5.F B mA gLi F4.m F4.F.kp b4 mMM
    have gLens := Qp.ok_lens F6.F B mA gLi F4.m F4.F.kp b4 gLen F3.m F3.F.kp b3 mMM
    have gLoad := Qp.ok_load F8.F B mA gLi F4.m F4.F.kp b4 gNm F2.m F2.F.kp b2 mMN
    have gLoads := Qp.ok_loads F7.F B mA gLi F4.m F4.F.kp b4 gLoad F8.m F8.F.kp b8 mMM
    have GI := Qp.ok_cinit T FI B RB gAns F5.m F5.F.kp b5 gLens F6.m F6.F.kp b6 gLoads F7.m F7.F.kp b7
    have LN : Qp.CnLen _ w _ mg base C gLn := ⟨aLn, iLn, Qp.fnR0 (Qp.ok_clen (P := PySem.Challenge.rw_quietprobes_k37_contents_refused.prog) (w := w) (mg := mg) (base := base) (k := 0) T FLn B) bLn⟩
    have gP := Qp.ok_pool (P := PySem.Challenge.rw_quietprobes_k37_contents_refused.prog) (w := w) (mg := mg) (base := base) (k := 0) F9.F B.list
    have gD := Qp.ok_draw (P := PySem.Challenge.rw_quietprobes_k37_contents_refused.prog) (w := w) (mg := mg) (base := base) (k := 0) F10.F B.int
    have gL := Qp.ok_lnames F11.F gD F10.m F10.F.kp b10 B.range
    have gO := Qp.ok_odd F12.F gD F10.m F10.F.kp b10
    have gT := Qp.ok_triple F13.F B gD F10.m F10.F.kp b10 gL F11.m F11.F.kp b11
    have gS := Qp.ok_same (P := PySem.Challenge.rw_quietprobes_k37_contents_refused.prog) (w := w) (mg := mg) (base := base) F14.F B F14.m b14 6
    have gH := Qp.ok_has T LN F15.F B gS F14.m F14.F.kp b14
    have gTr := Qp.ok_tried T MK F16.F B RB xB iB GI bI mQE mBN kQE kN
    have gW := Qp.ok_wrong F17.F B gD F10.m F10.F.kp b10 gL F11.m F11.F.kp b11 gO F12.m F12.F.kp b12
    have gSp := Qp.ok_spoilt F18.F B gD F10.m F10.F.kp b10 gW F17.m F17.F.kp b17
    exact { B := B, mmin := mMin, C := C,
             fP := f9, fdP := fd9, GP := gP, mP := F9.m, kP := F9.F.kp, bP := b9,
             fD := f10, fdD := fd10, GD := gD, mD := F10.m, kD := F10.F.kp, bD := b10,
             fT := f13, fdT := fd13, GT := gT, mT := F13.m, kT := F13.F.kp, bT := b13,
             fS := f14, fdS := fd14, GS := gS, mS := F14.m, kS := F14.F.kp, bS := b14,
             fH := f15, fdH := fd15, GH := gH, mH := F15.m, kH := F15.F.kp, bH := b15,
             fTr := f16, fdTr := fd16, GTr := gTr, mTr := F16.m, kTr := F16.F.kp, bTr := b16,
             fSp := f18, fdSp := fd18, GSp := gSp, mSp := F18.m, kSp := F18.F.kp, bSp := b18 }
