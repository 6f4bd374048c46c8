import PyProof.Rows.All
import Wide.All
import OpenK.AllK
import Wide.FinOn
import KE.KExcSuper
import KE.KExcIs
import KE.RegKSuper
import KE.GoesMore
import HandS.ForMost
import HandS.EndBits
import HandS.Wide
import HandS.Star
import HandS.IsInst
import HandS.Codes
import HandS.More
import HandS.StrMore
import HandS.ClsMeth
import HandS.SlotsOwn
import HandS.Steps
import HandS.Walk
import HandS.FStrTup
import HandS.FStr
import HandS.ExcInit
import HandS.ExcField
import HandS.ExcIs
import HandS.ExcOwn
import HandS.WordsExc
import PySem.Challenge.RW_quietprobes_k02_tables_and_their_keys
set_option Elab.async false
set_option maxRecDepth 100000
set_option maxHeartbeats 4000000
set_option linter.all false
namespace Qp
open PySem L2
def top (i : Nat) : Stmt := PySem.Challenge.pw_quietprobes_k02_tables_and_their_keys.main.body.getD i (.Pass ⟨0, 0, 0, 0⟩)
abbrev sBN : Stmt := top 2
abbrev sTW : Stmt := top 3
abbrev sTM : Stmt := top 4
abbrev sIsName : Stmt := top 7
abbrev sNames : Stmt := top 8
abbrev sUnlike : Stmt := top 9
abbrev sCls : Stmt := top 12
abbrev sLIN : Stmt := top 14
abbrev sPool : Stmt := top 15
abbrev sDraw : Stmt := top 16
abbrev sWord : Stmt := top 17
abbrev sObj : Stmt := top 18
abbrev sSame : Stmt := top 19
abbrev sCall : Stmt := top 20
abbrev sTry : Stmt := top 21
abbrev sDue : Stmt := top 22
abbrev sLaw : Stmt := top 23
abbrev me (i : Nat) : Stmt := (C8.clsBody sCls).getD i (.Pass ⟨0, 0, 0, 0⟩)
/-! ### the pool of drawn numbers -/
/-- all objects but the two of the pool stay -/
def Keeps (p q : Addr) (H H' : Hp) : Prop := ∀ x o, x ≠ p → x ≠ q → H x = some o → H' x = some o
theorem Keeps.refl (p q : Addr) (H : Hp) : Keeps p q H H := fun _ _ _ _ e => e
theorem Keeps.trans {p q : Addr} {H H1 H2 : Hp} (a : Keeps p q H H1) (b : Keeps p q H1 H2) : Keeps p q H H2 := fun x o h1 h2 e => b x o h1 h2 (a x o h1 h2 e)
theorem Keeps.of_same {p q : Addr} {H H1 : Hp} (a : Same H H1) : Keeps p q H H1 := fun x o _ _ e => a x o e
theorem Keeps.upd_p {p q : Addr} {H : Hp} {o : HO} : Keeps p q H (upd H p o) := fun x u h1 _ e => by
  rw [upd_ne h1]; exact e
theorem Keeps.upd_q {p q : Addr} {H : Hp} {o : HO} : Keeps p q H (upd H q o) := fun x u _ h2 e => by
  rw [upd_ne h2]; exact e
theorem Keeps.upd_new {p q a : Addr} {H : Hp} {o : HO} (n : H a = none) : Keeps p q H (upd H a o) := fun x u _ _ e => by
  rw [upd_ne (ne_of_none e n)]; exact e
theorem Keeps.free {p q a : Addr} {H H1 : Hp} (k : Keeps p q H H1) (n : H1 a = none) (hp : a ≠ p) (hq : a ≠ q) : H a = none := by
  cases e : H a with
  | none => rfl
  | some o => rw [k a o hp hq e] at n; cases n
/-- the pool's two lists: how many numbers were drawn is n -/
structure PoolAt (H : Hp) (p q : Addr) (n : Nat) : Prop where
  ne : p ≠ q
  ex : ∃ (cs : List Int) (b c : Int), H p = some (.lst [.ref q, .int b, .int (n : Int), .int c]) ∧ H q = some (.lst (cs.map V.int)) ∧ cs.length ≤ 1000 ∧ 0 ≤ b ∧ 0 ≤ c ∧ c < 2147483629
theorem PoolAt.p_some {H : Hp} {p q : Addr} {n : Nat} (h : PoolAt H p q n) : ∃ o, H p = some o := let ⟨_, _, _, e, _⟩ := h.ex; ⟨_, e⟩
theorem PoolAt.q_some {H : Hp} {p q : Addr} {n : Nat} (h : PoolAt H p q n) : ∃ o, H q = some o := let ⟨_, _, _, _, e, _⟩ := h.ex; ⟨_, e⟩
theorem PoolAt.same {H H' : Hp} {p q : Addr} {n : Nat} (h : PoolAt H p q n) (s : Same H H') : PoolAt H' p q n := by
  obtain ⟨ne, cs, b, c, e1, e2, r⟩ := h
  exact ⟨ne, cs, b, c, s _ _ e1, s _ _ e2, r⟩
theorem PoolAt.new {H : Hp} {p q a : Addr} {n : Nat} {o : HO} (h : PoolAt H p q n) (na : H a = none) : PoolAt (upd H a o) p q n :=
  h.same fun x u e => by rw [upd_ne (ne_of_none e na)]; exact e
section
variable {X : Cx}
theorem get_list : PGet X (rIxL X.K) := by
  intro pins s σ H o i ov iv Q I ro ri h
  obtain ⟨p, xs, k, z, rfl, rfl, hq, he, q⟩ := h
  cases ro
  obtain ⟨t, rfl⟩ := ri
  obtain ⟨its, r, pl, hz⟩ := I.list hq
  obtain ⟨j, h1, h2, h3, h4, h5⟩ := atI_get he
  obtain ⟨w, ew, rw'⟩ := r.get h2
  have hl := r.length
  have hn := line63
  have fin : EP X pins σ Q w s := ⟨z, H, I, rw', q⟩
  by_cases h0 : 0 ≤ k
  · have hj : k.toNat = j := by
      rw [seqIndex_of h0 h5] at h1
      exact Option.some.inj h1
    exact wpAny_getItem_list pl.isList h0 (by omega) (by rw [hj]; simpa using ew) fin
  · have hj : (k + (its.toArray.size : Int)).toNat = j := by
      rw [seqIndex_neg (by omega) h4] at h1
      rw [List.size_toArray, ← hl]
      exact Option.some.inj h1
    exact wpAny_getItem_list_neg pl.isList (by omega) (by rw [List.size_toArray] <;> omega) (by omega) (by rw [hj]; simpa using ew) fin
end
theorem div_many {b m : Int} (h0 : 0 < m) (h1 : m ≤ 10 ^ 40) : CDivW b m := by
  refine wide_div (b := 200) h0 ?_ (by decide) (by decide)
  have h : m.natAbs ≤ 10 ^ 40 := by omega
  exact Nat.lt_of_le_of_lt h (by decide)
def spDraw : Sp := fun vs H Q _ => ∃ (p q : Addr) (n : Nat) (m : Int), vs = [.ref p, .int m] ∧ PoolAt H p q n ∧ n < 1000000 ∧ 0 < m ∧ m ≤ 10 ^ 40 ∧
  ∀ (d : Int) (H' : Hp), 0 ≤ d → d < m → PoolAt H' p q (n + 1) → Keeps p q H H' → Q (.int d) H'
section
variable {P : Program} {w : World} {K : PySem.W.Frag} {mg : Str → Option Value} {base : Heap}
theorem scD : FnScope ["pool", "many", "cell", "code", "digit", "far", "mixed"] ["pool", "many"] (defScope sDraw) := ⟨rfl, rfl, rfl, by decide +kernel, rfl, by decide +kernel, by decide +kernel⟩
theorem ok_draw {f : Addr} {fd : FuncData} {k : Nat} (F : Fun K "_law_draw" "_law_draw" sDraw f fd) (mi : mg "int" = none) : FnOk P w K mg base CX0 (k + 1) f fd ["pool", "many"] spDraw := by
  refine F.ok scD (fun vs H Q E h => ?_) (fun cdv A outer s H vs Q E hr h => ?_)
  · obtain ⟨p, q, n, m, rfl, _⟩ := h
    rfl
  · obtain ⟨p, q, n, m, rfl, ⟨npq, cs, b, c, hp, hq, hcs, hb, hc0, hc1⟩, hn, hm0, hm1, kk⟩ := h
    refine ⟨_,
      pss_cons (ps_augS (pv 0) pe_int get_list pe_int ip_add set_list)
      (C8.pss_cut (ps_if (PW.pt (pw_and (pt_cmpR op_eq (pe_ix ix_list (pv 0) pe_int (fun _ _ => rfl)) pe_int (nomark _)) (pw_and1 (pt_truth (pe_ix ix_list (pv 0) pe_int (fun _ _ => rfl)) (by intro _; rfl)))))
        (pss_cons (ps_set (i := 2) scD.nd rfl (.inl rfl) (pe_callTy call_int1 (by rfl) mi (by decide +kernel) (pa_cons (pe_bm PySem.F.plainAttrs_list PySem.F.slot_list_pop PySem.F.type_list_pop mt_popAt (pe_ix ix_list (pv 0) pe_int (fun _ _ => rfl)) (pa_cons pe_int pa_nil)) pa_nil)))
        (C8.pss_cut (ps_set (i := 3) scD.nd rfl (.inl rfl) (pe_ifExp (pt_cmpR op_ge (pv 2) pe_int (nomark _)) (pe_op op_mul pe_int (pv 2)) (pe_op op_sub (pe_un un_neg pe_int) (pe_op op_mul pe_int (pv 2)))))
        (pss_one (ps_if (pt_cmpR op_ge (pv 3) (pe_op op_pow pe_int pe_int) (nomark _))
          (pss_one (ps_asg (pv 3) (pg_sub (pv 0) pe_int set_list)))
          (pss_one (ps_asg (pe_op op_mod (pe_callTy call_int1 (by rfl) mi (by decide +kernel) (pa_cons (pe_op op_add (pe_op op_add (pe_op op_mul (pe_ix ix_list (pv 0) pe_int (fun _ _ => rfl)) pe_int) (pe_op op_mul (pv 3) pe_int)) pe_int) pa_nil)) pe_int) (pg_sub (pv 0) pe_int set_list)))))))
        pss_nil)
      (pss_cons (ps_if (pt_cmpR op_gt (pe_ix ix_list (pv 0) pe_int (fun _ _ => rfl)) pe_int (nomark _))
        (pss_cons (ps_set (i := 4) scD.nd rfl (.inl rfl) (pe_op op_mod (pe_callTy call_int1 (by rfl) mi (by decide +kernel) (pa_cons (pe_ix ix_list (pv 0) pe_int (fun _ _ => rfl)) pa_nil)) (pv 1)))
        (pss_cons (ps_asg (pe_op op_fdivW (pe_ix ix_list (pv 0) pe_int (fun _ _ => rfl)) (pv 1)) (pg_sub (pv 0) pe_int set_list))
        (pss_one (ps_ret (pv 4)))))
        pss_nil)
      (pss_cons (ps_if (pt_cmpR op_eq (pe_ix ix_list (pv 0) pe_int (fun _ _ => rfl)) pe_int (nomark _)) (pss_one (ps_ret pe_int)) pss_nil)
      (pss_cons (ps_set (i := 5) scD.nd rfl (.inl rfl) (pe_op op_add (pe_op op_mul (pe_ix ix_list (pv 0) pe_int (fun _ _ => rfl)) pe_int) (pe_op op_mul (pe_op op_mul (pe_ix ix_list (pv 0) pe_int (fun _ _ => rfl)) (pe_ix ix_list (pv 0) pe_int (fun _ _ => rfl))) pe_int)))
      (pss_cons (ps_set (i := 6) scD.nd rfl (.inl rfl) (pe_op op_mod (pe_callTy call_int1 (by rfl) mi (by decide +kernel) (pa_cons (pe_op op_add (pe_op op_mul (pe_ix ix_list (pv 0) pe_int (fun _ _ => rfl)) pe_int) (pv 5)) pa_nil)) pe_int))
      (pss_one (ps_ret (pe_op op_mod (pe_op op_mod (pe_callTy call_int1 (by rfl) mi (by decide +kernel) (pa_cons (pe_op op_fdiv (pe_op op_mul (pv 6) pe_int) pe_int) pa_nil)) pe_int) (pv 1))))))))), ?_⟩
    -- pool[2] += 1
    have g : ∀ {H : Hp} {x y z t : V}, H p = some (.lst [x, y, z, t]) → SqL K H p [x, y, z, t] := fun e => SqL.of e
    refine ⟨_, rfl, p, _, 2, _, rfl, rfl, g hp, atI_nat (j := 2) rfl, n, 1, rfl, rfl, p, _, 2, 2, rfl, rfl, hp, rfl, ?_⟩
    have K1 : Keeps p q H (upd H p (.lst [.ref q, .int b, .int ((n : Int) + 1), .int c])) := Keeps.upd_p
    have hp1 : (upd H p (.lst [.ref q, .int b, .int ((n : Int) + 1), .int c])) p = some (.lst [.ref q, .int b, .int ((n : Int) + 1), .int c]) := upd_same
    have hq1 : (upd H p (.lst [.ref q, .int b, .int ((n : Int) + 1), .int c])) q = some (.lst (cs.map V.int)) := by rw [upd_ne npq.symm]; exact hq
    refine ⟨fun σ H1 => ∃ (cs b c : _) (y2 y3 : Option V), σ = [some (.ref p), some (.int m), y2, y3, none, none, none] ∧ Keeps p q H H1 ∧
      H1 p = some (.lst [.ref q, .int b, .int ((n : Int) + 1), .int c]) ∧ H1 q = some (.lst (List.map V.int cs)) ∧ cs.length ≤ 1000 ∧ 0 ≤ b ∧ 0 ≤ c ∧ c < 2147483629, ?_, ?_⟩
    · -- if pool[1] == 0 and pool[0]
      refine ⟨_, rfl, p, _, 1, _, rfl, rfl, g hp1, atI_nat (j := 1) rfl, rfl, _, rfl, ?_⟩
      refine ite2 (fun _ => ?_) (fun _ => ?_)
      · refine ⟨_, rfl, p, _, 0, _, rfl, rfl, g hp1, atI_nat (j := 0) rfl, _, .inl ⟨_, SqL.of hq1, rfl⟩, ?_⟩
        cases cs with
        | nil =>
          refine iteF ?_
          exact ⟨[], b, c, none, none, rfl, K1, hp1, hq1, Nat.zero_le _, hb, hc0, hc1⟩
        | cons z r =>
          refine iteT ?_
          -- cell = int(pool[0].pop(0))
          refine ⟨_, rfl, p, _, 0, _, rfl, rfl, g hp1, atI_nat (j := 0) rfl, .inl ⟨rfl, _, SqL.of hq1⟩, q, _, 0, 0, _, rfl, rfl, hq1, by decide, by decide, seqIndex_of (by decide) (by simp), rfl, ?_⟩
          have hq2 : (upd (upd H p (.lst [.ref q, .int b, .int ((n : Int) + 1), .int c])) q (.lst (r.map V.int))) q = some (.lst (r.map V.int)) := upd_same
          have hp2 : (upd (upd H p (.lst [.ref q, .int b, .int ((n : Int) + 1), .int c])) q (.lst (r.map V.int))) p = some (.lst [.ref q, .int b, .int ((n : Int) + 1), .int c]) := by
            rw [upd_ne npq, hp1]
          have K2 : Keeps p q H (upd (upd H p (.lst [.ref q, .int b, .int ((n : Int) + 1), .int c])) q (.lst (r.map V.int))) := K1.trans .upd_q
          refine .inl ⟨z, rfl, ?_⟩
          have hr1 : r.length ≤ 1000 := Nat.le_of_succ_le hcs
          -- code
          refine ⟨fun σ H1 => ∃ code : Int, σ = [some (.ref p), some (.int m), some (.int z), some (.int code), none, none, none] ∧ 0 ≤ code ∧ H1 = upd (upd H p (.lst [.ref q, .int b, .int ((n : Int) + 1), .int c])) q (.lst (r.map V.int)), ?_, ?_⟩
          · refine ⟨_, rfl, _, _, rfl, rfl, _, rfl, ?_⟩
            refine ite2 (fun hz => ?_) (fun hz => ?_)
            · have hz' : 0 ≤ z := of_decide_eq_true hz
              exact ⟨_, rfl, _, _, rfl, rfl, .inl (by decide), 2 * z, rfl, by omega, rfl⟩
            · have hz' : ¬ 0 ≤ z := fun e => hz (decide_eq_true e)
              exact ⟨_, rfl, _, rfl, _, _, rfl, rfl, .inl (by decide), _, _, rfl, rfl, -1 - 2 * z, rfl, by omega, rfl⟩
          · rintro σ H1 ⟨code, rfl, hcode, rfl⟩
            refine ⟨_, rfl, _, _, rfl, rfl, ⟨by decide, by decide, by decide⟩, _, _, rfl, rfl, _, rfl, ?_⟩
            refine ite2 (fun hz => ?_) (fun hz => ?_)
            · refine ⟨_, rfl, _, rfl, p, _, 1, 1, rfl, rfl, hp2, rfl, ?_⟩
              exact ⟨r, code, c, _, _, rfl, K2.trans .upd_p, upd_same, by rw [upd_ne npq.symm]; exact hq2, hr1, hcode, hc0, hc1⟩
            · have hz' : ¬ ((10 : Int) ^ (18 : Int).toNat ≤ code) := fun e => hz (decide_eq_true e)
              refine ⟨_, rfl, p, _, 3, _, rfl, rfl, g hp2, atI_nat (j := 3) rfl, _, _, rfl, rfl, .inl ⟨by omega, by omega⟩, _, rfl, _, _, rfl, rfl, .inr (by decide), _, _, rfl, rfl, _, _, rfl, rfl, .inl ⟨_, rfl, _, _, rfl, rfl, (by show (0 : Int) < 2147483629; decide), _, rfl, p, _, 3, 3, rfl, rfl, hp2, rfl, ?_⟩⟩
              refine ⟨r, b, _, _, _, rfl, K2.trans .upd_p, upd_same, by rw [upd_ne npq.symm]; exact hq2, hr1, hb, Int.emod_nonneg _ (by decide), Int.emod_lt_of_pos _ (by decide)⟩
      · exact ⟨cs, b, c, none, none, rfl, K1, hp1, hq1, hcs, hb, hc0, hc1⟩
    · rintro σ H1 ⟨cs, b, c, y2, y3, rfl, K1, hp1, hq1, hcs, hb, hc0, hc1⟩
      have en : ((n : Int) + 1) = ((n + 1 : Nat) : Int) := by omega
      rw [en] at hp1
      -- if pool[1] > 0
      refine ⟨_, rfl, p, _, 1, _, rfl, rfl, g hp1, atI_nat (j := 1) rfl, _, _, rfl, rfl, _, rfl, ?_⟩
      refine ite2 (fun h1 => ?_) (fun h1 => ?_)
      · have hdm : (0 : Int) < m := hm0
        refine ⟨_, rfl, p, _, 1, _, rfl, rfl, g hp1, atI_nat (j := 1) rfl, .inl ⟨_, rfl, _, rfl, _, _, rfl, rfl, hm0, ?_⟩⟩
        refine ⟨_, rfl, p, _, 1, _, rfl, rfl, g hp1, atI_nat (j := 1) rfl, _, rfl, _, _, rfl, rfl, div_many hm0 hm1, ?_⟩
        refine ⟨_, rfl, p, _, 1, 1, rfl, rfl, hp1, rfl, ?_⟩
        refine ⟨_, rfl, ?_⟩
        exact kk _ _ (Int.emod_nonneg _ (by omega)) (Int.emod_lt_of_pos _ hm0) ⟨npq, cs, b / m, c, upd_same, by rw [upd_ne npq.symm]; exact hq1, hcs, Int.ediv_nonneg hb (by omega), hc0, hc1⟩ (K1.trans .upd_p)
      · -- if pool[3] == 0
        refine ⟨_, rfl, p, _, 3, _, rfl, rfl, g hp1, atI_nat (j := 3) rfl, rfl, _, rfl, ?_⟩
        refine ite2 (fun h3 => ?_) (fun h3 => ?_)
        · exact kk 0 _ (by decide) hm0 ⟨npq, cs, b, c, hp1, hq1, hcs, hb, hc0, hc1⟩ K1
        · refine ⟨_, rfl, p, _, 2, _, rfl, rfl, g hp1, atI_nat (j := 2) rfl, _, _, rfl, rfl, .inr (by decide), _, rfl, p, _, 2, _, rfl, rfl, g hp1, atI_nat (j := 2) rfl, _, rfl, p, _, 2, _, rfl, rfl, g hp1, atI_nat (j := 2) rfl, _, _, rfl, rfl, .inl ⟨by omega, by omega⟩, _, _, rfl, rfl, .inr (by decide), _, _, rfl, rfl, ?_⟩
          refine ⟨_, rfl, p, _, 3, _, rfl, rfl, g hp1, atI_nat (j := 3) rfl, _, _, rfl, rfl, .inl ⟨by omega, by omega⟩, _, rfl, _, _, rfl, rfl, .inl ⟨_, rfl, _, _, rfl, rfl, (by show (0 : Int) < 2147483647; decide), ?_⟩⟩
          refine ⟨_, rfl, _, _, rfl, rfl, .inr (by decide), _, _, rfl, rfl, ⟨by decide, by decide⟩, .inl ⟨_, rfl, _, _, rfl, rfl, (by show (0 : Int) < 2147483629; decide), _, rfl, _, _, rfl, rfl, hm0, ?_⟩⟩
          exact kk _ _ (Int.emod_nonneg _ (by omega)) (Int.emod_lt_of_pos _ hm0) ⟨npq, cs, b, c, hp1, hq1, hcs, hb, hc0, hc1⟩ K1
end
/-! ### the pool made, a word drawn -/
theorem cut_take (xs : List V) (k : Nat) : cutV xs none (some (k : Int)) = xs.take k := by
  unfold cutV
  rw [HT.sIx_nat, HT.sIx_none]
  show (xs.drop 0).take (min k xs.length - 0) = xs.take k
  rw [List.drop_zero, Nat.sub_zero]
  by_cases h : k ≤ xs.length
  · rw [Nat.min_eq_left h]
  · rw [Nat.min_eq_right (by omega), List.take_of_length_le (Nat.le_refl _), List.take_of_length_le (by omega)]
def spPool (K : PySem.W.Frag) : Sp := fun vs H Q _ => ∃ (a : Addr) (ns : List Int), vs = [.ref a] ∧ SqL K H a (ns.map V.int) ∧ ns.length ≤ 63 ∧ ∀ (p q : Addr) (H' : Hp), H p = none → H q = none → PoolAt H' p q 0 → Same H H' → Q (.ref p) H'
/-- one to eight letters -/
def IsWord (z : Str) : Prop := 1 ≤ z.length ∧ z.length ≤ 8 ∧ ∀ c ∈ z.cps.toList, 97 ≤ c ∧ c ≤ 122
def spWord : Sp := fun vs H Q _ => ∃ (p q : Addr) (n : Nat), vs = [.ref p] ∧ PoolAt H p q n ∧ n < 900000 ∧
  ∀ (z : Str) (n' : Nat) (H' : Hp), IsWord z → n ≤ n' → n' ≤ n + 9 → PoolAt H' p q n' → Keeps p q H H' → Q (.str z) H'
theorem sum_ones : ∀ ys : List Str, (∀ y ∈ ys, y.length = 1) → (ys.map (·.length)).sum = ys.length
  | [], _ => rfl
  | x :: r, h => by
    rw [List.map_cons, List.sum_cons, h x List.mem_cons_self, sum_ones r fun y hy => h y (List.mem_cons_of_mem _ hy), List.length_cons]
    omega
theorem join_letters {sep : Str} (hs : sep.cps.toList = []) : ∀ ys : List Str, (∀ y ∈ ys, ∃ c, y = ⟨#[c]⟩ ∧ 97 ≤ c ∧ c ≤ 122) → (Str.join sep ys).length = ys.length ∧ ∀ c ∈ (Str.join sep ys).cps.toList, 97 ≤ c ∧ c ≤ 122
  | [], _ => ⟨rfl, fun c h => by cases h⟩
  | [x], h => by
    obtain ⟨c, rfl, h1, h2⟩ := h x List.mem_cons_self
    exact ⟨rfl, fun d hd => by
      have e : d = c := List.mem_singleton.mp hd
      rw [e]; exact ⟨h1, h2⟩⟩
  | x :: y :: r, h => by
    obtain ⟨c, rfl, h1, h2⟩ := h x List.mem_cons_self
    obtain ⟨i1, i2⟩ := join_letters hs (y :: r) fun z hz => h z (List.mem_cons_of_mem _ hz)
    have sl : sep.length = 0 := by
      show sep.cps.size = 0
      rw [← Array.length_toList, hs]; rfl
    have e : (Str.join sep ((⟨#[c]⟩ : Str) :: y :: r)) = (⟨#[c]⟩ : Str) ++ sep ++ Str.join sep (y :: r) := rfl
    rw [e]
    refine ⟨?_, fun d hd => ?_⟩
    · rw [strLen_append, strLen_append, i1, sl]
      show 1 + 0 + (y :: r).length = _
      simp only [List.length_cons]; omega
    · rcases PyProof.Rows.mem_cps_append.mp hd with hd | hd
      · rcases PyProof.Rows.mem_cps_append.mp hd with hd | hd
        · have e : d = c := List.mem_singleton.mp hd
          rw [e]; exact ⟨h1, h2⟩
        · rw [hs] at hd; cases hd
      · exact i2 d hd
def abc : Str := "abcdefghijklmnopqrstuvwxyz"
theorem abc_len : abc.length = 26 := by decide +kernel
theorem abc_at (d : Int) (h0 : 0 ≤ d) (h1 : d < 26) : ∃ c, atI abc.cps.toList d = some c ∧ 97 ≤ c ∧ c ≤ 122 := by
  obtain ⟨k, rfl⟩ : ∃ k : Nat, d = (k : Int) := ⟨d.toNat, by omega⟩
  have hk : k < 26 := by omega
  have all : ∀ k : Fin 26, ∃ c, abc.cps.toList[k.val]? = some c ∧ 97 ≤ c ∧ c ≤ 122 := by
    have h : ∀ k : Fin 26, (match abc.cps.toList[k.val]? with | some c => decide (97 ≤ c ∧ c ≤ 122) | none => false) = true := by decide +kernel
    intro k
    have := h k
    cases e : abc.cps.toList[k.val]? with
    | none => rw [e] at this; cases this
    | some c =>
      rw [e] at this
      exact ⟨c, rfl, of_decide_eq_true this⟩
  obtain ⟨c, e, r⟩ := all ⟨k, hk⟩
  exact ⟨c, atI_nat e, r⟩
section
variable {P : Program} {w : World} {K : PySem.W.Frag} {mg : Str → Option Value} {base : Heap}
theorem scP : FnScope ["script"] ["script"] (defScope sPool) := ⟨rfl, rfl, rfl, by decide +kernel, rfl, by decide +kernel, by decide +kernel⟩
theorem ok_pool {f : Addr} {fd : FuncData} {k : Nat} (F : Fun K "_law_pool" "_law_pool" sPool f fd) (ml : mg "list" = none) : FnOk P w K mg base CX0 (k + 1) f fd ["script"] (spPool K) := by
  refine F.ok scP (fun vs H Q E h => ?_) (fun cdv A outer s H vs Q E hr h => ?_)
  · obtain ⟨a, ns, rfl, _⟩ := h
    rfl
  · obtain ⟨a, ns, rfl, hS, hl, kk⟩ := h
    refine ⟨_, pss_one (ps_ret (pe_lst (pa_cons (pe_callTy call_list_of (by rfl) ml (by decide +kernel) (pa_cons (pe_slice sl_list (pv 0) po_none (po_some pe_int)) pa_nil)) (pa_cons pe_int (pa_cons pe_int (pa_cons pe_int pa_nil)))))), ?_⟩
    refine ⟨.ref a, rfl, 63, rfl, a, _, rfl, hS, fun c nc => ?_⟩
    have e : cutV (ns.map V.int) none (some 63) = (ns.take 63).map V.int := by
      rw [List.map_take]; exact cut_take _ 63
    rw [e]
    refine ⟨c, _, rfl, .inl (SqL.of upd_same), fun q nq => ?_⟩
    refine ⟨by show 4 ≤ sizeLine; decide, fun p np => ?_⟩
    have hc : (upd H c (.lst ((ns.take 63).map V.int))) c = some (.lst ((ns.take 63).map V.int)) := upd_same
    have s1 : Same H (upd H c (.lst ((ns.take 63).map V.int))) := fun b o z => by rw [upd_ne (ne_of_none z nc)]; exact z
    have s2 : Same (upd H c (.lst ((ns.take 63).map V.int))) (upd (upd H c (.lst ((ns.take 63).map V.int))) q (.lst ((ns.take 63).map V.int))) := fun b o z => by rw [upd_ne (ne_of_none z nq)]; exact z
    have hq : (upd (upd H c (.lst ((ns.take 63).map V.int))) q (.lst ((ns.take 63).map V.int))) q = some (.lst ((ns.take 63).map V.int)) := upd_same
    have s3 := fun o => (fun b u z => by rw [upd_ne (ne_of_none z np)]; exact z : Same (upd (upd H c (.lst ((ns.take 63).map V.int))) q (.lst ((ns.take 63).map V.int))) (upd _ p o))
    refine kk p q _ ((s1.trans s2).free np) (s1.free nq) ⟨(ne_of_none hq np).symm, ns.take 63, 0, 0, upd_same, s3 _ _ _ hq, by rw [List.length_take]; omega, by decide, by decide, by decide⟩ ((s1.trans s2).trans (s3 _))
theorem scW : FnScope ["pool", "letters", "k"] ["pool"] (defScope sWord) := ⟨rfl, rfl, rfl, by decide +kernel, rfl, by decide +kernel, by decide +kernel⟩
theorem ok_word {f fD : Addr} {fd fdD : FuncData} (F : Fun K "_law_word" "_law_word" sWord f fd) (GD : FnOk P w K mg base CX0 1 fD fdD ["pool", "many"] spDraw) (mD : mg "_law_draw" = some (.ref fD)) (kD : PySem.W.keepIn K (.ref fD) = true)
    (bD : Binds K fdD ["pool", "many"] []) (mr : mg "range" = none) : FnOk P w K mg base CX0 2 f fd ["pool"] spWord := by
  refine F.ok scW (fun vs H Q E h => ?_) (fun cdv A outer s H vs Q E hr h => ?_)
  · obtain ⟨p, q, n, rfl, _⟩ := h
    rfl
  · obtain ⟨p, q, n, rfl, hP, hn, kk⟩ := h
    refine ⟨_, pss_cons (ps_set (i := 1) scW.nd rfl (.inr rfl) pe_str)
      (pss_one (ps_ret (pe_join pe_str (pe_lc (own := [("k", 2)]) (g := gName 2) (tt := tYes) rfl scW.nd
        (pi_range1 (by rfl) mr (pa_cons (pe_op op_add pe_int (pe_call GD hr (by rfl) mD kD bD .nil pass0 (pa_cons (pv 0) (pa_cons pe_int pa_nil)))) pa_nil))
        (blkOk_by (N := ["pool", "letters", "k"]) (sc := defScope sWord) (by decide +kernel))
        (fun _ _ _ _ _ => pg_name (i := 2) scW.nd rfl (.inl rfl)) (fun _ _ _ _ _ => pts_nil)
        (fun _ _ _ _ _ => pe_ix ix_str (pv 1) (pe_call GD hr (by rfl) mD kD bD .nil pass0 (pa_cons (pv 0) (pa_cons pe_int pa_nil))) (fun _ _ => rfl)))))), ?_⟩
    refine ⟨⟨_, rfl⟩, .ref p, rfl, p, q, n, 8, rfl, hP, by omega, by decide, by decide, fun d H1 h0 h1 P1 K1 => ?_⟩
    refine ⟨1, d, rfl, rfl, 1 + d, rfl, (by omega), (by omega), fun D nD => ?_⟩
    obtain ⟨op, ep⟩ := P1.p_some
    obtain ⟨oq, eq⟩ := P1.q_some
    have nDp : D ≠ p := (ne_of_none ep nD).symm
    have nDq : D ≠ q := (ne_of_none eq nD).symm
    have em : (1 + d).toNat ≤ 8 := by omega
    refine lc_range (lo := 0) (n := (1 + d).toNat) (fun i H2 => ∃ ys : List Str, H2 D = some (.lst (ys.map V.str)) ∧ ys.length = i ∧ (∀ y ∈ ys, ∃ c, y = ⟨#[c]⟩ ∧ 97 ≤ c ∧ c ≤ 122) ∧ PoolAt H2 p q (n + 1 + i) ∧ Keeps p q H H2)
      ⟨[], upd_same, rfl, fun y hy => (by cases hy), P1.new nD, K1.trans (.upd_new nD)⟩ (fun i H2 hi hI => ?_) (fun H2 hI => ?_)
    · obtain ⟨ys, eD, el, hy, P2, K2⟩ := hI
      refine ⟨rfl, ?_⟩
      refine ⟨_, rfl, _, rfl, p, q, n + 1 + i, 26, rfl, P2, by omega, by decide, by decide, fun d2 H3 h02 h12 P3 K3 => ?_⟩
      obtain ⟨c, ec, hc1, hc2⟩ := abc_at d2 h02 h12
      have eD3 : H3 D = some (.lst (ys.map V.str)) := K3 D _ nDp nDq eD
      refine ⟨abc, d2, c, rfl, rfl, by rw [abc_len]; decide, ec, _, eD3, small1000 (by rw [List.length_map]; omega), ys ++ [⟨#[c]⟩], ?_, by simp [el], fun y hm => ?_, ?_, ?_⟩
      · rw [upd_same, List.map_append]; rfl
      · rcases List.mem_append.mp hm with hm | hm
        · exact hy y hm
        · exact ⟨c, List.mem_singleton.mp hm, hc1, hc2⟩
      · have e : n + 1 + (i + 1) = n + 1 + i + 1 := by omega
        rw [e]
        obtain ⟨npq, cs, b, c0, e1, e2, r⟩ := P3
        exact ⟨npq, cs, b, c0, by rw [upd_ne nDp.symm]; exact e1, by rw [upd_ne nDq.symm]; exact e2, r⟩
      · intro x o hx1 hx2 nH
        have ex := K3 x o hx1 hx2 (K2 x o hx1 hx2 nH)
        by_cases hxD : x = D
        · subst hxD
          rw [K1.free nD nDp nDq] at nH
          cases nH
        · rw [upd_ne hxD]; exact ex
    · obtain ⟨ys, eD, el, hy, P2, K2⟩ := hI
      obtain ⟨j1, j2⟩ := join_letters (sep := "") (by decide +kernel) ys hy
      have e1 : ∀ y ∈ ys, y.length = 1 := fun y hm => by
        obtain ⟨c, rfl, _⟩ := hy y hm
        rfl
      have e2 : (ys.map (·.length)).sum = ys.length := sum_ones _ e1
      refine ⟨_, D, ys, rfl, rfl, .inl (SqL.of eD), ?_, ?_⟩
      · rw [e2, show (Str.ofString "").length = 0 by decide +kernel]; omega
      · rw [show Txt.join _ ys = Str.join _ ys from StrLaws.glued_eq_join _ _]
        exact kk _ (n + 1 + (1 + d).toNat) H2 ⟨by rw [j1]; omega, by rw [j1]; omega, j2⟩ (by omega) (by omega) P2 K2
end
/-! ### two data are the same -/
/-- no deeper than that -/
def dp : Nat → PyData → Prop
  | 0, _ => False
  | _ + 1, .none => True
  | _ + 1, .bool _ => True
  | _ + 1, .int _ => True
  | _ + 1, .str _ => True
  | m + 1, .list xs => xs.length ≤ 1000000 ∧ ∀ x ∈ xs, dp m x
  | m + 1, .tuple xs => xs.length ≤ 1000000 ∧ ∀ x ∈ xs, dp m x
  | _ + 1, .dict _ => False
theorem dp_mono : ∀ {m n : Nat} {d : PyData}, m ≤ n → dp m d → dp n d
  | 0, _, _, _, h => by simp [dp] at h
  | m + 1, 0, _, h, _ => by omega
  | m + 1, n + 1, d, h, hd => by
    cases d with
    | none => simp [dp]
    | bool b => simp [dp]
    | int i => simp [dp]
    | str s => simp [dp]
    | list xs =>
      simp only [dp] at hd ⊢
      exact ⟨hd.1, fun x hx => dp_mono (Nat.le_of_succ_le_succ h) (hd.2 x hx)⟩
    | tuple xs =>
      simp only [dp] at hd ⊢
      exact ⟨hd.1, fun x hx => dp_mono (Nat.le_of_succ_le_succ h) (hd.2 x hx)⟩
    | dict xs => simp [dp] at hd
def tyName : PyData → String
  | .none => "NoneType"
  | .bool _ => "bool"
  | .int _ => "int"
  | .str _ => "str"
  | .list _ => "list"
  | .tuple _ => "tuple"
  | .dict _ => "dict"
theorem ty_of {K : PySem.W.Frag} {H : Hp} {v : V} {d : PyData} (h : Dp K H v d) : TyX K H v (.type (tyName d)) := by
  cases h with
  | non => exact .base .non
  | bl b => exact .base (.bl b)
  | int i => exact .base (.int i)
  | str x => exact .base (.str x)
  | lst hs _ =>
    rcases hs with (h | ⟨o, h⟩) | ⟨o, its, n, hk, hc, _⟩
    · exact .base (.lst h)
    · exact .base (.frz h)
    · exact .kList hk hc
  | tup hs _ =>
    rcases hs with (h | ⟨o, h⟩) | ⟨o, its, n, hk, hc, _⟩
    · exact .base (.tup h)
    · exact .fTuple h
    · exact .kTuple hk hc
theorem isi {K : PySem.W.Frag} {H : Hp} {v : V} {d : PyData} {T : String} {b : Bool} {Q : VK} (h : Dp K H v d) (e : kitB (tyName d) T = some b) (q : Q (.bl b) H) : rIsi K [v, .ty T] H Q :=
  ⟨v, .ty T, _, _, b, rfl, ClsV.ty T, ty_of h, kit_ty e, q⟩
theorem dpAll_len {K : PySem.W.Frag} {H : Hp} : ∀ {vs : List V} {ds : List PyData}, DpAll K H vs ds → vs.length = ds.length
  | _, _, .nil => rfl
  | _, _, .cons _ t => by rw [List.length_cons, List.length_cons, dpAll_len t]
theorem dpAll_get {K : PySem.W.Frag} {H : Hp} : ∀ {vs : List V} {ds : List PyData} {i : Nat} {d : PyData}, DpAll K H vs ds → ds[i]? = some d → ∃ v, vs[i]? = some v ∧ Dp K H v d
  | _, _, _, _, .nil, e => by simp at e
  | _, _, 0, _, .cons h _, e => by
    have e' := Option.some.inj e
    subst e'
    exact ⟨_, rfl, h⟩
  | _, _, i + 1, _, .cons _ t, e => dpAll_get (i := i) t e
def spSame (K : PySem.W.Frag) (m : Nat) : Sp := fun vs H Q _ => ∃ (v u : V) (d : PyData), vs = [v, u] ∧ Dp K H v d ∧ Dp K H u d ∧ dp m d ∧ Q (.bl true) H
/-- what the names of classes and of len, range stand for -/
structure Bts (mg : Str → Option Value) : Prop where
  isinstance : mg "isinstance" = none
  bool : mg "bool" = none
  str : mg "str" = none
  int : mg "int" = none
  list : mg "list" = none
  tuple : mg "tuple" = none
  len : mg "len" = none
  range : mg "range" = none
section
variable {P : Program} {w : World} {K : PySem.W.Frag} {mg : Str → Option Value} {base : Heap}
theorem fn_never {f : Addr} {fd : FuncData} {ps : List Str} : FnOk P w K mg base CX0 0 f fd ps (fun _ _ _ _ => False) :=
  ⟨fun _ _ _ _ h => h.elim, fun _ _ _ _ _ _ _ _ _ _ _ _ _ h => h.elim⟩
theorem scS : FnScope ["actual", "due", "k"] ["actual", "due"] (defScope sSame) := ⟨rfl, rfl, rfl, by decide +kernel, rfl, by decide +kernel, by decide +kernel⟩
theorem ok_same {f : Addr} {fd : FuncData} (F : Fun K "_law_same" "_law_same" sSame f fd) (B : Bts mg) (mS : mg "_law_same" = some (.ref f)) (bS : Binds K fd ["actual", "due"] []) : ∀ m : Nat, FnOk P w K mg base CX0 m f fd ["actual", "due"] (spSame K m)
  | 0 => fn_never.imp fun vs H Q E h => by
    obtain ⟨v, u, d, _, _, _, h, _⟩ := h
    simp [dp] at h
  | m + 1 => by
    have IH := ok_same F B mS bS m
    refine F.ok scS (fun vs H Q E h => ?_) (fun cdv A outer s H vs Q E hr h => ?_)
    · obtain ⟨v, u, d, rfl, _⟩ := h
      rfl
    · obtain ⟨v, u, d, rfl, hv, hu, hd, kk⟩ := h
      refine ⟨_,
        pss_cons (ps_if (pt_cmpR op_isN (pv 1) pe_non (nomark _)) (pss_one (ps_ret (pe_cmp (pc_isN (pv 0)) rfl))) pss_nil)
        (pss_cons (ps_if (PW.pt (pw_or (pt_val (pe_callB call_isi (by rfl) B.isinstance (by decide +kernel) (pa_cons (pv 1) (pa_cons (pe_bltn (v := .ty "bool") (by rfl) B.bool (by decide +kernel) rfl) pa_nil))))
              (pw_or1 (pt_val (pe_callB call_isi (by rfl) B.isinstance (by decide +kernel) (pa_cons (pv 1) (pa_cons (pe_bltn (v := .ty "str") (by rfl) B.str (by decide +kernel) rfl) pa_nil)))))))
            (pss_cons (ps_if (PW.pt (pw_or
                (pt_cmpR op_ne (pe_callB call_isi (by rfl) B.isinstance (by decide +kernel) (pa_cons (pv 0) (pa_cons (pe_bltn (v := .ty "bool") (by rfl) B.bool (by decide +kernel) rfl) pa_nil)))
                  (pe_callB call_isi (by rfl) B.isinstance (by decide +kernel) (pa_cons (pv 1) (pa_cons (pe_bltn (v := .ty "bool") (by rfl) B.bool (by decide +kernel) rfl) pa_nil))) (nomark _))
                (pw_or1 (pt_cmpR op_ne (pe_callB call_isi (by rfl) B.isinstance (by decide +kernel) (pa_cons (pv 0) (pa_cons (pe_bltn (v := .ty "str") (by rfl) B.str (by decide +kernel) rfl) pa_nil)))
                  (pe_callB call_isi (by rfl) B.isinstance (by decide +kernel) (pa_cons (pv 1) (pa_cons (pe_bltn (v := .ty "str") (by rfl) B.str (by decide +kernel) rfl) pa_nil))) (nomark _)))))
                (pss_one (ps_ret pe_bl)) pss_nil)
              (pss_one (ps_ret (pe_cmpR op_eq (pv 0) (pv 1) (nomark _)))))
            pss_nil)
        (pss_cons (ps_if (pt_val (pe_callB call_isi (by rfl) B.isinstance (by decide +kernel) (pa_cons (pv 1) (pa_cons (pe_bltn (v := .ty "int") (by rfl) B.int (by decide +kernel) rfl) pa_nil))))
            (pss_one (ps_ret (pe_and (pe_callB call_isi (by rfl) B.isinstance (by decide +kernel) (pa_cons (pv 0) (pa_cons (pe_bltn (v := .ty "int") (by rfl) B.int (by decide +kernel) rfl) pa_nil)))
              (pe_and (pe_not (pe_callB call_isi (by rfl) B.isinstance (by decide +kernel) (pa_cons (pv 0) (pa_cons (pe_bltn (v := .ty "bool") (by rfl) B.bool (by decide +kernel) rfl) pa_nil))))
                (pe_one (pe_cmpR op_eq (pv 0) (pv 1) (nomark _)))))))
            pss_nil)
        (pss_cons (ps_if (PW.pt (pw_and (pt_val (pe_callB call_isi (by rfl) B.isinstance (by decide +kernel) (pa_cons (pv 1) (pa_cons (pe_bltn (v := .ty "list") (by rfl) B.list (by decide +kernel) rfl) pa_nil))))
              (pw_and1 (pt_not (pt_val (pe_callB call_isi (by rfl) B.isinstance (by decide +kernel) (pa_cons (pv 0) (pa_cons (pe_bltn (v := .ty "list") (by rfl) B.list (by decide +kernel) rfl) pa_nil))))))))
            (pss_one (ps_ret pe_bl)) pss_nil)
        (pss_cons (ps_if (PW.pt (pw_and (pt_val (pe_callB call_isi (by rfl) B.isinstance (by decide +kernel) (pa_cons (pv 1) (pa_cons (pe_bltn (v := .ty "tuple") (by rfl) B.tuple (by decide +kernel) rfl) pa_nil))))
              (pw_and1 (pt_not (pt_val (pe_callB call_isi (by rfl) B.isinstance (by decide +kernel) (pa_cons (pv 0) (pa_cons (pe_bltn (v := .ty "tuple") (by rfl) B.tuple (by decide +kernel) rfl) pa_nil))))))))
            (pss_one (ps_ret pe_bl)) pss_nil)
        (pss_cons (ps_if (pt_cmpR op_ne (pe_callB call_len_seq (by rfl) B.len PySem.boot_len (pa_cons (pv 0) pa_nil)) (pe_callB call_len_seq (by rfl) B.len PySem.boot_len (pa_cons (pv 1) pa_nil)) (nomark _)) (pss_one (ps_ret pe_bl)) pss_nil)
        (pss_cons (ps_for PassesOwn.never rfl (pi_range1 rfl B.range (pa_cons (pe_callB call_len_seq (by rfl) B.len PySem.boot_len (pa_cons (pv 1) pa_nil)) pa_nil)) (pg_name (i := 2) scS.nd rfl (.inl rfl))
            (pss_one (ps_if (pt_not (pt_val (pe_call IH hr (by rfl) mS F.kp bS .nil pass0 (pa_cons (pe_ix ix_seq (pv 0) (pv 2) (fun _ _ => rfl)) (pa_cons (pe_ix ix_seq (pv 1) (pv 2) (fun _ _ => rfl)) pa_nil))))) (pss_one (ps_ret pe_bl)) pss_nil)))
        (pss_one (ps_ret pe_bl)))))))), ?_⟩
      cases d with
      | none =>
        cases hu; cases hv
        exact ⟨_, rfl, rfl, _, rfl, iteT ⟨_, rfl, kk⟩⟩
      | bool b =>
        cases hu; cases hv
        refine ⟨_, rfl, rfl, _, rfl, iteF ?_⟩
        refine ⟨_, rfl, _, _, _, _, true, rfl, .ty _, TyX.base (TyOf.bl b), kit_ty (by decide +kernel), _, rfl, iteT (iteT ?_)⟩
        refine ⟨_, rfl, _, _, _, _, true, rfl, .ty _, TyX.base (TyOf.bl b), kit_ty (by decide +kernel), _, rfl, _, _, _, _, true, rfl, .ty _, TyX.base (TyOf.bl b), kit_ty (by decide +kernel), rfl, _, rfl, ?_⟩
        refine iteF ⟨_, rfl, _, _, _, _, false, rfl, .ty _, TyX.base (TyOf.bl b), kit_ty (by decide +kernel), _, rfl, _, _, _, _, false, rfl, .ty _, TyX.base (TyOf.bl b), kit_ty (by decide +kernel), rfl, _, rfl, ?_⟩
        refine iteF ⟨_, rfl, _, rfl, rfl, ?_⟩
        rw [decide_eq_true rfl]
        exact kk
      | str x =>
        cases hu; cases hv
        refine ⟨_, rfl, rfl, _, rfl, iteF ?_⟩
        refine ⟨_, rfl, _, _, _, _, false, rfl, .ty _, TyX.base (TyOf.str x), kit_ty (by decide +kernel), _, rfl, iteF ?_⟩
        refine ⟨_, rfl, _, _, _, _, true, rfl, .ty _, TyX.base (TyOf.str x), kit_ty (by decide +kernel), _, rfl, iteT ?_⟩
        refine ⟨_, rfl, _, _, _, _, false, rfl, .ty _, TyX.base (TyOf.str x), kit_ty (by decide +kernel), _, rfl, _, _, _, _, false, rfl, .ty _, TyX.base (TyOf.str x), kit_ty (by decide +kernel), rfl, _, rfl, ?_⟩
        refine iteF ⟨_, rfl, _, _, _, _, true, rfl, .ty _, TyX.base (TyOf.str x), kit_ty (by decide +kernel), _, rfl, _, _, _, _, true, rfl, .ty _, TyX.base (TyOf.str x), kit_ty (by decide +kernel), rfl, _, rfl, ?_⟩
        refine iteF ⟨_, rfl, _, rfl, rfl, ?_⟩
        rw [decide_eq_true rfl]
        exact kk
      | int i =>
        cases hu; cases hv
        refine ⟨_, rfl, rfl, _, rfl, iteF ?_⟩
        refine ⟨_, rfl, _, _, _, _, false, rfl, .ty _, TyX.base (TyOf.int i), kit_ty (by decide +kernel), _, rfl, iteF ?_⟩
        refine ⟨_, rfl, _, _, _, _, false, rfl, .ty _, TyX.base (TyOf.int i), kit_ty (by decide +kernel), _, rfl, iteF ?_⟩
        refine ⟨_, rfl, _, _, _, _, true, rfl, .ty _, TyX.base (TyOf.int i), kit_ty (by decide +kernel), _, rfl, iteT ?_⟩
        refine ⟨_, rfl, _, _, _, _, true, rfl, .ty _, TyX.base (TyOf.int i), kit_ty (by decide +kernel), _, rfl, iteT ?_⟩
        refine ⟨_, rfl, _, _, _, _, false, rfl, .ty _, TyX.base (TyOf.int i), kit_ty (by decide +kernel), _, rfl, _, rfl, iteT ?_⟩
        refine ⟨_, rfl, _, rfl, rfl, ?_⟩
        rw [decide_eq_true rfl]
        exact kk
      | list ds =>
        obtain ⟨a2, xs2, rfl, hs2, ha2⟩ : ∃ a xs, u = .ref a ∧ SqL K H a xs ∧ DpAll K H xs ds := by
          cases hu with
          | lst h1 h2 => exact ⟨_, _, rfl, h1, h2⟩
        obtain ⟨a1, xs1, rfl, hs1, ha1⟩ : ∃ a xs, v = .ref a ∧ SqL K H a xs ∧ DpAll K H xs ds := by
          cases hv with
          | lst h1 h2 => exact ⟨_, _, rfl, h1, h2⟩
        have tyU : TyX K H (.ref a2) (.type "list") := ty_of (.lst hs2 ha2)
        have tyV : TyX K H (.ref a1) (.type "list") := ty_of (.lst hs1 ha1)
        have e1 := dpAll_len ha1
        have e2 := dpAll_len ha2
        refine ⟨_, rfl, rfl, _, rfl, iteF ?_⟩
        refine ⟨_, rfl, _, _, _, _, false, rfl, .ty _, tyU, kit_ty (by decide +kernel), _, rfl, iteF ?_⟩
        refine ⟨_, rfl, _, _, _, _, false, rfl, .ty _, tyU, kit_ty (by decide +kernel), _, rfl, iteF ?_⟩
        refine ⟨_, rfl, _, _, _, _, false, rfl, .ty _, tyU, kit_ty (by decide +kernel), _, rfl, iteF ?_⟩
        refine ⟨_, rfl, _, _, _, _, true, rfl, .ty _, tyU, kit_ty (by decide +kernel), _, rfl, iteT ?_⟩
        refine ⟨_, rfl, _, _, _, _, true, rfl, .ty _, tyV, kit_ty (by decide +kernel), _, rfl, iteF ?_⟩
        refine ⟨_, rfl, _, _, _, _, false, rfl, .ty _, tyU, kit_ty (by decide +kernel), _, rfl, iteF (iteF ?_)⟩
        refine ⟨_, rfl, a1, xs1, rfl, .inl hs1, _, rfl, a2, xs2, rfl, .inl hs2, rfl, _, rfl, iteNS (by rw [e1, e2]) ?_⟩
        simp only [dp] at hd
        have hz2 : (xs2.length : Int) < 2 ^ 62 := by have := hd.1; omega
        refine ⟨_, rfl, a2, xs2, rfl, .inl hs2, _, rfl, (by omega), hz2, ?_⟩
        refine for_range (lo := 0) (n := (xs2.length : Int).toNat) (fun i σ H2 => ∃ y, σ = [some (.ref a1), some (.ref a2), y] ∧ H2 = H) ⟨none, rfl, rfl⟩ ?_ ?_
        · rintro i σ H2 hi ⟨y, rfl, rfl⟩
          have hi2 : i < ds.length := by omega
          obtain ⟨x1, g1, d1⟩ := dpAll_get ha1 (List.getElem?_eq_getElem hi2)
          obtain ⟨x2, g2, d2⟩ := dpAll_get ha2 (List.getElem?_eq_getElem hi2)
          have ei : (0 : Int) + (i : Int) = ((i : Nat) : Int) := by omega
          rw [ei]
          refine ⟨_, rfl, _, rfl, .inl ⟨_, _, _, _, rfl, rfl, hs1, atI_nat g1, _, rfl, _, rfl, .inl ⟨_, _, _, _, rfl, rfl, hs2, atI_nat g2, ?_⟩⟩⟩
          refine ⟨x1, x2, _, rfl, d1, d2, hd.2 _ (List.getElem_mem hi2), _, rfl, iteF ?_⟩
          exact ⟨_, rfl, rfl⟩
        · rintro σ H2 ⟨y, rfl, rfl⟩
          exact kk
      | tuple ds =>
        obtain ⟨a2, xs2, rfl, hs2, ha2⟩ : ∃ a xs, u = .ref a ∧ SqT K H a xs ∧ DpAll K H xs ds := by
          cases hu with
          | tup h1 h2 => exact ⟨_, _, rfl, h1, h2⟩
        obtain ⟨a1, xs1, rfl, hs1, ha1⟩ : ∃ a xs, v = .ref a ∧ SqT K H a xs ∧ DpAll K H xs ds := by
          cases hv with
          | tup h1 h2 => exact ⟨_, _, rfl, h1, h2⟩
        have tyU : TyX K H (.ref a2) (.type "tuple") := ty_of (.tup hs2 ha2)
        have tyV : TyX K H (.ref a1) (.type "tuple") := ty_of (.tup hs1 ha1)
        have e1 := dpAll_len ha1
        have e2 := dpAll_len ha2
        refine ⟨_, rfl, rfl, _, rfl, iteF ?_⟩
        refine ⟨_, rfl, _, _, _, _, false, rfl, .ty _, tyU, kit_ty (by decide +kernel), _, rfl, iteF ?_⟩
        refine ⟨_, rfl, _, _, _, _, false, rfl, .ty _, tyU, kit_ty (by decide +kernel), _, rfl, iteF ?_⟩
        refine ⟨_, rfl, _, _, _, _, false, rfl, .ty _, tyU, kit_ty (by decide +kernel), _, rfl, iteF ?_⟩
        refine ⟨_, rfl, _, _, _, _, false, rfl, .ty _, tyU, kit_ty (by decide +kernel), _, rfl, iteF (iteF ?_)⟩
        refine ⟨_, rfl, _, _, _, _, true, rfl, .ty _, tyU, kit_ty (by decide +kernel), _, rfl, iteT ?_⟩
        refine ⟨_, rfl, _, _, _, _, true, rfl, .ty _, tyV, kit_ty (by decide +kernel), _, rfl, iteF ?_⟩
        refine ⟨_, rfl, a1, xs1, rfl, .inr hs1, _, rfl, a2, xs2, rfl, .inr hs2, rfl, _, rfl, iteNS (by rw [e1, e2]) ?_⟩
        simp only [dp] at hd
        have hz2 : (xs2.length : Int) < 2 ^ 62 := by have := hd.1; omega
        refine ⟨_, rfl, a2, xs2, rfl, .inr hs2, _, rfl, (by omega), hz2, ?_⟩
        refine for_range (lo := 0) (n := (xs2.length : Int).toNat) (fun i σ H2 => ∃ y, σ = [some (.ref a1), some (.ref a2), y] ∧ H2 = H) ⟨none, rfl, rfl⟩ ?_ ?_
        · rintro i σ H2 hi ⟨y, rfl, rfl⟩
          have hi2 : i < ds.length := by omega
          obtain ⟨x1, g1, d1⟩ := dpAll_get ha1 (List.getElem?_eq_getElem hi2)
          obtain ⟨x2, g2, d2⟩ := dpAll_get ha2 (List.getElem?_eq_getElem hi2)
          have ei : (0 : Int) + (i : Int) = ((i : Nat) : Int) := by omega
          rw [ei]
          refine ⟨_, rfl, _, rfl, .inr (.inl ⟨_, _, _, _, rfl, rfl, hs1, atI_nat g1, _, rfl, _, rfl, .inr (.inl ⟨_, _, _, _, rfl, rfl, hs2, atI_nat g2, ?_⟩)⟩)⟩
          refine ⟨x1, x2, _, rfl, d1, d2, hd.2 _ (List.getElem_mem hi2), _, rfl, iteF ?_⟩
          exact ⟨_, rfl, rfl⟩
        · rintro σ H2 ⟨y, rfl, rfl⟩
          exact kk
      | dict ds => simp [dp] at hd
end
/-! ### data in the heap, and displays of data -/
theorem Same.seqT {K : PySem.W.Frag} {H H' : Hp} {a : Addr} {xs : List V} (e : Same H H') (h : SqT K H a xs) : SqT K H' a xs := by
  rcases h with h1 | h3
  · rcases h1 with h1 | h2
    · exact .inl (.inl (e _ _ h1))
    · obtain ⟨o, h2⟩ := h2
      exact .inl (.inr ⟨o, e _ _ h2⟩)
  · exact .inr h3
mutual
theorem dp_same {K : PySem.W.Frag} {H H' : Hp} (s : Same H H') : ∀ (d : PyData) (v : V), Dp K H v d → Dp K H' v d
  | .none, _, h => by cases h; exact .non
  | .bool b, _, h => by cases h; exact .bl b
  | .int i, _, h => by cases h; exact .int i
  | .str x, _, h => by cases h; exact .str x
  | .list ds, _, h => by
    cases h with
    | lst h1 h2 => exact .lst (s.seq h1) (dpAll_same s ds _ h2)
  | .tuple ds, _, h => by
    cases h with
    | tup h1 h2 => exact .tup (Same.seqT s h1) (dpAll_same s ds _ h2)
  | .dict kvs, _, h => by cases h
theorem dpAll_same {K : PySem.W.Frag} {H H' : Hp} (s : Same H H') : ∀ (ds : List PyData) (vs : List V), DpAll K H vs ds → DpAll K H' vs ds
  | [], _, h => by cases h; exact .nil
  | d :: ds, _, h => by
    cases h with
    | cons h1 h2 => exact .cons (dp_same s d _ h1) (dpAll_same s ds _ h2)
end
theorem same_new {H : Hp} {p : Addr} {o : HO} (n : H p = none) : Same H (upd H p o) := fun b x e => by
  rw [upd_ne (ne_of_none e n)]; exact e
/-- the heap without some objects -/
def mask (l : List Addr) (H : Hp) : Hp := fun a => if a ∈ l then none else H a
theorem mask_in {l : List Addr} {H : Hp} {a : Addr} (h : a ∈ l) : mask l H a = none := if_pos h
theorem mask_out {l : List Addr} {H : Hp} {a : Addr} (h : a ∉ l) : mask l H a = H a := if_neg h
theorem mask_sub (l : List Addr) (H : Hp) : Same (mask l H) H := fun a o e => by
  by_cases h : a ∈ l
  · rw [mask_in h] at e; cases e
  · rw [mask_out h] at e; exact e
theorem mask_same {l : List Addr} {H H' : Hp} (s : Same H H') : Same (mask l H) (mask l H') := fun a o e => by
  by_cases h : a ∈ l
  · rw [mask_in h] at e; cases e
  · rw [mask_out h] at e ⊢; exact s a o e
theorem mask_nil (H : Hp) : mask [] H = H := rfl
/-- what stands in H is there -/
abbrev Alive (l : List Addr) (H : Hp) : Prop := ∀ a ∈ l, ∃ o, H a = some o
theorem Alive.same {l : List Addr} {H H' : Hp} (h : Alive l H) (s : Same H H') : Alive l H' := fun a m => let ⟨o, e⟩ := h a m; ⟨o, s a o e⟩
theorem Alive.not {l : List Addr} {H : Hp} {p : Addr} (h : Alive l H) (n : H p = none) : p ∉ l := fun m => by
  obtain ⟨o, e⟩ := h p m
  rw [n] at e; cases e
theorem alive_nil {H : Hp} : Alive [] H := fun _ m => nomatch m
theorem mask_upd {l : List Addr} {H : Hp} {p : Addr} {o : HO} (h : p ∉ l) : mask l (upd H p o) p = some o := by
  rw [mask_out h, upd_same]
theorem Keeps.mask {p q : Addr} {H H' : Hp} (k : Keeps p q H H') : Same (mask [p, q] H) (mask [p, q] H') := fun a o e => by
  by_cases h : a ∈ [p, q]
  · rw [mask_in h] at e; cases e
  · rw [mask_out h] at e ⊢
    refine k a o (fun z => h ?_) (fun z => h ?_) e
    · rw [z]; exact List.mem_cons_self
    · rw [z]; exact List.mem_cons_of_mem _ List.mem_cons_self
theorem PoolAt.alive {H : Hp} {p q : Addr} {n : Nat} (h : PoolAt H p q n) : Alive [p, q] H := fun a m => by
  rcases List.mem_cons.mp m with rfl | m
  · exact h.p_some
  · rw [List.mem_singleton.mp m]; exact h.q_some
/-- which data an expression gives; it stays so when objects are added -/
abbrev DS := St → Hp → PyData → Prop
abbrev DSs := St → Hp → List PyData → Prop
def tDat (K : PySem.W.Frag) (D : DS) : TE := fun σ H Q => ∃ (l : List Addr) (d : PyData), Alive l H ∧ D σ (mask l H) d ∧ ∀ v H', Same H H' → Dp K (mask l H') v d → Q v H'
def tDats (K : PySem.W.Frag) (D : DSs) : TA := fun σ H Q => ∃ (l : List Addr) (ds : List PyData), Alive l H ∧ D σ (mask l H) ds ∧ ∀ vs H', Same H H' → DpAll K (mask l H') vs ds → Q vs H'
structure DE (X : Cx) (e : Expr) (D : DS) : Prop where
  pe : PE X e (tDat X.K D)
  mono : ∀ σ H H' d, Same H H' → D σ H d → D σ H' d
structure DA (X : Cx) (es : List Expr) (D : DSs) : Prop where
  pa : PA X es (tDats X.K D)
  mono : ∀ σ H H' ds, Same H H' → D σ H ds → D σ H' ds
def dNil : DSs := fun _ _ ds => ds = []
def dCons (D : DS) (Ds : DSs) : DSs := fun σ H ds => ∃ d r, ds = d :: r ∧ D σ H d ∧ Ds σ H r
def dTup (Ds : DSs) : DS := fun σ H d => ∃ ds, d = .tuple ds ∧ ds.length ≤ 1000 ∧ Ds σ H ds
def dLst (Ds : DSs) : DS := fun σ H d => ∃ ds, d = .list ds ∧ ds.length ≤ 1000 ∧ Ds σ H ds
def dVar (K : PySem.W.Frag) (i : Nat) : DS := fun σ H d => ∃ v, σ[i]? = some (some v) ∧ Dp K H v d
def dIs (d0 : PyData) : DS := fun _ _ d => d = d0
section
variable {X : Cx} {e : Expr} {es : List Expr} {t : TE} {D : DS} {Ds : DSs} {pos : Pos}
theorem de_of (h : PE X e t) (w : ∀ σ H Q, tDat X.K D σ H Q → t σ H Q) (m : ∀ σ H H' d, Same H H' → D σ H d → D σ H' d) : DE X e D :=
  ⟨⟨fun pins s σ H Q I q => h.run pins s σ H Q I (w σ H Q q)⟩, m⟩
theorem de_str {x : Str} {j} : DE X (.Constant (.str x) j pos) (dIs (.str x)) :=
  de_of pe_str (fun _ H _ ⟨_, _, _, e, q⟩ => by cases e; exact q _ H (Same.refl H) (.str x)) fun _ _ _ _ _ h => h
theorem de_int {i : Int} {j} : DE X (.Constant (.int i) j pos) (dIs (.int i)) :=
  de_of pe_int (fun _ H _ ⟨_, _, _, e, q⟩ => by cases e; exact q _ H (Same.refl H) (.int i)) fun _ _ _ _ _ h => h
theorem de_bl {b : Bool} {j} : DE X (.Constant (.bool b) j pos) (dIs (.bool b)) :=
  de_of pe_bl (fun _ H _ ⟨_, _, _, e, q⟩ => by cases e; exact q _ H (Same.refl H) (.bl b)) fun _ _ _ _ _ h => h
theorem de_non {j} : DE X (.Constant .none j pos) (dIs .none) :=
  de_of pe_non (fun _ H _ ⟨_, _, _, e, q⟩ => by cases e; exact q _ H (Same.refl H) .non) fun _ _ _ _ _ h => h
theorem dv (i : Nat) {x : Str} (h : PE X (.Name x pos) (tVar i)) : DE X (.Name x pos) (dVar X.K i) :=
  de_of h (fun _ H _ ⟨_, _, _, ⟨v, e, hd⟩, q⟩ => ⟨v, e, q v H (Same.refl H) hd⟩) fun _ _ _ d s ⟨v, e, hd⟩ => ⟨v, e, dp_same s d v hd⟩
theorem da_nil : DA X [] dNil :=
  ⟨⟨fun pos pins s σ H Q I h => by
    obtain ⟨l, ds, _, e, q⟩ := h
    cases e
    exact pa_nil.run pos pins s σ H Q I (q [] H (Same.refl H) .nil)⟩, fun _ _ _ _ _ h => h⟩
theorem da_cons (h : DE X e D) (r : DA X es Ds) (hs : starEach (e :: es) X.env = (false, eval e X.env) :: starEach es X.env := by rfl) : DA X (e :: es) (dCons D Ds) :=
  ⟨⟨fun pos pins s σ H Q I hq => by
    obtain ⟨l, _, al, ⟨d, ds, rfl, h1, h2⟩, q⟩ := hq
    refine (pa_cons h.pe r.pa hs).run pos pins s σ H Q I ⟨l, d, al, h1, fun v H1 s1 hv => ⟨l, ds, al.same s1, r.mono _ _ _ _ (mask_same s1) h2, fun vs H2 s2 hvs => ?_⟩⟩
    exact q _ H2 (s1.trans s2) (.cons (dp_same (mask_same s2) d v hv) hvs)⟩,
   fun σ H H' ds s ⟨d, r', e, h1, h2⟩ => ⟨d, r', e, h.mono _ _ _ _ s h1, r.mono _ _ _ _ s h2⟩⟩
theorem len1000 {n : Nat} (h : n ≤ 1000) : n ≤ sizeLine := Nat.le_of_lt (small1000 h)
theorem de_tup {k} (h : DA X es Ds) : DE X (.Tuple es k pos) (dTup Ds) :=
  ⟨⟨fun pins s σ H Q I hq => by
    obtain ⟨l, _, al, ⟨ds, rfl, hl, h1⟩, q⟩ := hq
    refine (pe_tup h.pa).run pins s σ H Q I ⟨l, ds, al, h1, fun vs H1 s1 hv => ⟨by rw [dpAll_len hv]; exact len1000 hl, fun p np => ?_⟩⟩
    exact q _ _ (s1.trans (same_new np)) (.tup (SqT.of (mask_upd ((al.same s1).not np))) (dpAll_same (mask_same (same_new np)) _ _ hv))⟩,
   fun σ H H' d s ⟨ds, e, hl, h1⟩ => ⟨ds, e, hl, h.mono _ _ _ _ s h1⟩⟩
theorem de_lst (h : DA X es Ds) : DE X (.List es pos) (dLst Ds) :=
  ⟨⟨fun pins s σ H Q I hq => by
    obtain ⟨l, _, al, ⟨ds, rfl, hl, h1⟩, q⟩ := hq
    refine (pe_lst h.pa).run pins s σ H Q I ⟨l, ds, al, h1, fun vs H1 s1 hv => ⟨by rw [dpAll_len hv]; exact len1000 hl, fun p np => ?_⟩⟩
    exact q _ _ (s1.trans (same_new np)) (.lst (SqL.of (mask_upd ((al.same s1).not np))) (dpAll_same (mask_same (same_new np)) _ _ hv))⟩,
   fun σ H H' d s ⟨ds, e, hl, h1⟩ => ⟨ds, e, hl, h.mono _ _ _ _ s h1⟩⟩
end
theorem mask_new {l : List Addr} {H : Hp} {D : Addr} (n : H D = none) : Same (mask l H) (mask (D :: l) H) := fun a o e => by
  by_cases h : a ∈ D :: l
  · rcases List.mem_cons.mp h with rfl | h
    · have := mask_sub l H _ _ e
      rw [n] at this; cases this
    · rw [mask_in h] at e; cases e
  · rw [mask_out h]
    exact mask_sub l H _ _ e
theorem mask_less {l : List Addr} {H : Hp} {D : Addr} : Same (mask (D :: l) H) (mask l H) := fun a o e => by
  by_cases h : a ∈ D :: l
  · rw [mask_in h] at e; cases e
  · rw [mask_out h] at e
    rw [mask_out fun z => h (List.mem_cons_of_mem _ z)]
    exact e
theorem mask_at {l : List Addr} {H : Hp} {D : Addr} {o : HO} (m : D ∈ l) : Same (mask l H) (mask l (upd H D o)) := fun a u e => by
  by_cases h : a ∈ l
  · rw [mask_in h] at e; cases e
  · rw [mask_out h] at e ⊢
    rw [upd_ne fun z => h (by rw [z]; exact m)]
    exact e
theorem dpAll_app {K : PySem.W.Frag} {H : Hp} : ∀ {vs ws : List V} {ds es : List PyData}, DpAll K H vs ds → DpAll K H ws es → DpAll K H (vs ++ ws) (ds ++ es)
  | _, _, _, _, .nil, h => h
  | _, _, _, _, .cons h t, r => .cons h (dpAll_app t r)
theorem dpAll_drop {K : PySem.W.Frag} {H : Hp} : ∀ (n : Nat) {vs : List V} {ds : List PyData}, DpAll K H vs ds → DpAll K H (vs.drop n) (ds.drop n)
  | 0, _, _, h => h
  | n + 1, _, _, .nil => .nil
  | n + 1, _, _, .cons _ t => dpAll_drop n t
theorem dpAll_take {K : PySem.W.Frag} {H : Hp} : ∀ (n : Nat) {vs : List V} {ds : List PyData}, DpAll K H vs ds → DpAll K H (vs.take n) (ds.take n)
  | 0, _, _, _ => .nil
  | n + 1, _, _, .nil => .nil
  | n + 1, _, _, .cons h t => .cons h (dpAll_take n t)
theorem dpAll_at {K : PySem.W.Frag} {H : Hp} : ∀ {vs : List V} {ds : List PyData} {i : Nat} {v : V}, DpAll K H vs ds → vs[i]? = some v → ∃ d, ds[i]? = some d ∧ Dp K H v d
  | _, _, _, _, .nil, e => by simp at e
  | _, _, 0, _, .cons h _, e => by
    obtain rfl := Option.some.inj e
    exact ⟨_, rfl, h⟩
  | _, _, i + 1, _, .cons _ t, e => dpAll_at (i := i) t e
theorem dp_tup {K : PySem.W.Frag} {H : Hp} {v : V} {ds : List PyData} (h : Dp K H v (.tuple ds)) : ∃ a xs, v = .ref a ∧ SqT K H a xs ∧ DpAll K H xs ds := by
  cases h with
  | tup h1 h2 => exact ⟨_, _, rfl, h1, h2⟩
theorem dp_lst {K : PySem.W.Frag} {H : Hp} {v : V} {ds : List PyData} (h : Dp K H v (.list ds)) : ∃ a xs, v = .ref a ∧ SqL K H a xs ∧ DpAll K H xs ds := by
  cases h with
  | lst h1 h2 => exact ⟨_, _, rfl, h1, h2⟩
theorem dpAll_cons {K : PySem.W.Frag} {H : Hp} {vs : List V} {d : PyData} {ds : List PyData} (h : DpAll K H vs (d :: ds)) : ∃ v r, vs = v :: r ∧ Dp K H v d ∧ DpAll K H r ds := by
  cases h with
  | cons h1 h2 => exact ⟨_, _, rfl, h1, h2⟩
theorem dpAll_nil {K : PySem.W.Frag} {H : Hp} {vs : List V} (h : DpAll K H vs []) : vs = [] := by
  cases h; rfl
theorem dp_str {K : PySem.W.Frag} {H : Hp} {v : V} {x : Str} (h : Dp K H v (.str x)) : v = .str x := by
  cases h; rfl
theorem cut_tail {x : V} {r : List V} : cutV (x :: r) (some 1) none = r := by
  unfold cutV
  rw [show HT.sIx (x :: r).length 0 (some 1) = min 1 (x :: r).length from HT.sIx_nat _ 0 1, HT.sIx_none, List.length_cons, Nat.min_eq_left (by omega)]
  show List.take (r.length + 1 - 1) r = r
  rw [Nat.add_sub_cancel, List.take_length]
theorem cut_drop (xs : List V) (k : Nat) : cutV xs (some (k : Int)) none = xs.drop k := by
  unfold cutV
  rw [HT.sIx_nat, HT.sIx_none]
  by_cases h : k ≤ xs.length
  · rw [Nat.min_eq_left h]
    exact List.take_of_length_le (by rw [List.length_drop]; omega)
  · rw [Nat.min_eq_right (by omega), List.drop_of_length_le (Nat.le_refl _), List.drop_of_length_le (by omega)]; simp
theorem Keeps.maskL {p q : Addr} {l : List Addr} {H H' : Hp} (hp : p ∈ l) (hq : q ∈ l) (k : Keeps p q H H') : Same (Qp.mask l H) (Qp.mask l H') := fun a o e => by
  by_cases h : a ∈ l
  · rw [mask_in h] at e; cases e
  · rw [mask_out h] at e ⊢
    exact k a o (fun z => h (by rw [z]; exact hp)) (fun z => h (by rw [z]; exact hq)) e
theorem Keeps.alive {p q : Addr} {n : Nat} {l : List Addr} {H H' : Hp} (al : Alive l H) (k : Keeps p q H H') (P : PoolAt H' p q n) : Alive l H' := fun a m => by
  obtain ⟨o, e⟩ := al a m
  by_cases h1 : a = p
  · rw [h1]; exact P.p_some
  · by_cases h2 : a = q
    · rw [h2]; exact P.q_some
    · exact ⟨o, k a o h1 h2 e⟩
/-! ### repr of data: some text of bounded length, whatever is under way -/
/-- the text of x is some text, no longer than B; all objects stay -/
def Shows (prog : Program) (w : World) (g : Heap) (x : Value) (B c : Nat) : Prop :=
  ∀ (b : Nat), b + B ≤ sizeLine → ∀ (A : Around) (E : Value → Shared → Prop) (s : Shared) (Q : Str → Shared → Prop), A.units + c < cLine → (∀ d o, g.get? d = some o → s.heap.get? d = some o) →
    (∀ (m : Str) (h' : Heap) (tk : Nat), m.length ≤ B → (∀ d o, s.heap.get? d = some o → h'.get? d = some o) → Q m { s with heap := h', toks := tk }) → wpAny (model prog w) A (pyReprUnder b x) Q E s
inductive ShowsAll (prog : Program) (w : World) (g : Heap) (c : Nat) : List Value → List Nat → Prop
  | nil : ShowsAll prog w g c [] []
  | cons {x : Value} {B : Nat} {l : List Value} {Bs : List Nat} : Shows prog w g x B c → ShowsAll prog w g c l Bs → ShowsAll prog w g c (x :: l) (B :: Bs)
def pileN (Bs : List Nat) : Nat := (Bs.map (· + 2)).sum
theorem pileN_cons (B : Nat) (Bs : List Nat) : pileN (B :: Bs) = B + 2 + pileN Bs := by
  unfold pileN; rw [List.map_cons, List.sum_cons]
theorem showsAll_len {prog : Program} {w : World} {g : Heap} {c : Nat} : ∀ {l : List Value} {Bs : List Nat}, ShowsAll prog w g c l Bs → Bs.length = l.length
  | _, _, .nil => rfl
  | _, _, .cons _ t => by rw [List.length_cons, List.length_cons, showsAll_len t]
theorem Shows.of {prog : Program} {w : World} {g : Heap} {x : Value} {t : Str} {B c : Nat} (h : ReprIs prog w x t) (hl : t.length ≤ B) : Shows prog w g x B c :=
  fun b hb A E s Q _ _ hQ => h b (by omega) A E s Q fun tk => hQ t s.heap tk hl fun _ _ e => e
theorem tupText_len (ts : List Str) : (tupleText ts).length ≤ piled ts + 2 := PySem.fmt_text ts
theorem listText_len : ∀ ts : List Str, (listText ts).length ≤ piled ts + 2
  | [] => by decide +kernel
  | t :: r => by
    have h := textFrom_length_pos r 1 (("[" : Str) ++ (if (0 : Nat) > 0 then ", " else "" : String) ++ t) (Nat.succ_pos 0)
    have e : ((("[" : Str) ++ (if (0 : Nat) > 0 then ", " else "" : String) ++ t)).length = 1 + t.length := by
      rw [strLen_append, strLen_append]; rfl
    have e1 : (listText (t :: r)).length = (textFrom 0 "[" (t :: r)).length + 1 := by
      show (textFrom 0 "[" (t :: r) ++ "]").length = _
      rw [strLen_append]; rfl
    have e2 : (textFrom 0 "[" (t :: r)).length = (textFrom 1 (("[" : Str) ++ (if (0 : Nat) > 0 then ", " else "" : String) ++ t) r).length := rfl
    rw [e1, e2, h, e, piled_cons]; omega
section
variable {prog : Program} {w : World} {A : Around} {E : Value → Shared → Prop} {g : Heap} {c : Nat}
theorem fold_some : ∀ (l : List Value) (Bs : List Nat) (acc : Array Str) (n : Nat) (s : Shared) (Q : (Array Str × Nat) → Shared → Prop), ShowsAll prog w g c l Bs → n + pileN Bs ≤ sizeLine → A.units + c < cLine → (∀ d o, g.get? d = some o → s.heap.get? d = some o) →
    (∀ (ts : List Str) (h' : Heap) (tk : Nat), ts.length = l.length → piled ts ≤ pileN Bs → (∀ d o, s.heap.get? d = some o → h'.get? d = some o) → Q ⟨acc ++ ts.toArray, n + piled ts⟩ { s with heap := h', toks := tk }) →
    wpAny (model prog w) A (forIn l (⟨acc, n⟩ : (Array Str × Nat)) tupBody) Q E s := by
  intro l
  induction l with
  | nil =>
    intro Bs acc n s Q hT hn hu hk h
    have h0 := h [] s.heap s.toks rfl (Nat.zero_le _) fun _ _ e => e
    rw [List.forIn_nil]
    exact wpAny_pure (by simpa [piled] using h0)
  | cons x l ih =>
    intro Bs acc n s Q hT hn hu hk h
    cases hT with
    | @cons _ B _ Bs' hx hl =>
      rw [pileN_cons] at hn
      rw [List.forIn_cons]
      refine wpAny_bind (wpAny_bind (hx (n + 1) (by omega) _ _ s _ hu hk fun m h1 tk hm k1 => wpAny_pure ?_))
      refine ih Bs' (acc.push m) (n + (m.length + 2)) { s with heap := h1, toks := tk } Q hl (by omega) hu (fun d o e => k1 d o (hk d o e)) fun ts h2 tk2 el hp k2 => ?_
      have h3 := h (m :: ts) h2 tk2 (by rw [List.length_cons, List.length_cons, el]) (by rw [piled_cons, pileN_cons]; omega) fun d o e => k2 d o (k1 d o e)
      have e : n + piled (m :: ts) = n + (m.length + 2) + piled ts := by rw [piled_cons]; omega
      rw [e] at h3
      simpa using h3
theorem tupRest_some {s : Shared} {a : Addr} {o : Obj} {items : Array Value} {n b : Nat} {Bs : List Nat} {Q : Fin → Shared → Prop} (ha : s.heap.get? a = some o) (hd : o.data = .seq items n) (hT : ShowsAll prog w g c items.toList Bs) (hu : A.units + c < cLine)
    (hk : ∀ d o, g.get? d = some o → s.heap.get? d = some o) (hsz : b + pileN Bs + 2 ≤ sizeLine) (h : ∀ (m : Str) (h' : Heap) u tk, m.length ≤ pileN Bs + 2 → (∀ d o, s.heap.get? d = some o → h'.get? d = some o) → Q (.done (.ret (.str m u))) { s with heap := h', toks := tk }) :
    wpAny (model prog w) A (tupleReprRest b (.ref a)) Q E s := by
  unfold tupleReprRest Builtin.Tuple.tupleItemsOf
  refine wpAny_bind (wpAny_bind (wpAny_seqItems ha hd (wpAny_pure ?_)))
  rw [← Array.forIn_toList]
  refine wpAny_bind (fold_some _ Bs _ _ s _ hT (by omega) hu hk fun ts h' tk el hp k' => ?_)
  have et := tupText_len ts
  have hlen : ts.length = items.size := by simpa using el
  have hz : (tupleText ts).length ≤ sizeLine := by omega
  refine wpAny_bind (wpAny_mkStr (wpAny_pure ?_) (by simpa [tupleText, hlen] using hz))
  have h1 := h (tupleText ts) h' tk (tk + 1) (by omega) k'
  simpa [tupleText, hlen] using h1
theorem tup_some {s : Shared} {a : Addr} {o : Obj} {items : Array Value} {n b : Nat} {Bs : List Nat} {Q : Fin → Shared → Prop} (ha : s.heap.get? a = some o) (hd : o.data = .seq items n) (hT : ShowsAll prog w g c items.toList Bs) (hu : A.units + c < cLine)
    (hk : ∀ d o, g.get? d = some o → s.heap.get? d = some o) (hsz : b + pileN Bs + 5 ≤ sizeLine) (h : ∀ (m : Str) (h' : Heap) u tk, m.length ≤ pileN Bs + 5 → (∀ d o, s.heap.get? d = some o → h'.get? d = some o) → Q (.done (.ret (.str m u))) { s with heap := h', toks := tk }) :
    wpAny (model prog w) A (Builtin.tupleReprAt b ⟨[.ref a], []⟩) Q E s := by
  rw [tuple_repr_tree]
  refine wpAny_bind (PySem.fmt_underWay fun t => ?_)
  cases t with
  | true =>
    refine PySem.W.KFB.if_so rfl ?_
    refine wpAny_bind (wpAny_rule ?_)
    refine wpAny_bind (wpAny_mkStr (wpAny_pure ?_) (by decide +kernel))
    exact h "(...)" s.heap _ _ (Nat.le_trans PySem.fmt_way (Nat.le_add_left _ _)) fun _ _ e => e
  | false =>
    refine PySem.W.KFB.if_not rfl ?_
    exact tupRest_some ha hd hT hu hk (by omega) fun m h' u tk hm k' => h m h' u tk (by omega) k'
theorem Shows.tuple {a : Addr} {o : Obj} {items : Array Value} {n : Nat} {Bs : List Nat} (ha : g.get? a = some o) (hc : o.cls = .type "tuple") (hd : o.data = .seq items n) (hT : ShowsAll prog w g c items.toList Bs) : Shows prog w g (.ref a) (pileN Bs + 5) (c + 1) := fun b hb A E s Q hu hk hQ => by
  refine wpAny_pyReprUnder_ref (by omega) (wpAny_pyReprObjUnder_twin (twin := "tuple.__repr__.under") ⟨o, hk _ _ ha, hc⟩ F.slot_tuple_repr rfl (by omega) ?_)
  refine call_twin_own (F.quiet_tuple_repr_under _) F.entry_tuple_repr_under F.check_tuple_repr_under ⟨o, hk _ _ ha, hc⟩ F.slot_tuple_repr (F.args_tuple_repr_1 _) (wpOwn_of_wpAny ?_)
  refine tup_some (hk _ _ ha) hd hT ?_ hk (by omega) fun m h' u tk hm k' => ?_
  · have e : (A.under (Code.builtin "tuple.__repr__.under" { pos := [Value.ref a, rawInt ↑b] })).units = A.units + 1 := by first | rfl | simp [Around.under, Code.cUnits, Code.frames, Code.isFrame]
    rw [e]; omega
  · exact ⟨⟨_, _, rfl⟩, _, _, rfl, hQ m h' tk hm k'⟩
theorem list_head {M : Model} {s : Shared} {Q : Fin → Shared → Prop} {a : Addr} {o : Obj} {items : Array Value} {n b : Nat} (hget : s.heap.get? a = some o) (hd : o.data = .seq items n)
    (h0 : Q (.done (.ret (.str "[]" s.toks))) { s with toks := s.toks + 1 }) (h1 : Q (.done (.ret (.str "[...]" s.toks))) { s with toks := s.toks + 1 })
    (h2 : wpAny M A (do again (.builtin "list.__repr__.loop" ⟨[.ref a, rawInt 0, ← newList [], rawInt b], []⟩)) Q E s) : wpAny M A (Builtin.listReprAt b ⟨[.ref a], []⟩) Q E s := by
  intro Γ p hΓ
  have h3 := h2 Γ p hΓ
  unfold Builtin.listReprAt
  simp [slotArgs, Builtin.List.listItems, seqItems?, Sem.wp_load_of (h := hget), hd, stack]
  split
  · simp [rule, retStr, ret]
    exact h0
  · simp
    show Sem.wp M Γ (if (Γ.below.any _) = true then _ else _) _ _ p s
    generalize (Γ.below.any _) = z
    cases z with
    | true =>
      rw [if_pos rfl]
      simp [rule, retStr, ret]
      exact h1
    | false =>
      rw [if_neg (by decide)]
      exact h3
def atN (Bs : List Nat) : Nat := pileN Bs
theorem pileN_drop {Bs : List Nat} {i B : Nat} (h : Bs[i]? = some B) : pileN (Bs.drop i) = B + 2 + pileN (Bs.drop (i + 1)) := by
  obtain ⟨hi, e⟩ := List.getElem?_eq_some_iff.mp h
  rw [List.drop_eq_getElem_cons hi, e, pileN_cons]
theorem showsAll_at {prog : Program} {w : World} {g : Heap} {c : Nat} : ∀ {l : List Value} {Bs : List Nat} {i : Nat} {x : Value}, ShowsAll prog w g c l Bs → l[i]? = some x → ∃ B, Bs[i]? = some B ∧ Shows prog w g x B c
  | _, _, _, _, .nil, e => by simp at e
  | _, _, 0, _, .cons h _, e => by
    obtain rfl := Option.some.inj e
    exact ⟨_, rfl, h⟩
  | _, _, i + 1, _, .cons _ t, e => showsAll_at (i := i) t e
theorem loop_some {R : Result → Shared → Prop} {a P : Addr} {b : Nat} (hne : a ≠ P) {items : Array Value} {Bs : List Nat} (hT : ShowsAll prog w g c items.toList Bs) (hu : A.units + 1 + c < cLine) (hgP : ∀ o, g.get? P = some o → False) (hsz : b + pileN Bs + 5 ≤ sizeLine) (hit : items.size ≤ 100000) :
    ∀ (k i : Nat) (s : Shared) (oa : Obj) (na : Nat) (acc : Array Value) (cc : Nat) (done : List (Str × Tok)), items.size - i = k → i ≤ items.size → (∀ d o, g.get? d = some o → s.heap.get? d = some o) →
    s.heap.get? a = some oa → oa.data = .seq items na →
    s.heap.get? P = some { cls := .type "list", dict := none, data := .seq acc cc, slots := #[] } → acc.toList = strValues done → done.length = i → piled (done.map (·.1)) + pileN (Bs.drop i) ≤ pileN Bs →
    (∀ (m : Str) h' u tk, m.length ≤ pileN Bs + 5 → (∀ d o, d ≠ P → s.heap.get? d = some o → h'.get? d = some o) → R (.ok (.ret (.str m u))) { s with heap := h', toks := tk }) →
    codeAny (model prog w) A (.builtin "list.__repr__.loop" ⟨[.ref a, rawInt i, .ref P, rawInt ((b + piled (done.map (·.1)) : Nat) : Int)], []⟩) R s := by
  intro k
  induction k with
  | zero =>
    intro i s oa na acc cc done hk hi hg ha hda hP hacc hdone hpile hR
    have hin : i = items.size := by omega
    refine codeAny_builtin F.entry_list_repr_loop ?_
    show wpAny _ _ (Builtin.«list.__repr__.loop» ⟨[.ref a, .int i 0, .ref P, .int ((b + piled (done.map (·.1)) : Nat) : Int) 0], []⟩) _ _ s
    rw [repr_loop_tree]
    refine wpAny_bind (wpAny_listItems ha hda ?_)
    have hnone : items[(i : Int).toNat]? = none := by simp [hin]
    simp only [hnone]
    unfold reprEnd
    refine wpAny_bind (wpAny_listItems hP rfl ?_)
    rw [hacc, repr_fold]
    refine wpAny_bind (wpAny_pure ?_)
    have hl := listText_len (done.map (·.1))
    refine wpAny_bind (wpAny_mkStr (wpAny_pure ?_) (show (listText (done.map (·.1))).length ≤ sizeLine by omega))
    exact hR (listText (done.map (·.1))) s.heap _ _ (by omega) fun _ _ _ e => e
  | succ k ih =>
    intro i s oa na acc cc done hk hi hg ha hda hP hacc hdone hpile hR
    have hlt : i < items.size := by omega
    obtain ⟨B, hB, hrep⟩ := showsAll_at (i := i) (x := items[i]) hT (by simp [hlt])
    have hp1 := pileN_drop hB
    refine codeAny_builtin F.entry_list_repr_loop ?_
    show wpAny _ _ (Builtin.«list.__repr__.loop» ⟨[.ref a, .int i 0, .ref P, .int ((b + piled (done.map (·.1)) : Nat) : Int) 0], []⟩) _ _ s
    rw [repr_loop_tree]
    refine wpAny_bind (wpAny_listItems ha hda ?_)
    have hsome : items[(i : Int).toNat]? = some items[i] := by simp [hlt]
    simp only [hsome]
    rw [Int.toNat_natCast]
    have hun : (A.under (.builtin "list.__repr__.loop" ⟨[.ref a, rawInt i, .ref P, rawInt ((b + piled (done.map (·.1)) : Nat) : Int)], []⟩)).units = A.units + 1 := by first | rfl | simp [Around.under, Code.cUnits, Code.frames, Code.isFrame]
    refine wpAny_bind (wpAny_holding (hrep (b + piled (done.map (·.1)) + 1) (by omega) _ _ s _ (by first | (show A.units + 1 + c < cLine; omega) | (show A.units + c < cLine; omega)) hg fun m h1 tk hm k1 => ?_))
    refine wpAny_bind (wpAny_mkStr ?_ (by omega))
    refine wpAny_bind ?_
    show wpAny _ _ (updateSeq P _) _ _ _
    have hasz : acc.size ≤ sizeLine := by
      have e1 : acc.toList.length = acc.size := by simp
      have e2 : (strValues done).length = done.length := by simp [strValues]
      have e3 : (100000 : Nat) ≤ sizeLine := by decide
      rw [hacc] at e1; omega
    have hP1 := k1 _ _ hP
    refine wpAny_updateSeq hP1 rfl (wpAny_pure ⟨F.quiet_list_repr_loop _, ?_⟩) hasz
    have e1 : ((i : Int) + 1) = ((i + 1 : Nat) : Int) := by omega
    have e2 : b + piled (done.map (·.1)) + (m.length + 2) = b + piled ((done ++ [(m, tk)]).map (·.1)) := by
      rw [List.map_append, piled_append]
      show _ = b + (_ + piled [m])
      rw [piled_cons]; show _ = b + (_ + (m.length + 2 + 0)); omega
    rw [e1, e2]
    have e4 : piled ((done ++ [(m, tk)]).map (·.1)) = piled (done.map (·.1)) + (m.length + 2) := by omega
    refine ih (i + 1) _ oa na (acc.push (.str m tk)) _ (done ++ [(m, tk)]) (by omega) hlt (fun d o e => ?_) ((Heap.get?_update_other _ _ (fun h : P = a => hne h.symm)).trans (k1 _ _ ha)) hda (Heap.get?_update_self _ hP1 rfl) (by simp [hacc, strValues]) (by simp [hdone]) (by omega) fun m2 h' u tk' hm2 hh => ?_
    · exact (Heap.get?_update_other _ _ (fun h : P = d => by rw [← h] at e; exact hgP o e)).trans (k1 _ _ (hg _ _ e))
    · exact hR m2 h' u tk' hm2 fun d o hd e => hh d o hd ((Heap.get?_update_other _ _ (fun h : P = d => hd h.symm)).trans (k1 _ _ e))
theorem list_fin {R : Result → Shared → Prop} {s : Shared} {a : Addr} {oa : Obj} {items : Array Value} {na b : Nat} {Bs : List Nat} (ha : s.heap.get? a = some oa) (hda : oa.data = .seq items na) (hT : ShowsAll prog w g c items.toList Bs) (hu : A.units + 1 + c < cLine)
    (hg : ∀ d o, g.get? d = some o → s.heap.get? d = some o) (hsz : b + pileN Bs + 5 ≤ sizeLine) (hit : items.size ≤ 100000)
    (hR : ∀ (m : Str) h' u tk, m.length ≤ pileN Bs + 5 → (∀ d o, s.heap.get? d = some o → h'.get? d = some o) → R (.ok (.ret (.str m u))) { s with heap := h', toks := tk }) :
    wpAny (model prog w) A.in1 (Builtin.listReprAt b ⟨[.ref a], []⟩)
      (fun fin s' => match fin with | .done f => R (.ok f) s' | .again c' => c'.quiet = true ∧ codeAny (model prog w) A c' R s') (fun e s' => R (.error e) s') s := by
  have l1 : (("[]" : String) : Str).length ≤ pileN Bs + 5 := Nat.le_trans (by decide +kernel : (("[]" : String) : Str).length ≤ 5) (Nat.le_add_left _ _)
  have l2 : (("[...]" : String) : Str).length ≤ pileN Bs + 5 := Nat.le_trans (by decide +kernel : (("[...]" : String) : Str).length ≤ 5) (Nat.le_add_left _ _)
  refine list_head ha hda (hR "[]" s.heap _ _ l1 fun _ _ e => e) (hR "[...]" s.heap _ _ l2 fun _ _ e => e) ?_
  refine wpAny_bind (m := newList []) (wpAny_newObj_type ?_)
  refine wpAny_pure ⟨F.quiet_list_repr_loop _, ?_⟩
  have e0 : (b : Int) = ((b + piled ((([] : List (Str × Tok))).map (·.1)) : Nat) : Int) := by simp [piled]
  rw [e0]
  refine loop_some (P := s.heap.objs.size) (Nat.ne_of_lt (Heap.lt_size ha)) hT hu (fun o e => absurd (Heap.lt_size (hg _ _ e)) (Nat.lt_irrefl _)) hsz hit items.size 0 _ oa na #[] _ [] (by omega) (Nat.zero_le _) (fun d o e => Heap.get?_push_of_some _ (hg d o e)) (Heap.get?_push_of_some _ ha) hda
    (Heap.get?_push_size _ rfl) rfl rfl (by simp [piled]) fun m h' u tk hm hk => ?_
  exact hR m h' u tk hm fun d o e => hk d o (Nat.ne_of_lt (Heap.lt_size e)) (Heap.get?_push_of_some _ e)
theorem Shows.list {a : Addr} {o : Obj} {items : Array Value} {n : Nat} {Bs : List Nat} (ha : g.get? a = some o) (hc : o.cls = .type "list") (hd : o.data = .seq items n) (hT : ShowsAll prog w g c items.toList Bs) (hit : items.size ≤ 100000) : Shows prog w g (.ref a) (pileN Bs + 5) (c + 3) := fun b hb A E s Q hu hk hQ => by
  refine wpAny_pyReprUnder_ref (by omega) (wpAny_pyReprObjUnder_twin (twin := "list.__repr__.under") ⟨o, hk _ _ ha, hc⟩ F.slot_list_repr.toG rfl (by omega) ?_)
  refine call_twin_plain F.plain_list_repr_under F.entry_list_repr_under F.check_list_repr_under ⟨o, hk _ _ ha, hc⟩ F.slot_list_repr.toG (F.args_list_repr_1 _) ?_
  refine list_fin (R := callEnd (fun v s' => (∃ x u, v = .str x u) ∧ ∃ x u, v = .str x u ∧ Q x s') E) (hk _ _ ha) hd hT (by omega) hk (by omega) hit fun m h' u tk hm k' => ?_
  exact ⟨⟨_, _, rfl⟩, _, _, rfl, hQ m h' tk hm k'⟩
end
/-- small data -/
def sm : Nat → PyData → Prop
  | 0, _ => False
  | _ + 1, .none => True
  | _ + 1, .bool _ => True
  | _ + 1, .int i => i.natAbs < 10 ^ 100
  | _ + 1, .str x => x.length ≤ 100 ∧ ∀ c ∈ x.cps.toList, c < 1000
  | m + 1, .list xs => xs.length ≤ 12 ∧ ∀ x ∈ xs, sm m x
  | m + 1, .tuple xs => xs.length ≤ 12 ∧ ∀ x ∈ xs, sm m x
  | _ + 1, .dict _ => False
def bN : Nat → Nat
  | 0 => 2000
  | m + 1 => 12 * (bN m + 2) + 5
theorem bN_ge : ∀ m, 2000 ≤ bN m
  | 0 => Nat.le_refl _
  | m + 1 => by have := bN_ge m; simp only [bN]; omega
theorem log_small {i : Int} (h : i.natAbs < 10 ^ 100) : i.natAbs.log2 < 1920 := by
  refine PySem.Flt.log2_lt_of (by decide) (Nat.lt_of_lt_of_le h ?_)
  decide +kernel
theorem pile_const {B : Nat} : ∀ {n : Nat}, n ≤ 12 → pileN (List.replicate n B) ≤ 12 * (B + 2) := by
  intro n h
  have e : pileN (List.replicate n B) = n * (B + 2) := by
    unfold pileN
    rw [List.map_replicate, List.sum_replicate_nat]
  rw [e]
  exact Nat.mul_le_mul_right _ h
theorem Shows.mono {prog : Program} {w : World} {g : Heap} {x : Value} {B C c d : Nat} (h : Shows prog w g x B c) (hb : B ≤ C) (hc : c ≤ d) : Shows prog w g x C d :=
  fun b hb' A E s Q hu hk hQ => h b (by omega) A E s Q (by omega) hk fun m h' tk hm => hQ m h' tk (by omega)
section
variable {X : Cx} {pins : List (Addr × Obj)} {σ : St} {H : Hp} {s : Shared}
theorem shows_all {B c : Nat} : ∀ {vs : List V} {us : List Value} {ds : List PyData}, Vals vs us → DpAll X.K H vs ds → (∀ d ∈ ds, ∀ v u, Dp X.K H v d → RelV v u → Shows X.prog X.w s.heap u B c) → ShowsAll X.prog X.w s.heap c us (List.replicate ds.length B)
  | _, _, _, .nil, .nil, _ => .nil
  | _, _, _, .cons r t, .cons h k, hd => .cons (hd _ List.mem_cons_self _ _ h r) (shows_all t k fun d hm => hd d (List.mem_cons_of_mem _ hm))
theorem shows_leaf (I : Inv X pins σ H s) (m : Nat) : ∀ (d : PyData) (v : V) (u : Value), Dp X.K H v d → RelV v u → sm (m + 1) d → (∀ xs, d ≠ .list xs) → (∀ xs, d ≠ .tuple xs) → Shows X.prog X.w s.heap u 2000 0 := by
  intro d v u hv r hd n1 n2
  cases hv with
  | non =>
    obtain rfl : u = .none := r
    exact .of ReprIs.none (by decide +kernel)
  | bl b =>
    obtain rfl : u = .bool b := r
    exact .of (ReprIs.bool b) (by cases b <;> decide +kernel)
  | int i =>
    obtain ⟨t, rfl⟩ := r
    simp only [sm] at hd
    exact .of (ReprIs.int t (log_small hd)) (Nat.le_trans (PyProof.Rows.int_text_len_1921 (log_small hd)) (by decide))
  | str x =>
    obtain ⟨t, rfl⟩ := r
    simp only [sm] at hd
    have hl := StrLaws.reprText_len x fun c hc => Nat.lt_trans (hd.2 c hc) (by decide)
    exact .of (ReprIs.str x t (by have : (2000 : Nat) ≤ sizeLine := by decide
                                  omega)) (by omega)
  | lst h1 h2 => exact absurd rfl (n1 _)
  | tup h1 h2 => exact absurd rfl (n2 _)
theorem shows_lst (I : Inv X pins σ H s) {B c : Nat} {v : V} {u : Value} {ds : List PyData} (hv : Dp X.K H v (.list ds)) (r : RelV v u) (hl : ds.length ≤ 12) (hd : ∀ d ∈ ds, ∀ v u, Dp X.K H v d → RelV v u → Shows X.prog X.w s.heap u B c) :
    Shows X.prog X.w s.heap u (12 * (B + 2) + 5) (c + 3) := by
  obtain ⟨a, xs, rfl, h1, h2⟩ := dp_lst hv
  obtain rfl : u = .ref a := r
  obtain ⟨its, rv, ⟨o, n, ho, hc, _, hdt⟩, hz⟩ := I.list h1
  have e1 := dpAll_len h2
  have e2 := rv.length
  refine (Shows.list ho hc hdt (shows_all rv h2 hd) (by rw [List.size_toArray]; omega)).mono ?_ (Nat.le_refl _)
  have := pile_const (B := B) hl
  omega
theorem shows_tup (I : Inv X pins σ H s) {B c : Nat} {v : V} {u : Value} {ds : List PyData} (hv : Dp X.K H v (.tuple ds)) (r : RelV v u) (hl : ds.length ≤ 12) (hd : ∀ d ∈ ds, ∀ v u, Dp X.K H v d → RelV v u → Shows X.prog X.w s.heap u B c) :
    Shows X.prog X.w s.heap u (12 * (B + 2) + 5) (c + 3) := by
  obtain ⟨a, xs, rfl, h1, h2⟩ := dp_tup hv
  obtain rfl : u = .ref a := r
  obtain ⟨its, rv, ⟨o, ho, hc, n, hdt⟩, hz⟩ := I.tuple h1
  refine (Shows.tuple ho hc hdt (shows_all rv h2 hd)).mono ?_ (by omega)
  have := pile_const (B := B) hl
  omega
theorem shows_sm (I : Inv X pins σ H s) : ∀ (m : Nat) (d : PyData) (v : V) (u : Value), Dp X.K H v d → RelV v u → sm (m + 1) d → Shows X.prog X.w s.heap u (bN (m + 1)) (3 * m + 3) := by
  intro m
  induction m with
  | zero =>
    intro d v u hv r hd
    cases d with
    | list ds =>
      simp only [sm] at hd
      exact (shows_lst (B := 2000) (c := 0) I hv r hd.1 fun d hm => absurd (hd.2 d hm) (by simp)).mono (Nat.le_refl _) (by omega)
    | tuple ds =>
      simp only [sm] at hd
      exact (shows_tup (B := 2000) (c := 0) I hv r hd.1 fun d hm => absurd (hd.2 d hm) (by simp)).mono (Nat.le_refl _) (by omega)
    | dict ds => simp [sm] at hd
    | _ => exact (shows_leaf I 0 _ v u hv r hd (fun _ z => by cases z) (fun _ z => by cases z)).mono (bN_ge 1) (by omega)
  | succ m ih =>
    intro d v u hv r hd
    cases d with
    | list ds =>
      simp only [sm] at hd
      exact (shows_lst I hv r hd.1 fun d hm v u h1 h2 => ih d v u h1 h2 (hd.2 d hm)).mono (Nat.le_refl _) (by omega)
    | tuple ds =>
      simp only [sm] at hd
      exact (shows_tup I hv r hd.1 fun d hm v u h1 h2 => ih d v u h1 h2 (hd.2 d hm)).mono (Nat.le_refl _) (by omega)
    | dict ds => simp [sm] at hd
    | _ => exact (shows_leaf I (m + 1) _ v u hv r hd (fun _ z => by cases z) (fun _ z => by cases z)).mono (bN_ge _) (by omega)
/-- repr itself, for an f-string -/
theorem repr_obj (I : Inv X pins σ H s) {d : PyData} {v : V} {u : Value} {E : Value → Shared → Prop} {Q : Value → Shared → Prop} {A : Around} (hv : Dp X.K H v d) (r : RelV v u) (hd : sm 3 d) (hu : A.units + 40 < cLine)
    (hQ : ∀ (m : Str) (h' : Heap) u tk, m.length ≤ 3500000 → (∀ d o, s.heap.get? d = some o → h'.get? d = some o) → Q (.str m u) { s with heap := h', toks := tk }) : wpAny (model X.prog X.w) A (pyReprObj u) Q E s := by
  have line : (3500100 : Nat) ≤ sizeLine := by decide
  have b2 : 12 * (bN 2 + 2) + 5 ≤ 3500000 := by decide
  cases d with
  | none =>
    cases hv
    obtain rfl : u = .none := r
    exact pyReprObj_none (hQ "None" s.heap _ _ (Nat.le_trans (by decide +kernel : _ ≤ 10) (by decide)) fun _ _ e => e)
  | bool b =>
    cases hv
    obtain rfl : u = .bool b := r
    exact pyReprObj_bool (hQ _ s.heap _ _ (Nat.le_trans (by cases b <;> decide +kernel : _ ≤ 10) (by decide)) fun _ _ e => e)
  | int i =>
    cases hv
    obtain ⟨t, rfl⟩ := r
    simp only [sm] at hd
    exact pyReprObj_int (log_small hd) (hQ _ s.heap _ _ (Nat.le_trans (PyProof.Rows.int_text_len_1921 (log_small hd)) (by decide)) fun _ _ e => e)
  | str x =>
    cases hv
    obtain ⟨t, rfl⟩ := r
    simp only [sm] at hd
    have hl := StrLaws.reprText_len x fun c hc => Nat.lt_trans (hd.2 c hc) (by decide)
    exact pyReprObj_str (hQ _ s.heap _ _ (by omega) fun _ _ e => e) (by omega)
  | dict kvs => simp [sm] at hd
  | list ds =>
    simp only [sm] at hd
    obtain ⟨a, xs, rfl, h1, h2⟩ := dp_lst hv
    obtain rfl : u = .ref a := r
    obtain ⟨its, rv, ⟨o, n, ho, hc, _, hdt⟩, hz⟩ := I.list h1
    have hT : s.TypeIs (.ref a) "list" := ⟨o, ho, hc⟩
    have e1 := dpAll_len h2
    have e2 := rv.length
    have all := shows_all (B := bN 2) (c := 6) rv h2 fun d hm v u h1 h2 => shows_sm I 1 d v u h1 h2 (hd.2 d hm)
    have hp := pile_const (B := bN 2) hd.1
    unfold pyReprObj
    refine wpAny_bind (wpAny_cRoomFor (by omega) ?_)
    refine wpAny_bind (wpAny_specialOf (name := Str.ofString "__repr__") hT F.slot_list_repr.lookup ?_)
    refine wpAny_bind (m := callSpecialIfBound? (.ref a) (Str.ofString "__repr__")) (wpAny_callSpecialIfBound?_slot (name := Str.ofString "__repr__") hT F.slot_list_repr ?_)
    refine wpAny_call (codeAny_call_builtin F.slot_list_repr.plain F.entry_list_repr (F.slot_list_repr.check _ _ _ _ _ _ _ _ hT (F.args_list_repr_1 _) ?_))
    refine list_fin (b := 0) (g := s.heap) (c := 6) (R := callEnd _ E) ho hdt all (by omega) (fun _ _ e => e) (by omega) (by rw [List.size_toArray]; omega) fun m h' u tk hm k' => ?_
    exact wpAny_bind (wpAny_isInstance (T := "str") (b := true) rfl isSubtype_str_str (wpAny_pure (hQ m h' u tk (by omega) k')))
  | tuple ds =>
    simp only [sm] at hd
    obtain ⟨a, xs, rfl, h1, h2⟩ := dp_tup hv
    obtain rfl : u = .ref a := r
    obtain ⟨its, rv, ⟨o, ho, hc, n, hdt⟩, hz⟩ := I.tuple h1
    have hT : s.TypeIs (.ref a) "tuple" := ⟨o, ho, hc⟩
    have all := shows_all (B := bN 2) (c := 6) rv h2 fun d hm v u h1 h2 => shows_sm I 1 d v u h1 h2 (hd.2 d hm)
    have hp := pile_const (B := bN 2) hd.1
    unfold pyReprObj
    refine wpAny_bind (wpAny_cRoomFor (by omega) ?_)
    refine wpAny_bind (wpAny_specialOf (name := Str.ofString "__repr__") hT F.slot_tuple_repr.lookup ?_)
    refine wpAny_bind (m := callSpecialIfBound? (.ref a) (Str.ofString "__repr__")) (wpAny_callSpecialIfBound?_slotG (name := Str.ofString "__repr__") hT F.slot_tuple_repr ?_)
    refine wpAny_call (codeAny_call_builtin_own (Code.quiet_builtin _ (by decide +kernel)) F.entry_tuple_repr (F.slot_tuple_repr.check _ _ _ _ _ _ _ _ hT (F.args_tuple_repr_1 _) (wpOwn_of_wpAny ?_)))
    refine tup_some (b := 0) (g := s.heap) (c := 6) ho hdt all ?_ (fun _ _ e => e) (by omega) fun m h' u tk hm k' => ?_
    · have e : (A.under (Code.builtin "tuple.__repr__" { pos := [Value.ref a] })).units = A.units + 1 := by first | rfl | simp [Around.under, Code.cUnits, Code.frames, Code.isFrame]
      rw [e]; omega
    · exact wpAny_bind (wpAny_isInstance (T := "str") (b := true) rfl isSubtype_str_str (wpAny_pure (hQ m h' u tk (by omega) k')))
/-- {x!r} of small data: some text -/
def tShow (K : PySem.W.Frag) (te : TE) : TE := fun σ H Q => te σ H fun x H1 => ∃ d, Dp K H1 x d ∧ sm 3 d ∧ ∀ m : Str, m.length ≤ 3500000 → Q (.str m) H1
theorem pe_show {k : Nat} {e : Expr} {te : TE} {pos : Pos} (hr : Room k X.A) (he : PE X e te) : PE X (.FormattedValue e 114 none pos) (tShow X.K te) := by
  refine ⟨fun pins s σ H Q I h => ?_⟩
  have hu := hr.units
  refine wpAny_FormattedValue_repr (thn (he.run pins s σ H _ I h) fun v s1 hv => ?_)
  obtain ⟨x, H1, I1, r1, d, hd, hs, q⟩ := hv
  refine repr_obj I1 hd r1 hs (by omega) fun m h' u tk hm k' => ?_
  have line : (3500100 : Nat) ≤ sizeLine := by decide
  exact wpAny_formatField_str ⟨.str m, H1, I1.kept (t' := tk) k', ⟨_, rfl⟩, q m hm⟩ ⟨.str m, H1, (I1.kept (t' := tk) k').tok _, ⟨_, rfl⟩, q m hm⟩ (by omega)
end
/-! ### the errors' __init__: super().__init__(f"..{x!r}"); self.x = x -/
def eArgs (x : Str) (p1 p2 : Pos) : Arguments := { posonlyargs := [], args := [{ arg := "self", annotation := none, pos := p1 }, { arg := x, annotation := none, pos := p2 }], vararg := none, kwonlyargs := [], kw_defaults := [], kwarg := none, defaults := [] }
def eSup (x txt : Str) (j : Nat) (p0 p1 p2 p3 p4 p5 p6 p7 : Pos) : Expr := .Call (.Attribute (.Call (.Name "super" p0) [] [] p1) "__init__" p2) [.JoinedStr [.Constant (.str txt) j p3, .FormattedValue (.Name x p4) 114 none p5] p6] [] p7
def eBody (x txt : Str) (j : Nat) (p0 p1 p2 p3 p4 p5 p6 p7 p8 q1 q2 q3 q4 : Pos) : List Stmt := [.Expr (eSup x txt j p0 p1 p2 p3 p4 p5 p6 p7) p8, .Assign [.Attribute (.Name "self" q1) x q2] (.Name x q3) q4]
def eScope (x : Str) (mr : List (Str × Const)) : Scope := { kind := .function, names := [("self", .local), (x, .local), ("__class__", .free), ("super", .globalImplicit)], isGenerator := false, isCoroutine := false, more := mr }
/-- how the call of super().__init__ is evaluated -/
def SupEv (x txt : Str) (j : Nat) (p0 p1 p2 p3 p4 p5 p6 p7 : Pos) : Prop := ∀ env : Env, ∃ pl : Sem Bool, eval (eSup x txt j p0 p1 p2 p3 p4 p5 p6 p7) env = (do
  let ov ← attributeBase (.Call (.Name "super" p0) [] [] p1) "__init__" env (eval (.Call (.Name "super" p0) [] [] p1) env)
  standAt p2.atName
  let (f, first) ← holding [ov] (getMethod ov "__init__" pl)
  callWith p7 f first (backTo p7 (starEach [.JoinedStr [.Constant (.str txt) j p3, .FormattedValue (.Name x p4) 114 none p5] p6] env)) [])
structure NmOk (x : Str) : Prop where
  n1 : (x == ("self" : Str)) = false
  n2 : (x == ("__class__" : Str)) = false
  n3 : (x == ("super" : Str)) = false
  n4 : (x == ("__debug__" : Str)) = false
  n5 : (x == ("__classdict__" : Str)) = false
theorem bne_symm {x y : Str} (h : (x == y) = false) : (y == x) = false := by
  have := beq_eq_false_iff_ne.mp h
  exact beq_eq_false_iff_ne.mpr (Ne.symm this)
theorem NmOk.loc {x : Str} (n : NmOk x) (mr : List (Str × Const)) : (eScope x mr).names.lookup x = some .local := by
  show List.lookup x [(("self" : Str), NameKind.local), (x, .local), ("__class__", .free), ("super", .globalImplicit)] = _
  simp only [List.lookup, n.n1, beq_self_eq_true]
/-- what the written part says of such a class at C, its __init__ at fI, the cell of __class__ at cc -/
structure ErrIn (P : Program) (K : PySem.W.Frag) (mg : Str → Option Value) (name x : Str) (C fI cc : Addr) (fd : FuncData) : Prop where
  gC : mg name = some (.ref C)
  o : OexC K C
  noX : PySem.W.findIn K (.ref C) x = some none
  iC : PySem.W.findIn K (.ref C) "__init__" = some (some (.ref fI))
  tI : PySem.W.typeIn K (.ref fI) = some (.type "function")
  fn : ∃ (oc : Value) (od : Option Addr) (qual txt : Str) (j : Nat) (mr : List (Str × Const)) (doc pm : Value) (an : Option Addr) (cda : Addr) (ct : Value) (osl : Array (Option Value)) (r1 r2 p0 p1 p2 p3 p4 p5 p6 p7 p8 q1 q2 q3 q4 : Pos),
    fd = PySem.W.ksFn "__init__" qual (eArgs x r1 r2) (eBody x txt j p0 p1 p2 p3 p4 p5 p6 p7 p8 q1 q2 q3 q4) (eScope x mr) .none .none doc pm an (.ref cda) ct cc ∧
    K.lookup fI = some ⟨oc, od, .func fd, osl⟩ ∧ PySem.W.codeIn K (.ref cda) qual = true ∧ txt.length ≤ 1000 ∧ SupEv x txt j p0 p1 p2 p3 p4 p5 p6 p7 ∧
    ∃ (ccl : Value) (cdd : Option Addr) (vs : Array Value) (ccs : Array (Option Value)) (file : Str) (tf : Tok), K.lookup cda = some ⟨ccl, cdd, .fields vs, ccs⟩ ∧ vs[2]? = some (.str file tf) ∧ ((P.main.file : Str) == file) = true
  cell : ∃ (cl : Value) (cld : Option Addr) (csl : Array (Option Value)), K.lookup cc = some ⟨cl, cld, .cell (some (.ref C)), csl⟩
  cls : ∃ cd, PySem.W.clsIn K C = some cd
  subC : PySem.W.mroIn K C (.ref C) = some true
  sup : mg "super" = none
  top : (P.main.scope.names.lookup ("super" : Str)).isSome = false
  opq : PySem.W.nsIn K cStatics "thirdparty.any" = some none
  up : PySem.W.ks_superIn K C C "__init__" = some (some (.builtin "ValueError.__init__"))
  subV : PySem.W.subIn K (.ref C) (.type "ValueError") = some true
/-- C(x): the error keeps what it was given -/
def spErr (K : PySem.W.Frag) (C : Addr) (x : Str) : Sp := fun vs H Q _ => ∃ (a : Addr) (v : V) (d : PyData), vs = [.ref a, v] ∧ H a = some (exo a C none) ∧ Dp K H v d ∧ sm 3 d ∧
  ∀ dx, H dx = none → dx ≠ a → Q .non (upd (upd H dx (exd dx [(x, v)])) a (exo a C (some dx)))
section
variable {P : Program} {w : World} {K : PySem.W.Frag} {mg : Str → Option Value} {base : Heap}
def cxE (P : Program) (w : World) (K : PySem.W.Frag) (mg : Str → Option Value) (base : Heap) (x qual : Str) (sc : Scope) (f cc : Addr) (cd : Value) (A : Around) (outer : List Env) (s : Shared) (H : Hp) : Cx where
  prog := P
  w := w
  K := K
  mg := mg
  base := base
  A := A.deeper (PySem.W.ksEnv qual sc s.heap.objs.size f cd cc)
  N := ["self", x]
  s_0 := s
  H_0 := H
  env := PySem.W.ksEnv qual sc s.heap.objs.size f cd cc
  outer := outer
  stack := PySem.W.ksEnv qual sc s.heap.objs.size f cd cc :: outer
  ex := []
  calm := true
  fn := fun _ => false
  pn := []
  xe := fun _ _ => False
theorem inv_err {x qual : Str} {mr : List (Str × Const)} {f cc : Addr} {cd : Value} {A : Around} {outer : List Env} {s : Shared} {H : Hp} {h1 : Heap} {tk : Nat} {u0 u1 : Value} {v0 v1 : V} {oc : Obj} {cv : Value} (nx : NmOk x) (hd : A.handled = none) (e0 : Env0 P w K mg base A outer s H)
    (hc : K.lookup cc = some oc) (hcc : oc.data = .cell (some cv)) (r0 : RelV v0 u0) (r1 : RelV v1 u1) (hns : h1.Ns s.heap.objs.size (fun y => [(("self" : Str), u0), (x, u1)].reverse.lookup y)) (hk : ∀ b o, s.heap.get? b = some o → h1.get? b = some o) :
    Inv (cxE P w K mg base x qual (eScope x mr) f cc cd A outer s H) [] [some v0, some v1] H { s with heap := h1, toks := tk } := by
  have hb : base.get? cc = some oc := e0.mod.kin _ _ hc
  obtain ⟨hs, hH⟩ := e0.bs _ _ hb
  have one : ∀ y c, List.lookup y [(("__class__" : Str), cc)] = some c → y = "__class__" ∧ c = cc := fun y c h => by
    cases q : (y == ("__class__" : Str)) with
    | true =>
      simp only [List.lookup, q] at h
      exact ⟨beq_iff_eq.mp q, (Option.some.inj h).symm⟩
    | false => simp [List.lookup, q] at h
  have noA : ∀ b : Addr, b ∉ (cxE P w K mg base x qual (eScope x mr) f cc cd A outer s H).ex := fun b z => absurd (show b ∈ ([] : List Addr) from z) (by simp)
  refine ⟨⟨e0.mod, rfl, rfl, rfl, Nat.le_refl _, fun y z c h1 h2 => ?_, fun y hy => ?_, fun y c h => (by cases h), fun _ => hd, Around.frames_deeper e0.frames, .inr ⟨rfl, rfl⟩, fun b z => absurd z (noA b), e0.bs, e0.bsz, fun b _ _ => noA b, fun b z => absurd z (noA b), e0.funs, e0.frf⟩,
    rfl, e0.bare, Un.kept hk, ⟨_, hns, fun i y v h1 h2 h3 => ?_⟩, fun y c h => ?_, e0.hok.fresh (Nat.le_refl _), fun y c h => ?_, fun p hp => absurd (show p ∈ ([] : List (Addr × Obj)) from hp) (by simp), e0.hok.kept hk, rfl⟩
  · rw [(one _ _ h1).1, (one _ _ h2).1]
  · have hy : (eScope x mr).names.lookup y = some .cell ∨ (eScope x mr).names.lookup y = some .free := hy
    have : y = "__class__" := by
      have e : (eScope x mr).names.lookup y = List.lookup y [(("self" : Str), NameKind.local), (x, .local), ("__class__", .free), ("super", .globalImplicit)] := rfl
      rw [e] at hy
      cases a1 : (y == ("self" : Str)) with
      | true => simp [List.lookup, a1] at hy
      | false =>
        cases a2 : (y == x) with
        | true => simp [List.lookup, a1, a2] at hy
        | false =>
          cases a3 : (y == ("__class__" : Str)) with
          | true => exact beq_iff_eq.mp a3
          | false =>
            cases a4 : (y == ("super" : Str)) with
            | true => simp [List.lookup, a1, a2, a3, a4] at hy
            | false => simp [List.lookup, a1, a2, a3, a4] at hy
    subst this
    exact ⟨cc, rfl⟩
  · have hy : [("self" : Str), x][i]? = some y := h1
    cases i with
    | zero =>
      obtain rfl := Option.some.inj hy
      obtain rfl : v0 = v := Option.some.inj (Option.some.inj h2)
      refine ⟨u0, r0, .inl ⟨rfl, ?_⟩⟩
      show List.lookup ("self" : Str) [(x, u1), (("self" : Str), u0)] = some u0
      have z := bne_symm nx.n1
      simp only [List.lookup, z, beq_self_eq_true]
    | succ i =>
      cases i with
      | zero =>
        obtain rfl := Option.some.inj hy
        obtain rfl : v1 = v := Option.some.inj (Option.some.inj h2)
        refine ⟨u1, r1, .inl ⟨nx.loc mr, ?_⟩⟩
        show List.lookup x [(x, u1), (("self" : Str), u0)] = some u1
        simp only [List.lookup, beq_self_eq_true]
      | succ i => simp at hy
  · obtain ⟨_, rfl⟩ := one _ _ h
    exact ⟨_, oc, hk _ _ hs, hcc⟩
  · obtain ⟨_, rfl⟩ := one _ _ h
    exact hH
/-- behind the wrapper's call: the arguments are laid anew, the error stays as it is told -/
theorem call_wrap {X : Cx} {pins : List (Addr × Obj)} {σ : St} {H : Hp} {s : Shared} {u a C : Addr} {us : List Value} {A : Around} {E : Value → Shared → Prop} {Q : Value → Shared → Prop} (T : OexC X.K C) (I : Inv X pins σ H s) (hu : s.heap.get? u = some (PySem.W.kxs_mw "ValueError.__init__" a)) (e : H a = some (exo a C none)) (hl : us.length ≤ sizeLine)
    (h : ∀ s', Inv X pins σ H s' → Q .none s') : wpAny (model X.prog X.w) A (call (.ref u) us) Q E s := by
  obtain ⟨nm, q, N, bs, bm, sn, sub, ab, col, dd, k0, k1, k2, k3, k5, hC, hbm⟩ := T.cls
  obtain ⟨t1, ho⟩ := exo_at I.hok e
  obtain ⟨hp, g, d, t, os⟩ := s
  refine wpAny_call (codeAny_of_tree ?_)
  show wpAny _ A.in1 (callAny (.ref u) ⟨us, []⟩) _ _ _
  simp only [callAny]
  refine wpAny_bind (wpAny_load hu ?_)
  simp only [PySem.W.kxs_mw, show (Value.type "method-wrapper" == Value.type "method" || Value.type "method-wrapper" == Value.type "builtin_function_or_method" || Value.type "method-wrapper" == Value.type "method-wrapper") = true by decide, if_true]
  refine PySem.W.KFB.if_so (by decide) ?_
  refine wpAny_bind (PySem.W.check_bound_init F.excBase_ValueError.toExcCallFacts (I.kIn _ _ hC) ho rfl ?_)
  refine wpAny_bind (wpAny_pure (wpAny_pure ?_))
  refine ⟨plainId_quiet F.excBase_ValueError.init.plain _, codeAny_builtin F.excBase_ValueError.initEntry ?_⟩
  refine PySem.W.exc_init_tree (cls := .ref C) (t0 := t1) (dv := none) (c2 := .none) (c3 := .none) (b4 := .bool false) ho hl fun h' k he _ => ?_
  have J := I.write (t' := t) (x := a) (e := a) (o := exo a C none) (by rw [e]; exact True.intro) (.inl rfl) k ⟨_, he⟩ (exo_ok he)
  have eu : upd H a (exo a C none) = H := by
    funext b
    by_cases hb : b = a
    · rw [hb, upd_same, e]
    · rw [upd_ne hb]
  rw [eu] at J
  exact h _ J
theorem ok_err {name x : Str} {C fI cc : Addr} {fd : FuncData} (nx : NmOk x) (T : ErrIn P K mg name x C fI cc fd) : FnOk P w K mg base CX0 1 fI fd ["self", x] (spErr K C x) := by
  refine ⟨fun vs H Q E h => ?_, fun A outer s H args us vs Q E hr e0 hb r hsp => ?_⟩
  · obtain ⟨a, v, d, rfl, _⟩ := h
    rfl
  obtain ⟨oc, od, qual, txt, j, mr, doc, pm, an, cda, ct, osl, r1, r2, p0, p1, p2, p3, p4, p5, p6, p7, p8, q1, q2, q3, q4, rfl, lk, hcd, htl, hev, ccl, cdd, fvs, ccs, file, tf, hcode, hvs, hfile⟩ := T.fn
  obtain ⟨cl, cld, csl, hcell⟩ := T.cell
  obtain ⟨cdD, hD⟩ := T.cls
  obtain ⟨a, v, d, rfl, ha, hv, hsm, kk⟩ := hsp
  obtain ⟨u0, u1, rfl, ru0, ru1⟩ := Vals.two r
  obtain rfl : u0 = Value.ref a := ru0
  have KX : K.In s.heap := e0.mod.kin.keeps fun b o e => (e0.bs b o e).1
  have lim : s.heap.NoLimit := e0.mod.nolimit.keeps fun b o e => (e0.bs b o e).1
  refine PySem.ks_codeAny_call_defAt (fd := PySem.W.ksFn "__init__" qual (eArgs x r1 r2) (eBody x txt j p0 p1 p2 p3 p4 p5 p6 p7 p8 q1 q2 q3 q4) (eScope x mr) .none .none doc pm an (.ref cda) ct cc)
    (body := eBody x txt j p0 p1 p2 p3 p4 p5 p6 p7 p8 q1 q2 q3 q4) hr.depth (KX _ _ lk) rfl lim (PySem.W.codeRec_of KX hcd) rfl hb ?_ ?_ (fun h₁ hns hk₁ => ?_) rfl rfl rfl
  · intro y hy
    have hy' : y ∈ [(("self" : Str), NameKind.local), (x, .local), ("__class__", .free), ("super", .globalImplicit)] := hy
    simp only [List.mem_cons, List.not_mem_nil, or_false] at hy'
    rcases hy' with rfl | rfl | rfl | rfl <;> (intro z; cases z)
  · intro y hy
    have hy' : y ∈ [(("self" : Str), Value.ref a), (x, u1)] := hy
    simp only [List.mem_cons, List.not_mem_nil, or_false] at hy'
    rcases hy' with rfl | rfl
    · rfl
    · exact nx.loc mr
  have I : Inv (cxE P w K mg base x qual (eScope x mr) fI cc (.ref cda) A outer s H) [] [some (.ref a), some v] H { s with heap := h₁, toks := s.toks + 2 } := inv_err nx hr.hd e0 hcell rfl rfl ru1 hns hk₁
  have hdne : (("self" : Str) == ("__debug__" : Str)) = false := by decide
  have P1 : PE (cxE P w K mg base x qual (eScope x mr) fI cc (.ref cda) A outer s H) (.Name x p4) (tVar 1) := pe_var rfl (.inl (nx.loc mr)) nx.n4 nx.n5
  have P1' : PE (cxE P w K mg base x qual (eScope x mr) fI cc (.ref cda) A outer s H) (.Name x q3) (tVar 1) := pe_var rfl (.inl (nx.loc mr)) nx.n4 nx.n5
  have P0 : PE (cxE P w K mg base x qual (eScope x mr) fI cc (.ref cda) A outer s H) (.Name "self" q1) (tVar 0) := pe_var rfl (.inl rfl) hdne (by decide)
  have hr0 : Room 0 (cxE P w K mg base x qual (eScope x mr) fI cc (.ref cda) A outer s H).A := hr.deeper _
  have PJ1 : PE (cxE P w K mg base x qual (eScope x mr) fI cc (.ref cda) A outer s H) (.JoinedStr [.Constant (.str txt) j p3, .FormattedValue (.Name x p4) 114 none p5] p6) _ := pe_joined (.cons pe_str (.cons (pe_show hr0 P1) .nil))
  obtain ⟨pl, hev⟩ := hev (PySem.W.ksEnv qual (eScope x mr) s.heap.objs.size fI (.ref cda) cc)
  refine PySem.ks_wpAt_execs_cons (PySem.ks_wpAt_Expr_any (PySem.ks_wpAt_MethodCall (pl := pl) ?_ hev))
  have hs1 := hk₁ _ _ (KX _ _ lk)
  have zs : List.lookup ("super" : Str) [(("self" : Str), NameKind.local), (x, .local), ("__class__", .free), ("super", .globalImplicit)] = some .globalImplicit := by
    have z1 := bne_symm nx.n3
    have z2 : (("super" : Str) == ("self" : Str)) = false := by decide
    have z3 : (("super" : Str) == ("__class__" : Str)) = false := by decide
    simp only [List.lookup, z1, z2, z3, beq_self_eq_true]
  have zc : List.lookup ("__class__" : Str) [(("self" : Str), NameKind.local), (x, .local), ("__class__", .free), ("super", .globalImplicit)] = some .free := by
    have z1 := bne_symm nx.n2
    have z2 : (("__class__" : Str) == ("self" : Str)) = false := by decide
    simp only [List.lookup, z1, z2, beq_self_eq_true]
  have zn : List.lookup ("self" : Str) [(x, u1), (("self" : Str), Value.ref a)] = some (.ref a) := by
    have z1 := bne_symm nx.n1
    simp only [List.lookup, z1, beq_self_eq_true]
  obtain ⟨mb, hmb1, hmb2⟩ := I.mod.blt
  obtain ⟨oD, hoD1, hoD2⟩ : ∃ oD, h₁.get? C = some oD ∧ oD.data = .cls cdD := by
    unfold PySem.W.clsIn at hD
    split at hD
    · rename_i c d cd' sl ho
      cases hD
      exact ⟨_, hk₁ _ _ (KX _ _ ho), rfl⟩
    · cases hD
  obtain ⟨t1, hoa⟩ := exo_at I.hok ha
  refine PySem.ks_wpAt_super_base (env := PySem.W.ksEnv qual (eScope x mr) s.heap.objs.size fI (.ref cda) cc) zs zc (by decide) rfl hs1 rfl (ar := { arg := "self", annotation := none, pos := r1 }) rfl rfl (hk₁ _ _ (KX _ _ hcode)) rfl hvs hfile T.top ?_
  refine PySem.W.ks_loadName_global rfl zs (Calls.loadGlobal_builtin (env := PySem.W.ksEnv qual (eScope x mr) s.heap.objs.size fI (.ref cda) cc) (I.mod.glob.keeps I.bk) T.sup (hmb1.keeps I.bk) ((hmb2 _ (by decide)).trans PyProof.Rows.Boot.«super») ⟨rfl, ?_⟩)
  refine wpAny_loadName_free rfl zc rfl ⟨_, hk₁ _ _ (KX _ _ hcell), rfl⟩ ?_
  refine wpAny_loadName_local rfl rfl hns zn ?_
  refine PySem.ks_wpAny_isType_cls hoD1 hoD2 ⟨rfl, ?_⟩
  refine PySem.ks_wpAny_call_super hoD1 hoD2 hoa rfl (fun c z => by cases z) (PySem.W.looks_mroIn I.kIn T.subC) (fun h2 hso k2 => ?_)
  have I2 := I.kept (t' := s.toks + 2) k2
  have hIn : PySem.W.InstAt h2 a (PySem.HandSPX.excO C t1) C none := ⟨k2 _ _ hoa, rfl, rfl, trivial⟩
  have hup := T.up
  unfold PySem.W.ks_superIn at hup
  rw [hD] at hup
  refine PySem.W.kxs_getMethod PySem.W.kxs_ValueError hso (PySem.W.looks_opaque I2.kIn T.opq) (l₀ := cdD.mro) (fun A Q E s k q => wpAny_bind ((PySem.W.looks_clsIn I2.kIn hD) A _ E s k (wpAny_pure q))) rfl I2.kIn hup (hIn.type.andThen (PySem.W.looks_subIn I2.kIn T.subV)) (PySem.W.ks_ne I2.kIn hIn hD) (by decide) ?_
  have k3 : ∀ b o, h2.get? b = some o → (h2.push (PySem.W.kxs_mw "ValueError.__init__" a)).get? b = some o := fun b o e => Heap.get?_push_of_some _ e
  have I3 := I2.kept (t' := s.toks + 2 + 1) k3
  have hu : (h2.push (PySem.W.kxs_mw "ValueError.__init__" a)).get? h2.objs.size = some (PySem.W.kxs_mw "ValueError.__init__" a) := Heap.get?_push_size _ rfl
  have I4 := I3.pins_of (pins' := [(h2.objs.size, PySem.W.kxs_mw "ValueError.__init__" a)]) fun p hp => by
    obtain rfl := List.mem_singleton.mp hp
    refine ⟨hu, I2.hok.fresh (Nat.le_refl _), ?_, ?_, fun v z => by cases z⟩
    · exact Nat.ne_of_gt I2.lt
    · exact I2.nofs (Nat.le_refl _)
  show wpAny _ _ (callWith p7 (.ref h2.objs.size) [] [(false, eval (.JoinedStr [.Constant (.str txt) j p3, .FormattedValue (.Name x p4) 114 none p5] p6) (PySem.W.ksEnv qual (eScope x mr) s.heap.objs.size fI (.ref cda) cc))] []) _ _ _
  refine PySem.W.kxs_callWith (i := "ValueError.__init__") (x := a) (u := h2.objs.size) rfl (Calls.evalArgs_plain (Calls.spliced_cons (wpAny_mono (PJ1.run _ _ _ H (fun _ H' => H' = H) I4 ?_) (fun v5 s5 hh => ?_) fun _ _ z => z.elim)))
  · have line : (3600000 : Nat) ≤ sizeLine := by decide
    have le0 : Str.empty.length = 0 := rfl
    refine ⟨_, rfl, ?_, _, rfl, d, hv, hsm, fun m hm => ⟨_, rfl, ?_, rfl⟩⟩
    · rw [strLen_append, le0]; omega
    · rw [strLen_append, strLen_append, le0]; omega
  · obtain ⟨v6, H5, I5, r5, eH⟩ := hh
    rw [eH] at I5
    refine Calls.spliced_nil ?_
    have hu5 := (I5.pin (h2.objs.size, PySem.W.kxs_mw "ValueError.__init__" a) (by simp)).1
    refine ⟨hu5, call_wrap T.o I5 hu5 ha ?_ fun s6 I6 => ?_⟩
    · show ([v5] : List Value).length ≤ sizeLine
      rw [sizeLine_eq]; show 1 ≤ 16777216; decide
    · have PS1 : PSs (cxE P w K mg base x qual (eScope x mr) fI cc (.ref cda) A outer s H) [.Assign [.Attribute (.Name "self" q1) x q2] (.Name x q3) q4] _ := pss_one (ps_ost P0 P1')
      have I7 : Inv (cxE P w K mg base x qual (eScope x mr) fI cc (.ref cda) A outer s H) [] [some (.ref a), some v] H s6 := I6.pins_of fun p hp => nomatch hp
      refine wpAt_of_wpAny (wpAny_mono (PS1.run [] s6 _ H { nx := fun _ H' => Q .non H', rt := Q } I7 ?_) (fun fl s8 hs => ?_) fun _ _ z => z.elim)
      · refine ⟨_, rfl, _, rfl, a, C, rfl, T.o, T.noX, .inl ⟨ha, fun dx hdx hne => ?_⟩⟩
        exact kk dx hdx hne
      · have fin : ∀ {σ' : St} {H' : Hp} {v : V} {u : Value}, Inv (cxE P w K mg base x qual (eScope x mr) fI cc (.ref cda) A outer s H) [] σ' H' s8 → RelV v u → Q v H' → CE outer P w H s Q u s8 :=
          fun J rv q => ⟨_, _, J.os, J.bare, J.base, J.hok, rv, q⟩
        cases fl with
        | ret u =>
          obtain ⟨v', σ', H', J, rv, q⟩ := hs
          exact fin J rv q
        | next =>
          obtain ⟨σ', H', J, q⟩ := hs
          exact fin (v := V.non) (u := Value.none) J rfl q
        | brk =>
          obtain ⟨_, _, _, q⟩ := hs
          exact False.elim q
        | cont =>
          obtain ⟨_, _, _, q⟩ := hs
          exact False.elim q
end
/-! ### any small object -/
def obB : Nat → Nat
  | 0 => 0
  | m + 1 => 3 * obB m + 60
/-- _law_object at 3 - m: data of depth at most m -/
def spObj (K : PySem.W.Frag) (m : Nat) : Sp := fun vs H Q _ => ∃ (p q : Addr) (n : Nat) (l : List Addr), vs = [.ref p, .int (3 - (m : Int))] ∧ 0 < m ∧ m ≤ 3 ∧ PoolAt H p q n ∧ p ∈ l ∧ q ∈ l ∧ Alive l H ∧ n + obB m < 900000 ∧
  ∀ (v : V) (d : PyData) (n' : Nat) (H' : Hp), Dp K (mask l H') v d → sm m d → n ≤ n' → n' ≤ n + obB m → PoolAt H' p q n' → Keeps p q H H' → Q v H'
/-- short texts -/
def Sht (k : Nat) (x : Str) : Prop := x.length ≤ k ∧ ∀ c ∈ x.cps.toList, c < 1000
theorem Sht.app {k l : Nat} {x y : Str} (a : Sht k x) (b : Sht l y) : Sht (k + l) (x ++ y) := by
  refine ⟨by rw [strLen_append]; have := a.1; have := b.1; omega, fun c h => ?_⟩
  rcases PyProof.Rows.mem_cps_append.mp h with h | h
  · exact a.2 c h
  · exact b.2 c h
theorem IsWord.sht {x : Str} (h : IsWord x) : Sht 8 x := ⟨h.2.1, fun c hc => by have := (h.2.2 c hc).2; omega⟩
theorem Sht.cut {k : Nat} {x : Str} (h : Sht k x) (lo hi : Option Int) : Sht k (cutS x lo hi) := by
  refine ⟨Nat.le_trans (cutS_length x lo hi) h.1, fun c hc => h.2 c ?_⟩
  have e : (cutS x lo hi).cps.toList = (x.cps.toList.drop (HT.sIx x.length 0 lo)).take (HT.sIx x.length x.length hi - HT.sIx x.length 0 lo) := rfl
  rw [e] at hc
  exact List.mem_of_mem_drop (List.mem_of_mem_take hc)
theorem Sht.sm {k m : Nat} {x : Str} (h : Sht k x) (hk : k ≤ 100) : Qp.sm (m + 1) (.str x) := by
  simp only [Qp.sm]
  exact ⟨Nat.le_trans h.1 hk, h.2⟩
theorem sht_empty : Sht 0 "" := by
  refine ⟨by decide +kernel, fun c h => ?_⟩
  have : ("" : Str).cps.toList = [] := by decide +kernel
  rw [this] at h; cases h
theorem sht_of {k : Nat} {x : Str} (h : (decide (x.length ≤ k) && x.cps.toList.all fun c => decide (c < 1000)) = true) : Sht k x := by
  obtain ⟨h1, h2⟩ := Bool.and_eq_true_iff.mp h
  exact ⟨of_decide_eq_true h1, fun c hc => of_decide_eq_true (List.all_eq_true.mp h2 c hc)⟩
theorem odd_at (d : Int) (h0 : 0 ≤ d) (h1 : d < 8) : ∃ s, atI [V.str "A", .str "_", .str "0", .str "\n", .str "-", .str "/", .str ",", .str "~"] d = some (.str s) ∧ Sht 1 s := by
  obtain rfl | rfl | rfl | rfl | rfl | rfl | rfl | rfl : d = 0 ∨ d = 1 ∨ d = 2 ∨ d = 3 ∨ d = 4 ∨ d = 5 ∨ d = 6 ∨ d = 7 := by omega
  · exact ⟨"A", atI_nat (j := 0) rfl, sht_of (by decide +kernel)⟩
  · exact ⟨"_", atI_nat (j := 1) rfl, sht_of (by decide +kernel)⟩
  · exact ⟨"0", atI_nat (j := 2) rfl, sht_of (by decide +kernel)⟩
  · exact ⟨"\n", atI_nat (j := 3) rfl, sht_of (by decide +kernel)⟩
  · exact ⟨"-", atI_nat (j := 4) rfl, sht_of (by decide +kernel)⟩
  · exact ⟨"/", atI_nat (j := 5) rfl, sht_of (by decide +kernel)⟩
  · exact ⟨",", atI_nat (j := 6) rfl, sht_of (by decide +kernel)⟩
  · exact ⟨"~", atI_nat (j := 7) rfl, sht_of (by decide +kernel)⟩
theorem verb_at (d : Int) (h0 : 0 ≤ d) (h1 : d < 5) : ∃ s, atI [V.str "take", .str "get", .str "look", .str "probe", .str "say"] d = some (.str s) ∧ Sht 5 s := by
  obtain rfl | rfl | rfl | rfl | rfl : d = 0 ∨ d = 1 ∨ d = 2 ∨ d = 3 ∨ d = 4 := by omega
  · exact ⟨"take", atI_nat (j := 0) rfl, sht_of (by decide +kernel)⟩
  · exact ⟨"get", atI_nat (j := 1) rfl, sht_of (by decide +kernel)⟩
  · exact ⟨"look", atI_nat (j := 2) rfl, sht_of (by decide +kernel)⟩
  · exact ⟨"probe", atI_nat (j := 3) rfl, sht_of (by decide +kernel)⟩
  · exact ⟨"say", atI_nat (j := 4) rfl, sht_of (by decide +kernel)⟩
section
variable {P : Program} {w : World} {K : PySem.W.Frag} {mg : Str → Option Value} {base : Heap}
theorem fn_neverK {f : Addr} {fd : FuncData} {ps : List Str} {k : Nat} : FnOk P w K mg base CX0 k f fd ps (fun _ _ _ _ => False) :=
  ⟨fun _ _ _ _ h => h.elim, fun _ _ _ _ _ _ _ _ _ _ _ _ _ h => h.elim⟩
theorem scO : FnScope ["pool", "depth", "pick", "word", "odd", "at", "parts", "k"] ["pool", "depth"] (defScope sObj) := ⟨rfl, rfl, rfl, by decide +kernel, rfl, by decide +kernel, by decide +kernel⟩
theorem ok_obj {f fD fW : Addr} {fd fdD fdW : FuncData} (F : Fun K "_law_object" "_law_object" sObj f fd) (mO : mg "_law_object" = some (.ref f)) (bO : Binds K fd ["pool", "depth"] [])
    (GD : FnOk P w K mg base CX0 1 fD fdD ["pool", "many"] spDraw) (mD : mg "_law_draw" = some (.ref fD)) (kD : PySem.W.keepIn K (.ref fD) = true) (bD : Binds K fdD ["pool", "many"] [])
    (GW : FnOk P w K mg base CX0 2 fW fdW ["pool"] spWord) (mW : mg "_law_word" = some (.ref fW)) (kW : PySem.W.keepIn K (.ref fW) = true) (bW : Binds K fdW ["pool"] [])
    (B : Bts mg) : ∀ m : Nat, FnOk P w K mg base CX0 (m + 2) f fd ["pool", "depth"] (spObj K m)
  | 0 => fn_neverK.imp fun vs H Q E h => by
    obtain ⟨p, q, n, l, _, h, _⟩ := h
    omega
  | m + 1 => by
    have IH := ok_obj F mO bO GD mD kD bD GW mW kW bW B m
    refine F.ok scO (fun vs H Q E h => ?_) (fun cdv A outer s H vs Q E hr h => ?_)
    · obtain ⟨p, q, n, l, rfl, _⟩ := h
      rfl
    · obtain ⟨p, q, n, l, rfl, _, hm3, hP, lp, lq, al, hn, kk⟩ := h
      have hr1 : Room 1 _ := hr.mono (by omega)
      have hr2 : Room 2 _ := hr.mono (by omega)
      have op39 : ((10 : Int) ^ (39 : Int).toNat) = 1000000000000000000000000000000000000000 := by decide
      refine ⟨_,
        C8.pss_cut (ps_set (i := 2) scO.nd rfl (.inl rfl) (pe_call GD hr1 (by rfl) mD kD bD .nil pass0 (pa_cons (pv 0) (pa_cons (pe_ifExp (pt_cmpR op_lt (pv 1) pe_int (nomark _)) pe_int pe_int) pa_nil))))
        (pss_cons (ps_if (pt_cmpR op_lt (pv 2) pe_int (nomark _)) (pss_one (ps_ret (pe_ix ix_list (pe_lst (pa_cons pe_non (pa_cons pe_bl (pa_cons pe_bl pa_nil)))) (pv 2) (fun _ _ => rfl)))) pss_nil)
        (pss_cons (ps_if (pt_cmpR op_lt (pv 2) pe_int (nomark _)) (pss_one (ps_ret (pe_ix ix_list (pe_lst (pa_cons (pe_call GD hr1 (by rfl) mD kD bD .nil pass0 (pa_cons (pv 0) (pa_cons pe_int pa_nil)))
            (pa_cons (pe_op op_sub (pe_un un_neg pe_int) (pe_call GD hr1 (by rfl) mD kD bD .nil pass0 (pa_cons (pv 0) (pa_cons pe_int pa_nil))))
            (pa_cons (pe_call GD hr1 (by rfl) mD kD bD .nil pass0 (pa_cons (pv 0) (pa_cons (pe_op op_pow pe_int pe_int) pa_nil))) pa_nil)))) (pe_op op_sub (pv 2) pe_int) (fun _ _ => rfl)))) pss_nil)
        (pss_cons (ps_if (pt_cmpR op_lt (pv 2) pe_int (nomark _)) (pss_one (ps_ret (pe_ix ix_list (pe_lst (pa_cons pe_str
            (pa_cons (pe_op op_add_str (pe_op op_add_str (pe_call GW hr2 (by rfl) mW kW bW .nil pass0 (pa_cons (pv 0) pa_nil)) pe_str) (pe_call GW hr2 (by rfl) mW kW bW .nil pass0 (pa_cons (pv 0) pa_nil)))
            (pa_cons (pe_op op_add_str (pe_call GW hr2 (by rfl) mW kW bW .nil pass0 (pa_cons (pv 0) pa_nil)) pe_str) pa_nil)))) (pe_op op_sub (pv 2) pe_int) (fun _ _ => rfl)))) pss_nil)
        (pss_cons (ps_if (pt_cmpR op_lt (pv 2) pe_int (nomark _))
            (pss_cons (ps_set (i := 3) scO.nd rfl (.inl rfl) (pe_call GW hr2 (by rfl) mW kW bW .nil pass0 (pa_cons (pv 0) pa_nil)))
            (pss_cons (ps_set (i := 4) scO.nd rfl (.inl rfl) (pe_ix ix_list (pe_lst (pa_cons pe_str (pa_cons pe_str (pa_cons pe_str (pa_cons pe_str (pa_cons pe_str (pa_cons pe_str (pa_cons pe_str (pa_cons pe_str pa_nil)))))))))
                (pe_call GD hr1 (by rfl) mD kD bD .nil pass0 (pa_cons (pv 0) (pa_cons pe_int pa_nil))) (fun _ _ => rfl)))
            (pss_cons (ps_set (i := 5) scO.nd rfl (.inl rfl) (pe_call GD hr1 (by rfl) mD kD bD .nil pass0 (pa_cons (pv 0) (pa_cons (pe_op op_add (pe_callB call_len_str (by rfl) B.len PySem.boot_len (pa_cons (pv 3) pa_nil)) pe_int) pa_nil))))
            (pss_one (ps_ret (pe_op op_add_str (pe_op op_add_str (pe_slice sl_str (pv 3) po_none (po_some (pv 5))) (pv 4)) (pe_slice sl_str (pv 3) (po_some (pv 5)) po_none)))))))
            pss_nil)
        (pss_cons (ps_setLc (i := 6) (own := [("k", 7)]) (g := gName 7) (tt := tYes) rfl scO.nd rfl rfl rfl
            (pi_range1 (by rfl) B.range (pa_cons (pe_call GD hr1 (by rfl) mD kD bD .nil pass0 (pa_cons (pv 0) (pa_cons pe_int pa_nil))) pa_nil))
            (blkOk_by (N := ["pool", "depth", "pick", "word", "odd", "at", "parts", "k"]) (sc := defScope sObj) (by decide +kernel))
            (fun _ _ _ _ _ => pg_name (i := 7) scO.nd rfl (.inl rfl)) (fun _ _ _ _ _ => pts_nil)
            (fun _ _ _ _ _ => pe_call IH hr (by rfl) mO F.kp bO .nil pass0 (pa_cons (pv 0) (pa_cons (pe_op op_add (pv 1) pe_int) pa_nil))))
        (pss_cons (ps_if (pt_cmpR op_eq (pv 2) pe_int (nomark _)) (pss_one (ps_ret (pv 6))) pss_nil)
        (pss_cons (ps_if (pt_cmpR op_eq (pv 2) pe_int (nomark _)) (pss_one (ps_ret (pe_callTy call_tuple_of (by rfl) B.tuple (by decide +kernel) (pa_cons (pv 6) pa_nil)))) pss_nil)
        (pss_one (ps_ret (pe_op op_catT (pe_tup (pa_cons (pe_ix ix_list (pe_lst (pa_cons pe_str (pa_cons pe_str (pa_cons pe_str (pa_cons pe_str (pa_cons pe_str pa_nil))))))
            (pe_call GD hr1 (by rfl) mD kD bD .nil pass0 (pa_cons (pv 0) (pa_cons pe_int pa_nil))) (fun _ _ => rfl)) pa_nil))
            (pe_callTy call_tuple_of (by rfl) B.tuple (by decide +kernel) (pa_cons (pv 6) pa_nil)))))))))))), ?_⟩
      -- pick
      refine ⟨fun σ H1 => ∃ d : Int, σ = [some (.ref p), some (.int (3 - ((m + 1 : Nat) : Int))), some (.int d), none, none, none, none, none] ∧ 0 ≤ d ∧ (0 < m ∨ d < 13) ∧ d < 16 ∧ PoolAt H1 p q (n + 1) ∧ Keeps p q H H1, ?_, ?_⟩
      · refine ⟨_, rfl, _, rfl, _, _, rfl, rfl, _, rfl, ite2 (fun hz => ?_) (fun hz => ?_)⟩
        · have hz' : 3 - ((m + 1 : Nat) : Int) < 2 := of_decide_eq_true hz
          exact ⟨p, q, n, 16, rfl, hP, by omega, by decide, by decide, fun d H1 a b P1 K1 => ⟨d, rfl, a, .inl (by omega), b, P1, K1⟩⟩
        · exact ⟨p, q, n, 13, rfl, hP, by omega, by decide, by decide, fun d H1 a b P1 K1 => ⟨d, rfl, a, .inr b, by omega, P1, K1⟩⟩
      rintro σ H1 ⟨d, rfl, d0, dm, d16, P1, K1⟩
      have eB : obB (m + 1) = 3 * obB m + 60 := rfl
      -- pick < 3
      refine ⟨_, rfl, _, _, rfl, rfl, _, rfl, ite2 (fun hz => ?_) (fun hz => ?_)⟩
      · have hz' : d < 3 := of_decide_eq_true hz
        refine ⟨by show 3 ≤ sizeLine; decide, fun r nr => ⟨_, rfl, ?_⟩⟩
        have P2 := P1.new (o := .lst [.non, .bl true, .bl false]) nr
        have K2 := K1.trans (Keeps.upd_new (o := .lst [.non, .bl true, .bl false]) nr)
        obtain rfl | rfl | rfl : d = 0 ∨ d = 1 ∨ d = 2 := by omega
        · exact ⟨r, _, _, _, rfl, rfl, SqL.of upd_same, atI_nat (j := 0) rfl, kk _ .none (n + 1) _ .non (by simp [sm]) (by omega) (by omega) P2 K2⟩
        · exact ⟨r, _, _, _, rfl, rfl, SqL.of upd_same, atI_nat (j := 1) rfl, kk _ (.bool true) (n + 1) _ (.bl true) (by simp [sm]) (by omega) (by omega) P2 K2⟩
        · exact ⟨r, _, _, _, rfl, rfl, SqL.of upd_same, atI_nat (j := 2) rfl, kk _ (.bool false) (n + 1) _ (.bl false) (by simp [sm]) (by omega) (by omega) P2 K2⟩
      have z3 : ¬ d < 3 := fun e => hz (decide_eq_true e)
      clear hz
      -- pick < 6
      refine ⟨_, rfl, _, _, rfl, rfl, _, rfl, ite2 (fun hz => ?_) (fun hz => ?_)⟩
      · have hz' : d < 6 := of_decide_eq_true hz
        refine ⟨_, rfl, p, q, n + 1, 4, rfl, P1, by omega, by decide, by decide, fun a1 H2 a10 a11 P2 K2 => ?_⟩
        refine ⟨_, rfl, _, rfl, p, q, n + 1 + 1, 9, rfl, P2, by omega, by decide, by decide, fun a2 H3 a20 a21 P3 K3 => ?_⟩
        refine ⟨_, _, rfl, rfl, _, rfl, _, _, rfl, rfl, ⟨by decide, by decide, by decide⟩, p, q, n + 1 + 1 + 1, _, rfl, P3, by omega, by decide, by decide, fun a3 H4 a30 a31 P4 K4 => ?_⟩
        rw [op39] at a31
        refine ⟨by show 3 ≤ sizeLine; decide, fun r nr => ⟨_, rfl, _, _, rfl, rfl, ?_⟩⟩
        have P5 := P4.new (o := .lst [.int a1, .int (-1 - a2), .int a3]) nr
        have K5 := (((K1.trans K2).trans K3).trans K4).trans (Keeps.upd_new (o := .lst [.int a1, .int (-1 - a2), .int a3]) nr)
        obtain rfl | rfl | rfl : d = 3 ∨ d = 4 ∨ d = 5 := by omega
        · exact ⟨r, _, _, _, rfl, rfl, SqL.of upd_same, atI_nat (j := 0) rfl, kk _ (.int a1) (n + 4) _ (.int a1) (by simp only [sm]; omega) (by omega) (by omega) P5 K5⟩
        · exact ⟨r, _, _, _, rfl, rfl, SqL.of upd_same, atI_nat (j := 1) rfl, kk _ (.int (-1 - a2)) (n + 4) _ (.int _) (by simp only [sm]; omega) (by omega) (by omega) P5 K5⟩
        · exact ⟨r, _, _, _, rfl, rfl, SqL.of upd_same, atI_nat (j := 2) rfl, kk _ (.int a3) (n + 4) _ (.int a3) (by simp only [sm]; omega) (by omega) (by omega) P5 K5⟩
      have z6 : ¬ d < 6 := fun e => hz (decide_eq_true e)
      clear hz
      -- pick < 9
      refine ⟨_, rfl, _, _, rfl, rfl, _, rfl, ite2 (fun hz => ?_) (fun hz => ?_)⟩
      · have hz' : d < 9 := of_decide_eq_true hz
        have line : (100 : Nat) ≤ sizeLine := by decide
        have sp1 : Sht 1 " " := sht_of (by decide +kernel)
        have sp8 : Sht 8 "abcdefgh" := sht_of (by decide +kernel)
        refine ⟨_, rfl, p, q, n + 1, rfl, P1, by omega, fun w1 n2 H2 hw1 a2 b2 P2 K2 => ?_⟩
        have l1 := hw1.sht.app sp1
        refine ⟨_, _, rfl, rfl, Nat.le_trans (by rw [← strLen_append]; exact l1.1) (Nat.le_trans (by decide) line), _, rfl, p, q, n2, rfl, P2, by omega, fun w2 n3 H3 hw2 a3 b3 P3 K3 => ?_⟩
        have l2 := l1.app hw2.sht
        refine ⟨_, _, rfl, rfl, Nat.le_trans (by rw [← strLen_append]; exact l2.1) (Nat.le_trans (by decide) line), _, rfl, p, q, n3, rfl, P3, by omega, fun w3 n4 H4 hw3 a4 b4 P4 K4 => ?_⟩
        have l3 := hw3.sht.app sp8
        refine ⟨_, _, rfl, rfl, Nat.le_trans (by rw [← strLen_append]; exact l3.1) (Nat.le_trans (by decide) line), by show 3 ≤ sizeLine; decide, fun r nr => ⟨_, rfl, _, _, rfl, rfl, ?_⟩⟩
        have P5 := P4.new (o := .lst [.str "", .str (w1 ++ " " ++ w2), .str (w3 ++ "abcdefgh")]) nr
        have K5 := (((K1.trans K2).trans K3).trans K4).trans (Keeps.upd_new (o := .lst [.str "", .str (w1 ++ " " ++ w2), .str (w3 ++ "abcdefgh")]) nr)
        obtain rfl | rfl | rfl : d = 6 ∨ d = 7 ∨ d = 8 := by omega
        · exact ⟨r, _, _, _, rfl, rfl, SqL.of upd_same, atI_nat (j := 0) rfl, kk _ (.str _) n4 _ (.str _) (sht_empty.sm (by decide)) (by omega) (by omega) P5 K5⟩
        · exact ⟨r, _, _, _, rfl, rfl, SqL.of upd_same, atI_nat (j := 1) rfl, kk _ (.str _) n4 _ (.str _) (l2.sm (by decide)) (by omega) (by omega) P5 K5⟩
        · exact ⟨r, _, _, _, rfl, rfl, SqL.of upd_same, atI_nat (j := 2) rfl, kk _ (.str _) n4 _ (.str _) (l3.sm (by decide)) (by omega) (by omega) P5 K5⟩
      have z9 : ¬ d < 9 := fun e => hz (decide_eq_true e)
      clear hz
      -- pick < 13
      refine ⟨_, rfl, _, _, rfl, rfl, _, rfl, ite2 (fun hz => ?_) (fun hz => ?_)⟩
      · have line : (100 : Nat) ≤ sizeLine := by decide
        have p40 : (100 : Int) ≤ 10 ^ 40 := by decide
        refine ⟨_, rfl, p, q, n + 1, rfl, P1, by omega, fun w1 n2 H2 hw1 a2 b2 P2 K2 => ?_⟩
        refine ⟨by show 8 ≤ sizeLine; decide, fun r nr => ?_⟩
        refine ⟨_, rfl, p, q, n2, 8, rfl, P2.new nr, by omega, by decide, by decide, fun a3 H3 a30 a31 P3 K3 => ?_⟩
        obtain ⟨op, ep⟩ := P2.p_some
        obtain ⟨oq, eq⟩ := P2.q_some
        obtain ⟨sx, ex, hx⟩ := odd_at a3 a30 a31
        refine ⟨r, _, _, _, rfl, rfl, SqL.of (K3 r _ (ne_of_none ep nr).symm (ne_of_none eq nr).symm upd_same), ex, ?_⟩
        have lw := hw1.2.1
        refine ⟨_, rfl, _, rfl, w1, rfl, by omega, _, _, rfl, rfl, p, q, n2 + 1, _, rfl, P3, by omega, by omega, Int.le_trans (by omega) p40, fun a4 H4 a40 a41 P4 K4 => ?_⟩
        have c1 := hw1.sht.cut none (some a4)
        have c2 := hw1.sht.cut (some a4) none
        have l1 := c1.app hx
        have l2 := l1.app c2
        refine ⟨_, rfl, _, rfl, a4, rfl, w1, rfl, by omega, _, rfl, _, _, rfl, rfl, Nat.le_trans (by rw [← strLen_append]; exact l1.1) (Nat.le_trans (by decide) line), ?_⟩
        refine ⟨_, rfl, _, rfl, a4, rfl, w1, rfl, by omega, _, _, rfl, rfl, Nat.le_trans (by rw [← strLen_append]; exact l2.1) (Nat.le_trans (by decide) line), ?_⟩
        exact kk _ (.str _) (n2 + 1 + 1) _ (.str _) (l2.sm (by decide)) (by omega) (by omega) P4 ((((K1.trans K2).trans (.upd_new nr)).trans K3).trans K4)
      have z13 : ¬ d < 13 := fun e => hz (decide_eq_true e)
      clear hz
      have m0 : 0 < m := by rcases dm with h | h <;> omega
      -- parts
      refine ⟨_, rfl, p, q, n + 1, 4, rfl, P1, by omega, by decide, by decide, fun c H2 c0 c1 P2 K2 => ?_⟩
      refine ⟨c, rfl, by omega, by omega, fun D nD => ?_⟩
      obtain ⟨op, ep⟩ := P2.p_some
      obtain ⟨oq, eq⟩ := P2.q_some
      have nDp : D ≠ p := (ne_of_none ep nD).symm
      have nDq : D ≠ q := (ne_of_none eq nD).symm
      have K02 := K1.trans K2
      have nDl : D ∉ l := (Keeps.alive al K02 P2).not nD
      refine lc_range (lo := 0) (n := c.toNat) (fun i H3 => ∃ (vs : List V) (ds : List PyData) (n3 : Nat), H3 D = some (.lst vs) ∧ vs.length = i ∧ DpAll K (mask (D :: l) H3) vs ds ∧ (∀ x ∈ ds, sm m x) ∧ n + 2 ≤ n3 ∧ n3 ≤ n + 2 + i * obB m ∧ PoolAt H3 p q n3 ∧ Keeps p q H H3)
        ⟨[], [], n + 2, upd_same, rfl, .nil, fun x hx => (by cases hx), by omega, by omega, P2.new nD, K02.trans (.upd_new nD)⟩ (fun i H3 hi hI => ?_) (fun H3 hI => ?_)
      · obtain ⟨vs, ds, n3, eD, el, hds, hsm, hn1, hn2, P3, K3⟩ := hI
        have hB : n3 + obB m ≤ n + 2 + (i + 1) * obB m := by rw [Nat.succ_mul]; omega
        have hB3 : (i + 1) * obB m ≤ 3 * obB m := Nat.mul_le_mul_right _ (by omega)
        refine ⟨rfl, ?_⟩
        refine ⟨_, rfl, _, rfl, _, _, rfl, rfl, p, q, n3, D :: l, by show [V.ref p, V.int (3 - ((m + 1 : Nat) : Int) + 1)] = _; rw [show (3 - ((m + 1 : Nat) : Int) + 1) = 3 - (m : Int) by omega], m0, by omega, P3, List.mem_cons_of_mem _ lp, List.mem_cons_of_mem _ lq, ?_, by omega, fun v d4 n4 H4 hv hd4 a4 b4 P4 K4 => ?_⟩
        · intro a ha
          rcases List.mem_cons.mp ha with rfl | ha
          · exact ⟨_, eD⟩
          · exact Keeps.alive al K3 P3 a ha
        · have eD4 : H4 D = some (.lst vs) := K4 D _ nDp nDq eD
          have lds := dpAll_len hds
          refine ⟨vs, eD4, small1000 (by omega), vs ++ [v], ds ++ [d4], n4, upd_same, by rw [List.length_append, el]; rfl, ?_, fun x hx => ?_, by omega, by omega, ?_, ?_⟩
          · refine dpAll_app (dpAll_same ((Keeps.maskL (List.mem_cons_of_mem _ lp) (List.mem_cons_of_mem _ lq) K4).trans (mask_at List.mem_cons_self)) _ _ hds) (.cons (dp_same (mask_at List.mem_cons_self) _ _ hv) .nil)
          · rcases List.mem_append.mp hx with hx | hx
            · exact hsm x hx
            · rw [List.mem_singleton.mp hx]; exact hd4
          · obtain ⟨npq, cs, b, c0, e1, e2, r⟩ := P4
            exact ⟨npq, cs, b, c0, by rw [upd_ne nDp.symm]; exact e1, by rw [upd_ne nDq.symm]; exact e2, r⟩
          · intro x o hx1 hx2 nH
            have ex := K4 x o hx1 hx2 (K3 x o hx1 hx2 nH)
            by_cases hxD : x = D
            · subst hxD
              rw [K02.free nD nDp nDq] at nH
              cases nH
            · rw [upd_ne hxD]; exact ex
      · obtain ⟨vs, ds, n3, eD, el, hds, hsm, hn1, hn2, P3, K3⟩ := hI
        have lds := dpAll_len hds
        have hB3 : c.toNat * obB m ≤ 3 * obB m := Nat.mul_le_mul_right _ (by omega)
        have hds' := dpAll_same (mask_less (l := l) (D := D)) _ _ hds
        have al3 := Keeps.alive al K3 P3
        have lsm : ds.length ≤ 12 := by omega
        -- pick == 13
        refine ⟨_, rfl, rfl, _, rfl, ite2 (fun hz => ?_) (fun hz => ?_)⟩
        · refine ⟨_, rfl, ?_⟩
          exact kk (.ref D) (.list ds) n3 H3 (.lst (SqL.of (by rw [mask_out nDl]; exact eD)) hds') (by simp only [sm]; exact ⟨lsm, hsm⟩) (by omega) (by omega) P3 K3
        clear hz
        -- pick == 14
        refine ⟨_, rfl, rfl, _, rfl, ite2 (fun hz => ?_) (fun hz => ?_)⟩
        · refine ⟨_, rfl, D, vs, rfl, .inl ⟨SqL.of eD, fun t nt => ?_⟩⟩
          exact kk (.ref t) (.tuple ds) n3 _ (.tup (SqT.of (mask_upd (al3.not nt))) (dpAll_same (mask_same (same_new nt)) _ _ hds')) (by simp only [sm]; exact ⟨lsm, hsm⟩) (by omega) (by omega) (P3.new nt) (K3.trans (.upd_new nt))
        clear hz
        refine ⟨by show 5 ≤ sizeLine; decide, fun r nr => ?_⟩
        refine ⟨_, rfl, p, q, n3, 5, rfl, P3.new nr, by omega, by decide, by decide, fun a4 H4 a40 a41 P4 K4 => ?_⟩
        obtain ⟨op, ep⟩ := P3.p_some
        obtain ⟨oq, eq⟩ := P3.q_some
        obtain ⟨sx, ex, hx⟩ := verb_at a4 a40 a41
        have K34 : Keeps p q H3 H4 := (Keeps.upd_new nr).trans K4
        refine ⟨r, _, _, _, rfl, rfl, SqL.of (K4 r _ (ne_of_none ep nr).symm (ne_of_none eq nr).symm upd_same), ex, ?_⟩
        refine ⟨by show 1 ≤ sizeLine; decide, fun t nt => ?_⟩
        have eD5 : (upd H4 t (.tup [.str sx])) D = some (.lst vs) := same_new nt _ _ (K34 D _ nDp nDq eD)
        have al4 : Alive l H4 := Keeps.alive al3 K34 P4
        refine ⟨_, rfl, D, vs, rfl, .inl ⟨SqL.of eD5, fun u nu => ?_⟩⟩
        have et : (upd (upd H4 t (.tup [.str sx])) u (.tup vs)) t = some (.tup [.str sx]) := same_new nu _ _ upd_same
        have s5 : Same H4 (upd (upd H4 t (.tup [.str sx])) u (.tup vs)) := (same_new nt).trans (same_new nu)
        have K5 : Keeps p q H (upd (upd H4 t (.tup [.str sx])) u (.tup vs)) := (K3.trans K34).trans (Keeps.of_same s5)
        have P5 := P4.same s5
        have hds5 := dpAll_same ((Keeps.maskL lp lq K34).trans (mask_same s5)) _ _ hds'
        refine ⟨t, u, [.str sx], vs, rfl, rfl, SqT.of et, SqT.of upd_same, by simp, by show 1 + vs.length ≤ sizeLine; exact len1000 (by omega), fun e0 => ?_, fun _ y ny => ?_⟩
        · subst e0
          obtain rfl : ds = [] := List.eq_nil_of_length_eq_zero lds.symm
          exact kk (.ref t) (.tuple [.str sx]) (n3 + 1) _ (.tup (SqT.of (by rw [mask_out (al4.not nt)]; exact et)) (.cons (.str sx) .nil)) (by simp only [sm]; exact ⟨Nat.le_of_ble_eq_true rfl, fun x hx' => by
            rw [List.mem_singleton.mp hx']
            obtain ⟨m', rfl⟩ : ∃ m', m = m' + 1 := ⟨m - 1, by omega⟩
            exact hx.sm (by decide)⟩) (by omega) (by omega) P5 K5
        · exact kk (.ref y) (.tuple (.str sx :: ds)) (n3 + 1) _ (.tup (SqT.of (mask_upd ((al4.same s5).not ny))) (.cons (.str sx) (dpAll_same (mask_same (same_new ny)) _ _ hds5))) (by
            simp only [sm]
            refine ⟨by simp only [List.length_cons]; omega, fun x hx' => ?_⟩
            rcases List.mem_cons.mp hx' with rfl | hx'
            · obtain ⟨m', rfl⟩ : ∃ m', m = m' + 1 := ⟨m - 1, by omega⟩
              exact hx.sm (by decide)
            · exact hsm x hx') (by omega) (by omega) (P5.new ny) (K5.trans (.upd_new ny))
end
/-! ### errors as values: made, their attribute read, isinstance -/
/-- C(e, ..) as a value -/
def tOex (C : Addr) (sp : Sp) (ta : TA) : TE := fun σ H Q => ta σ H fun vs H1 => vs.length ≤ 1000 ∧ ∀ a, H1 a = none → sp (.ref a :: vs) (upd H1 a (exo a C none)) (fun v H2 => v = .non ∧ Q (.ref a) H2) (fun _ _ _ => False)
section
variable {X : Cx} {CX : CXT} {x : Str} {C fI : Addr} {k : Nat} {fd : FuncData} {ps : List Str} {sp : Sp} {e : Expr} {es : List Expr} {ta : TA} {p pos : Pos}
theorem run_oex (T : OexC X.K C) (iC : PySem.W.findIn X.K (.ref C) "__init__" = some (some (.ref fI))) (tI : PySem.W.typeIn X.K (.ref fI) = some (.type "function"))
    (F1 : FnOk X.prog X.w X.K X.mg X.base CX k fI fd ps sp) (hr : Room (k + 1) X.A) (hb : Binds X.K fd ps []) (hx : Passes CX X (fun _ _ _ => False)) {pins : List (Addr × Obj)} {σ : St} {H1 : Hp} {s1 : Shared} {Q : VK} {us : List Value} {vs : List V} (I1 : Inv X pins σ H1 s1) (r1 : Vals vs us)
    (q1 : ∀ a, H1 a = none → sp (.ref a :: vs) (upd H1 a (exo a C none)) (fun v H2 => v = .non ∧ Q (.ref a) H2) (fun _ _ _ => False)) (hz : vs.length ≤ 1000) : wpAny (model X.prog X.w) X.A (call (.ref C) us) (EP X pins σ Q) X.xe s1 := by
  obtain ⟨nm, q, N, bs, bm, sn, sub, ab, col, dd, k0, k1, k2, k3, k5, hC, hbm⟩ := T.cls
  obtain ⟨hp, g, dr, tk, os⟩ := s1
  have hsz : hp.objs.size ≤ hp.objs.size + 1 := Nat.le_succ _
  have hn : H1 (hp.objs.size + 1) = none := I1.hok.fresh hsz
  have hq := q1 (hp.objs.size + 1) hn
  have kk : ∀ b o, hp.get? b = some o → ((hp.push (PySem.W.kdv_tup us)).push (PySem.HandSPX.excO C hp.objs.size)).get? b = some o := fun b o e => Heap.get?_push_of_some _ (Heap.get?_push_of_some _ e)
  have hget : ((hp.push (PySem.W.kdv_tup us)).push (PySem.HandSPX.excO C hp.objs.size)).get? (hp.objs.size + 1) = some (PySem.HandSPX.excO C hp.objs.size) := by heap_get
  have I2 : Inv X pins σ (upd H1 (hp.objs.size + 1) (exo (hp.objs.size + 1) C none)) ⟨(hp.push (PySem.W.kdv_tup us)).push (PySem.HandSPX.excO C hp.objs.size), g, dr, tk, os⟩ :=
    I1.laid (t' := tk) (a := hp.objs.size + 1) (o := exo (hp.objs.size + 1) C none) (h' := (hp.push (PySem.W.kdv_tup us)).push (PySem.HandSPX.excO C hp.objs.size)) kk hsz (exo_ok hget)
  have r2 : Vals (V.ref (hp.objs.size + 1) :: vs) (Value.ref (hp.objs.size + 1) :: us) := .cons rfl r1
  have hl : (Value.ref (hp.objs.size + 1) :: us).length = ps.length := by
    have e := r2.length
    rw [F1.len _ _ _ _ hq] at e
    exact e.symm
  have hus : us.length ≤ sizeLine := by
    rw [← Paired.length r1, sizeLine_eq]
    omega
  refine wpAny_call (PySem.HandSPX.call_own F.excBase_ValueError (fun Y => PySem.HandSPX.refsVE_contains Y bm hbm) (I1.kIn _ _ hC) (PySem.W.looks_findIn I1.kIn iC) (fun self => PySem.W.bind_fn I1.kIn self tI) hus
    (codeAny_mono (F1.run _ X.stack _ _ ⟨Value.ref (hp.objs.size + 1) :: us, []⟩ (Value.ref (hp.objs.size + 1) :: us) _ _ (fun _ _ _ => False) (hr.make C us []) (I2.env0.make C us []) (by
      have := hb _ (Value.ref (hp.objs.size + 1) :: us) I2.kIn (by rw [List.append_nil]; exact hl)
      rw [List.append_nil] at this
      exact this) r2 hq) fun r s' hq' => ?_))
  cases r with
  | error er => exact hx pins σ _ _ er s' I2 hq'
  | ok fl =>
    cases fl with
    | ret u =>
      obtain ⟨v, H2, os2, bare2, un2, hok2, rv, ev, q2⟩ := hq'
      subst ev
      refine ⟨rv, V.ref (hp.objs.size + 1), H2, I2.call' (ch := []) os2 un2 hok2 bare2 (fun b z => absurd z (by simp)), rfl, q2⟩
    | next => exact False.elim hq'
    | brk => exact False.elim hq'
    | cont => exact False.elim hq'
theorem pe_oex (T : OexC X.K C) (iC : PySem.W.findIn X.K (.ref C) "__init__" = some (some (.ref fI))) (tI : PySem.W.typeIn X.K (.ref fI) = some (.type "function"))
    (F1 : FnOk X.prog X.w X.K X.mg X.base CX k fI fd ps sp) (hr : Room (k + 1) X.A) (hb : Binds X.K fd ps []) (hx : Passes CX X (fun _ _ _ => False)) (hg : Gl X x) (hm : X.mg x = some (.ref C)) (ha : PA X (e :: es) ta)
    (hdb : (x == ("__debug__" : Str)) = false := by decide) (he : starEach (e :: es) X.env = (false, eval e X.env) :: starEach es X.env := by rfl) (hpl : (backTo pos (starEach es X.env)).any (·.1) = false := by rfl) :
    PE X (.Call (.Name x p) (e :: es) [] pos) (tOex C sp ta) := by
  refine ⟨fun pins s σ H Q I h => ?_⟩
  refine wpAny_Call_Name_kw (ld_glob I hg hm ?_ hdb)
  refine PySem.W.callWith_K (h₀ := X.base) I.ok.mod.kin T.kC (thn (ha.run pos pins s σ H _ I h) fun us s1 ⟨vs, H1, I1, r1, hz, q1⟩ => ⟨I1.kIn, ?_⟩) he hpl
  exact run_oex T iC tI F1 hr hb hx I1 r1 q1 hz
theorem pe_oex0 (T : OexC X.K C) (iC : PySem.W.findIn X.K (.ref C) "__init__" = some (some (.ref fI))) (tI : PySem.W.typeIn X.K (.ref fI) = some (.type "function"))
    (F1 : FnOk X.prog X.w X.K X.mg X.base CX k fI fd ps sp) (hr : Room (k + 1) X.A) (hb : Binds X.K fd ps []) (hx : Passes CX X (fun _ _ _ => False)) (hg : Gl X x) (hm : X.mg x = some (.ref C))
    (hdb : (x == ("__debug__" : Str)) = false := by decide) : PE X (.Call (.Name x p) [] [] pos) (tOex C sp tNil) := by
  refine ⟨fun pins s σ H Q I h => ?_⟩
  refine wpAny_Call_Name_kw (ld_glob I hg hm ?_ hdb)
  have h : ([] : List V).length ≤ 1000 ∧ ∀ a, H a = none → sp (.ref a :: []) (upd H a (exo a C none)) (fun v H2 => v = .non ∧ Q (.ref a) H2) (fun _ _ _ => False) := h
  exact PySem.W.callWith_K0 I.kIn T.kC (run_oex (us := []) T iC tI F1 hr hb hx I .nil h.2 h.1)
/-- e.f, e an error as a value -/
def tExf (C : Addr) (f : Str) (te : TE) : TE := fun σ H Q => te σ H fun x H1 => ∃ (a dx : Addr) (fs : List (Str × V)) (v : V), x = .ref a ∧ H1 a = some (exo a C (some dx)) ∧ H1 dx = some (exd dx fs) ∧ fs.lookup f = some v ∧ Q v H1
theorem pe_exf {n : Str} {te : TE} (T : XfC X.K C) (hno : PySem.W.findIn X.K (.ref C) n = some none) (he : PE X e te) (hb : attributeBase e n X.env (eval e X.env) = eval e X.env := by rfl) : PE X (.Attribute e n pos) (tExf C n te) := by
  refine ⟨fun pins s σ H Q I h => ?_⟩
  refine attr_of hb (thn (he.run pins s σ H _ I h) fun u s1 hh => ?_)
  obtain ⟨y, H1, I1, rx, a, dx, fs, v, rfl, ea, ed, l, q⟩ := hh
  obtain rfl : u = Value.ref a := rx
  obtain ⟨t1, ho⟩ := exo_at I1.hok ea
  obtain ⟨mA, hns, hr⟩ := exd_at I1.hok ed
  obtain ⟨od, hod, hl⟩ := lookIn_ns hns
  obtain ⟨u, hu, ru⟩ := RelO.some_of (v := v) (o := mA n) (by rw [← l]; exact hr n)
  have J : PySem.W.InstAt s1.heap a { cls := .ref C, dict := some dx, data := .fields #[.ref t1, .none, .none, .none, .bool false, .none] } C (some od) := ⟨ho, rfl, rfl, hod⟩
  exact HandSPX.exc_get I1.kIn J T.ga T.gg T.exC (PySem.W.findObj_own T.hdC hno rfl (by rw [hl, hu])) (handed_of ru) ⟨v, H1, I1.tok _, ru, q⟩
end
/-- what isinstance asks of an error's class -/
structure IsC (K : PySem.W.Frag) (C : Addr) : Prop where
  cl : (PySem.W.clsIn K C).isSome = true
  ga : PySem.W.findIn K (.ref C) "__getattribute__" = some (some (.builtin "BaseException.__getattribute__"))
  gg : PySem.W.findIn K (.ref C) "__getattr__" = some none
  exC : PySem.W.subIn K (.ref C) (.type "BaseException") = some true
  ha : PySem.W.findIn K (.ref C) "__class__" = some (some (.builtin "object.__class__"))
  hn : PySem.W.specialIn K (.builtin "object.__class__") "__get__" = some (some (.builtin "getset_descriptor.__get__"))
  htk : PySem.W.takesIn K (.builtin "object.__class__") = some true
  hm : PySem.W.mroIn K C (.type "object") = some true
/-- isinstance(x, c), x an error as a value -/
def rIsEx (K : PySem.W.Frag) : List V → Hp → VK → Prop := fun xs H Q => ∃ (a C : Addr) (d : Option Addr) (c : V) (u : Value) (b : Bool), xs = [.ref a, c] ∧ H a = some (exo a C d) ∧ (∀ dx, d = some dx → ∃ fs, H dx = some (exd dx fs)) ∧ IsC K C ∧ ClsV c u ∧ PySem.W.kitOne K (.ref C) u = some b ∧ Q (.bl b) H
theorem call_isEx {X : Cx} : CallR X (.builtin "isinstance") (rIsEx X.K) := by
  intro pins s σ H xs us Q I r h
  obtain ⟨a, C, d, c, u, b, rfl, ea, hd, T, k, e, q⟩ := h
  obtain ⟨u1, u2, rfl, r1, r2⟩ := vals2 r
  obtain rfl : u1 = Value.ref a := r1
  have e2 := k.eq r2
  subst e2
  obtain ⟨t1, ho⟩ := exo_at I.hok ea
  have J : ∃ od, PySem.W.InstAt s.heap a { cls := .ref C, dict := d, data := .fields #[.ref t1, .none, .none, .none, .bool false, .none] } C od := by
    cases d with
    | none => exact ⟨none, ho, rfl, rfl, trivial⟩
    | some dx =>
      obtain ⟨fs, ed⟩ := hd dx rfl
      obtain ⟨mA, hns, _⟩ := exd_at I.hok ed
      obtain ⟨od, hod, _⟩ := lookIn_ns hns
      exact ⟨some od, ho, rfl, rfl, hod⟩
  obtain ⟨od, J⟩ := J
  exact PySem.W.kia_one (PySem.W.kitx_exc (od := od) T.cl T.ga T.gg T.exC T.ha T.hn T.htk T.hm) I.kIn J e (fun z => nomatch z) fun tk => ⟨.bl b, H, I.tok tk, rfl, q⟩
/-! ### for i, x in enumerate(t), t a tuple -/
theorem meets_enum_tup (l : Addr) (items : Array Value) :
    Meets (Builtin.«enumerate.__new__» ⟨[.type "enumerate", .ref l], []⟩) (fun _ R s => s.heap.IsTuple l items ∧
      R (.ok (.ret (.ref (s.heap.push { cls := .type "tuple_iterator", data := .fields #[.ref l, .int 0 0] }).objs.size)))
        { s with heap := (s.heap.push { cls := .type "tuple_iterator", data := .fields #[.ref l, .int 0 0] }).push { cls := .type "enumerate", data := .fields #[.none, .bool false, .ref s.heap.objs.size, rawInt 0, .none, .none] } }) :=
  .of_wp fun prog w A R s h => by
    obtain ⟨hp, g, d, tk, os⟩ := s; obtain ⟨hl, h⟩ := h
    have hsub := sub_enumerate
    wp_walk
    refine wpAny_stack_any fun st => wpAny_pure ?_
    split
    · rename_i c _ _ _ _ _
      cases (c == Value.type "enumerate")
      · wp_walk using wpAny_pyIter_tuple hl
        exact ⟨_, rfl, h⟩
      · wp_walk using wpAny_pyIter_tuple hl
        exact ⟨_, rfl, h⟩
    · wp_walk using wpAny_pyIter_tuple hl
      exact ⟨_, rfl, h⟩
theorem call_enum_tup {prog : Program} {w : World} {A : Around} {E : Value → Shared → Prop} {s : Shared} {l : Addr} {items : Array Value} {Q : Value → Shared → Prop} (hL : s.heap.IsTuple l items)
    (h : ∀ h', IsEnum h' (s.heap.objs.size + 1) s.heap.objs.size 0 .none → h'.IsTupleIter s.heap.objs.size l 0 → h'.objs.size = s.heap.objs.size + 2 →
      (∀ b o, s.heap.get? b = some o → h'.get? b = some o) → Q (.ref (s.heap.objs.size + 1)) { s with heap := h' }) :
    wpAny (model prog w) A (call (.type "enumerate") [.ref l]) Q E s := by
  refine callType_new F.called_enumerate (by decide) (F.typeCall_enumerate_1 _) (F.newCall_enumerate_1 _) (fun obj => F.args_object_init_2 obj _) F.entry_enumerate_new
    (meets_enum_tup l items) ⟨hL, ?_⟩
  have hz : (s.heap.push { cls := .type "tuple_iterator", data := .fields #[.ref l, .int 0 0] }).objs.size = s.heap.objs.size + 1 := Heap.size_push ..
  show _ ∧ _
  rw [hz]
  have he : IsEnum ((s.heap.push { cls := .type "tuple_iterator", data := .fields #[.ref l, .int 0 0] }).push
      { cls := .type "enumerate", data := .fields #[.none, .bool false, .ref s.heap.objs.size, rawInt 0, .none, .none] }) (s.heap.objs.size + 1) s.heap.objs.size 0 .none := by
    have := Heap.get?_push_size (s.heap.push { cls := .type "tuple_iterator", data := .fields #[.ref l, .int 0 0] })
      (o := { cls := .type "enumerate", data := .fields #[.none, .bool false, .ref s.heap.objs.size, rawInt 0, .none, .none] }) rfl
    rw [hz] at this; exact this
  refine ⟨⟨_, he, rfl⟩, h _ he ⟨_, Heap.get?_push_of_some _ (Heap.get?_push_size _ rfl), rfl, rfl⟩ (by rw [Heap.size_push, hz]) fun b o x => Heap.get?_push_of_some _ (Heap.get?_push_of_some _ x)⟩
theorem enum_endT {prog : Program} {w : World} {A : Around} {E : Value → Shared → Prop} {s : Shared} {e it l : Addr} {i : Nat} {items : Array Value} {old : Value} {Q : Option Value → Shared → Prop} (hh : A.in1.handled = none)
    (he : IsEnum s.heap e it i old) (hit : s.heap.IsTupleIter it l i) (hl : s.heap.IsTuple l items) (hx : items[i]? = none) (hQ : ∀ h', Heap.ExtBut it s.heap h' → Q none { s with heap := h' }) : wpAny (model prog w) A (pyNext (.ref e)) Q E s := by
  have hT : s.TypeIs (.ref e) "enumerate" := ⟨_, he, rfl⟩
  unfold pyNext
  refine wpAny_bind (wpAny_attempt (wpAny_callSpecial?_slot (name := Str.ofString "__next__") hT F.slot_enumerate_next
    (wpAny_call_entry F.slot_enumerate_next hT F.entry_enumerate_next ?_ (F.args_enumerate_next_1 _))))
  show wpAny _ _ (field (.ref e) 2 >>= _) _ _ _
  refine wpAny_bind (wpAny_field he rfl (x := .ref it) rfl ?_)
  refine wpAny_bind (wpAny_nextOf_tuple_end hh hit hl hx fun h' x he' hx' => ?_)
  obtain ⟨o, ho, hc⟩ := hx'
  refine wpAny_bind (wpAny_isInstance (T := "StopIteration") (b := true) ⟨o, ho, hc⟩ isSubtype_stop ?_)
  exact wpAny_pure (hQ _ he')
/-- the tuple at a, each item in a new pair -/
def IteT (K : PySem.W.Frag) (a : Addr) : It :=
  ⟨fun i H => ∃ (xs : List V) (x : V), SqT K H a xs ∧ xs[i]? = some x, fun i H v H' => ∃ T x, v = .ref T ∧ H T = none ∧ H' = upd H T (.tup [.int (i : Nat), x]) ∧ ∀ xs, SqT K H a xs → xs[i]? = some x, fun i H => ∃ xs : List V, SqT K H a xs ∧ xs.length ≤ i⟩
theorem turn_enumT {P : Program} {w : World} {K : PySem.W.Frag} {elts : List Expr} {kk : Nat} {tpos : Pos} (a e it : Addr) (hai : a ≠ it) (hae : e ≠ a) :
    Turn P w K (.Tuple elts kk tpos) (IteT K a) [e, it] e (fun i h => (∃ old, IsEnum h e it ((i : Nat) : Int) old) ∧ h.IsTupleIter it a i ∧ e ≠ it) where
  mem := by simp
  obj := fun i h st b hb => by
    obtain ⟨⟨old, he⟩, ⟨o, ho, hc, hd⟩, _⟩ := st
    have e' : b = e ∨ b = it := by simpa using hb
    rcases e' with z | z
    · rw [z]; exact ⟨_, he, fun v q => nomatch q⟩
    · rw [z]; exact ⟨o, ho, fun v q => by rw [hd] at q; cases q⟩
  keep := fun i h h' st k => let ⟨⟨old, he⟩, hi, hne⟩ := st; ⟨⟨old, k e (by simp) _ he⟩, hi.at fun o q => k it (by simp) o q, hne⟩
  item := by
    intro X hP hw hK hc i pins s σ H E I hf st hg
    subst hP hw hK
    obtain ⟨⟨old, he⟩, hit, hne⟩ := st
    obtain ⟨xs, x, hq, hx⟩ := hg
    obtain ⟨its, rv, p, hz⟩ := I.tuple hq
    obtain ⟨u, hu, ru⟩ := rv.get hx
    have hel : e < s.heap.objs.size := Heap.lt_size he
    have hil : it < s.heap.objs.size := by obtain ⟨_, q, _⟩ := hit; exact Heap.lt_size q
    have hh : X.A.in1.handled = none := I.ok.hd hc
    have hsz : i < its.toArray.size := by
      have := (List.getElem?_eq_some_iff.mp hu).1
      simpa using this
    refine wpAny_pyNext_enum_itemD (Draws.tuple (prog := X.prog) (w := X.w) (A := X.A.in1) hh it a hai its.toArray) he ⟨hit, p⟩ hsz hne (by simp [hne, hae]) fun y h' tk hy ho hst' hT hsz' hk => ?_
    have ey : y = u := by
      have h1 : its[i]? = some y := by simpa using hy
      rw [hu] at h1
      exact (Option.some.inj h1).symm
    subst ey
    refine ⟨_, rfl, wpAny_letOwnedTupleGo_enum (s := { s with heap := h', toks := tk + 1 }) ho fun h'' he' sb => ?_⟩
    have hT2 : h''.get? s.heap.objs.size = some { cls := .type "tuple", data := .seq #[.int i tk, y] } := (sb.2 _ (Nat.ne_of_gt hel)).trans hT
    have new : ObjOk X.prog X.w (upd H s.heap.objs.size (.tup [.int (i : Nat), x])) h'' s.heap.objs.size (.tup [.int (i : Nat), x]) :=
      ⟨by show 2 ≤ sizeLine; decide, [.int i tk, y], .cons ⟨_, rfl⟩ (.cons ru .nil), ⟨_, hT2, rfl, _, rfl⟩⟩
    have I1 : Inv X pins σ (upd H s.heap.objs.size (.tup [.int (i : Nat), x])) { s with heap := h'', toks := tk + 1 } :=
      I.turnedNew (ch := [e, it]) (fun b ob hb q => (sb.2 b (fun z => hb (by simp [z]))).trans (hk b ob (fun z => hb (by simp [z])) (fun z => hb (by simp [z])) q)) hf (Nat.le_refl _) new
    refine ⟨.ref s.heap.objs.size, _, I1, rfl, ⟨_, x, rfl, I.hok.fresh (Nat.le_refl _), rfl, fun ys hy' => by rw [I.tuple_inj hy' hq]; exact hx⟩, ⟨⟨y, ?_⟩, hst'.1.at fun o q => (sb.2 it (Ne.symm hne)).trans q, hne⟩, fun b hb => ?_⟩
    · have e1 : ((i + 1 : Nat) : Int) = (i : Int) + 1 := by omega
      rw [e1]; exact he'
    · have hb' : b < s.heap.objs.size := by
        have e' : b = e ∨ b = it := by simpa using hb
        rcases e' with z | z
        · rw [z]; exact hel
        · rw [z]; exact hil
      rw [upd_ne (Nat.ne_of_lt hb')]
      exact (hf b hb).1
  done := by
    intro X hP hw hK hc i pins s σ H E I hf st hg
    subst hP hw hK
    obtain ⟨⟨old, he⟩, hit, hne⟩ := st
    obtain ⟨xs, hq, hx⟩ := hg
    obtain ⟨its, rv, p, hz⟩ := I.tuple hq
    obtain ⟨f0, f1, f2, f3, f4, f5⟩ := hf it (by simp)
    have hl := rv.length
    have hh : X.A.in1.handled = none := I.ok.hd hc
    exact enum_endT hh he hit p (by simp; omega) fun h' eb => ⟨rfl, I.turned (t' := s.toks) (fun b o hb q => eb b o hb q) f0 f1 f3 f4 f5⟩
  self := fun A i s Q E st h => let ⟨⟨_, he⟩, _⟩ := st; wpAny_pyIter_enum he h
def iEnumT (K : PySem.W.Frag) (ta : TA) : TI := fun σ H R => ta σ H fun vs H1 => ∃ a xs, vs = [.ref a] ∧ SqT K H1 a xs ∧ R (IteT K a) H1
theorem pi_enumT {X : Cx} {e : Expr} {ta : TA} {p pos tpos : Pos} {elts : List Expr} {kk : Nat} (hg : Gl X "enumerate") (hm : X.mg "enumerate" = none) (ha : PA X [e] ta) (hs : starEach [e] X.env = [(false, eval e X.env)] := by rfl) :
    PI X (.Tuple elts kk tpos) (.Call (.Name "enumerate" p) [e] [] pos) (iEnumT X.K ta) := by
  refine ⟨fun pins s σ H R I h => ?_⟩
  refine PyProof.Rows.Call_ (ld_blt I hg hm PyProof.Rows.Boot.«enumerate» (PyProof.Rows.callWith_type1 (thn (ha.run pos pins s σ H _ I h) fun us s1 ⟨vs, H1, I1, r1, q1⟩ => ?_) hs rfl))
  obtain ⟨a, xs, ex, hq, q⟩ := q1
  subst ex
  cases r1 with
  | cons r rr =>
    cases rr
    cases r
    obtain ⟨its, rv, p', hz⟩ := I1.tuple hq
    have hal : a < s1.heap.objs.size := by obtain ⟨o, g, _⟩ := p'; exact Heap.lt_size g
    refine call_enum_tup p' fun h' he hit hsz hk => wpAny_pyIter_enum he ?_
    have I2 : Inv X pins σ H1 { s1 with heap := h' } := I1.kept (t' := s1.toks) hk
    refine ⟨s1.heap.objs.size + 1, [s1.heap.objs.size + 1, s1.heap.objs.size], _, _, H1, rfl, I2, turn_enumT a (s1.heap.objs.size + 1) s1.heap.objs.size (Nat.ne_of_lt hal) (Nat.ne_of_gt (Nat.lt_succ_of_lt hal)), ⟨⟨.none, he⟩, hit, Nat.succ_ne_self _⟩, fun b hb => ?_, q⟩
    have e' : b = s1.heap.objs.size + 1 ∨ b = s1.heap.objs.size := by simpa using hb
    have hle : s1.heap.objs.size ≤ b := by
      rcases e' with z | z
      · rw [z]; exact Nat.le_add_right _ _
      · rw [z]; exact Nat.le_refl _
    exact I1.fpOk hle (I1.hok.fresh hle)
/-- a loop over it -/
theorem for_enumT {K : PySem.W.Frag} {a : Addr} {xs : List V} {g : TG} {tb : TS} {D : Ends} {σ : L2.St} {H : Hp} (Pv : Nat → L2.St → Hp → Prop) (h0 : Pv 0 σ H) (hl : ∀ i σ H, i ≤ xs.length → Pv i σ H → SqT K H a xs)
    (hs : ∀ i x T σ H, xs[i]? = some x → H T = none → Pv i σ H → g (.ref T) σ (upd H T (.tup [.int (i : Nat), x])) fun σ2 H2 => tb { D with nx := Pv (i + 1), ct := Pv (i + 1), bk := D.nx } σ2 H2) (hd : ∀ σ H, Pv xs.length σ H → D.nx σ H) :
    ∃ W : Nat → Nat → L2.St → Hp → Prop, (∃ m, W 0 m σ H) ∧ ∀ i m σ H, W i m σ H →
      ((IteT K a).stop i H ∧ D.nx σ H) ∨ ((IteT K a).go i H ∧ ∃ N : L2.St → Hp → Prop, (∀ σ' H', N σ' H' → ∃ m', m' < m ∧ W (i + 1) m' σ' H') ∧ ∀ x H', (IteT K a).yld i H x H' → g x σ H' fun σ2 H2 => tb { D with nx := N, ct := N, bk := D.nx } σ2 H2) := by
  refine ⟨fun i m σ H => m = xs.length - i ∧ i ≤ xs.length ∧ Pv i σ H, ⟨xs.length, by simp, Nat.zero_le _, h0⟩, ?_⟩
  rintro i m σ H ⟨rfl, hi, p⟩
  have q := hl i σ H hi p
  by_cases hlt : i < xs.length
  · refine .inr ⟨⟨xs, xs[i], q, by simp [hlt]⟩, Pv (i + 1), fun σ' H' p' => ⟨xs.length - (i + 1), by omega, rfl, hlt, p'⟩, fun v H' y => ?_⟩
    obtain ⟨T, x, rfl, nT, rfl, y⟩ := y
    exact hs i x T σ _ (y xs q) nT p
  · have e : i = xs.length := by omega
    subst e
    exact .inl ⟨⟨xs, q, Nat.le_refl _⟩, hd σ H p⟩
/-! ### names -/
theorem low_ok : ∀ c, 97 ≤ c → c ≤ 122 → Unicode.isAlpha c = true ∧ Unicode.isLower c = true ∧ Unicode.isUpper c = false ∧ Unicode.isTitle c = false := by
  have h : ∀ k : Fin 26, Unicode.isAlpha (97 + k.val) = true ∧ Unicode.isLower (97 + k.val) = true ∧ Unicode.isUpper (97 + k.val) = false ∧ Unicode.isTitle (97 + k.val) = false := by decide +kernel
  intro c h1 h2
  have := h ⟨c - 97, by omega⟩
  rw [show 97 + (c - 97) = c by omega] at this
  exact this
/-- what is_name tells of a text -/
def nmS (z : Str) : Bool := !decide (8 < z.length) && (Txt.isascii z && (Txt.isalpha z && Txt.islower z))
def nmD : PyData → Bool
  | .str z => nmS z
  | _ => false
theorem IsWord.nm {z : Str} (h : IsWord z) : nmS z = true := by
  obtain ⟨h1, h2, h3⟩ := h
  have hm : ∀ c, c ∈ z.cps → 97 ≤ c ∧ c ≤ 122 := fun c hc => h3 c (Array.mem_toList_iff.mpr hc)
  have e1 : (!decide (8 < z.length)) = true := by simp; omega
  have e2 : Txt.isascii z = true := by
    unfold Txt.isascii
    rw [Array.all_eq_true_iff_forall_mem]
    intro c hc
    have := hm c hc
    exact decide_eq_true (by omega)
  have e3 : Txt.isalpha z = true := by
    unfold Txt.isalpha
    rw [Bool.and_eq_true]
    refine ⟨decide_eq_true (by omega), ?_⟩
    rw [Array.all_eq_true_iff_forall_mem]
    intro c hc
    exact (low_ok c (hm c hc).1 (hm c hc).2).1
  have e4 : Txt.islower z = true := by
    unfold Txt.islower
    rw [Bool.and_eq_true]
    have hz : 0 < z.cps.size := h1
    refine ⟨?_, ?_⟩
    · rw [← Array.any_toList, List.any_eq_true]
      exact ⟨z.cps[0], Array.mem_toList_iff.mpr (Array.getElem_mem hz), (low_ok _ (hm _ (Array.getElem_mem hz)).1 (hm _ (Array.getElem_mem hz)).2).2.1⟩
    · rw [Bool.not_eq_true', ← Array.any_toList, List.any_eq_false]
      intro c hc
      have hc := Array.mem_toList_iff.mp hc
      have := low_ok c (hm c hc).1 (hm c hc).2
      rw [this.2.2.1, this.2.2.2]
      simp
  unfold nmS
  rw [e1, e2, e3, e4]
  rfl
def spIsName (K : PySem.W.Frag) : Sp := fun vs H Q _ => ∃ (v : V) (d : PyData), vs = [v] ∧ Dp K H v d ∧ (∀ z, d = .str z → z.length ≤ 1000) ∧ Q (.bl (nmD d)) H
/-- never reached -/
theorem ps_never {X : Cx} {st : Stmt} : PS X st (fun _ _ _ => False) := ⟨fun _ _ _ _ _ _ h => h.elim⟩
section
variable {P : Program} {w : World} {K : PySem.W.Frag} {mg : Str → Option Value} {base : Heap}
theorem scIN : FnScope ["thing"] ["thing"] (defScope sIsName) := ⟨rfl, rfl, rfl, by decide +kernel, rfl, by decide +kernel, by decide +kernel⟩
theorem ok_isname {f : Addr} {fd : FuncData} {k : Nat} {tk : Tok} (F : Fun K "is_name" "is_name" sIsName f fd) (B : Bts mg) (mL : mg "LONGEST_NAME" = some (.int 8 tk)) : FnOk P w K mg base CX0 (k + 1) f fd ["thing"] (spIsName K) := by
  refine F.ok scIN (fun vs H Q E h => ?_) (fun cdv A outer s H vs Q E hr h => ?_)
  · obtain ⟨v, d, rfl, _⟩ := h
    rfl
  · obtain ⟨v, d, rfl, hv, hz, kk⟩ := h
    refine ⟨_, pss_cons (ps_if (PW.pt (pw_or (pt_not (pt_val (pe_callB call_isi (by rfl) B.isinstance (by decide +kernel) (pa_cons (pv 0) (pa_cons (pe_bltn (v := .ty "str") (by rfl) B.str (by decide +kernel) rfl) pa_nil)))))
          (pw_or1 (pt_cmpR op_gt (pe_callB call_len_str (by rfl) B.len PySem.boot_len (pa_cons (pv 0) pa_nil)) (pe_glob (v := .int 8) rfl mL ⟨tk, rfl⟩) (by rfl)))))
        (pss_one (ps_ret pe_bl)) pss_nil)
      (pss_one (ps_ret (pe_and (pe_bm0 PySem.F.plainAttrs_str PySem.F.slot_str_isascii PySem.F.type_str_isascii mt_isascii (pv 0))
        (pe_and (pe_bm0 PySem.F.plainAttrs_str PySem.F.slot_str_isalpha PySem.F.type_str_isalpha mt_isalpha (pv 0))
        (pe_one (pe_bm0 PySem.F.plainAttrs_str PySem.F.slot_str_islower PySem.F.type_str_islower mt_islower (pv 0))))))), ?_⟩
    by_cases hs : ∃ z, d = .str z
    · obtain ⟨z, rfl⟩ := hs
      have hl := hz z rfl
      cases hv
      refine ⟨_, rfl, _, _, _, _, true, rfl, .ty _, TyX.base (TyOf.str z), kit_ty (by decide +kernel), _, rfl, iteF ?_⟩
      refine ⟨_, rfl, z, rfl, len1000 hl, _, _, rfl, rfl, _, rfl, ite2 (fun h => ?_) (fun h => ?_)⟩
      · have h8 : 8 < z.length := by have := of_decide_eq_true h; omega
        have e : nmS z = false := by unfold nmS; rw [decide_eq_true h8]; rfl
        show Q (.bl false) H
        have kk : Q (.bl (nmS z)) H := kk
        rw [e] at kk
        exact kk
      · have h8 : ¬ 8 < z.length := fun q => h (decide_eq_true (by omega))
        have e : nmS z = (Txt.isascii z && (Txt.isalpha z && Txt.islower z)) := by unfold nmS; rw [decide_eq_false h8]; rfl
        have kk : Q (.bl (nmS z)) H := kk
        rw [e] at kk
        refine ⟨_, rfl, rfl, z, rfl, rfl, True.intro, _, rfl, ite2 (fun ha => ?_) (fun ha => ?_)⟩
        · rw [ha, Bool.true_and] at kk
          refine ⟨_, rfl, rfl, z, rfl, rfl, True.intro, _, rfl, ite2 (fun hb => ?_) (fun hb => ?_)⟩
          · rw [hb, Bool.true_and] at kk
            exact ⟨_, rfl, rfl, z, rfl, rfl, True.intro, kk⟩
          · rw [Bool.eq_false_iff.mpr hb, Bool.false_and] at kk
            exact kk
        · rw [Bool.eq_false_iff.mpr ha, Bool.false_and] at kk
          exact kk
    · have e : nmD d = false := by
        cases d with
        | str z => exact absurd ⟨z, rfl⟩ hs
        | _ => rfl
      have kt : kitB (tyName d) "str" = some false := by
        cases d with
        | str z => exact absurd ⟨z, rfl⟩ hs
        | none => exact (by decide +kernel : kitB "NoneType" "str" = some false)
        | bool b => exact (by decide +kernel : kitB "bool" "str" = some false)
        | int i => exact (by decide +kernel : kitB "int" "str" = some false)
        | list l => exact (by decide +kernel : kitB "list" "str" = some false)
        | tuple l => exact (by decide +kernel : kitB "tuple" "str" = some false)
        | dict l => cases hv
      rw [e] at kk
      exact ⟨_, rfl, _, _, _, _, false, rfl, .ty _, ty_of hv, kit_ty kt, _, rfl, iteT (iteT kk)⟩
/-- check_names(t): all are names -/
def spNames0 (K : PySem.W.Frag) : Sp := fun vs H Q _ => ∃ (t : Addr) (xs : List Str), vs = [.ref t] ∧ SqT K H t (xs.map V.str) ∧ (∀ x ∈ xs, IsWord x) ∧ Q .non H
theorem scCN : FnScope ["things", "thing"] ["things"] (defScope sNames) := ⟨rfl, rfl, rfl, by decide +kernel, rfl, by decide +kernel, by decide +kernel⟩
theorem ok_names0 {f fI : Addr} {fd fdI : FuncData} (F : Fun K "check_names" "check_names" sNames f fd) (GI : FnOk P w K mg base CX0 1 fI fdI ["thing"] (spIsName K)) (mI : mg "is_name" = some (.ref fI)) (kI : PySem.W.keepIn K (.ref fI) = true) (bI : Binds K fdI ["thing"] []) :
    FnOk P w K mg base CX0 2 f fd ["things"] (spNames0 K) := by
  refine F.ok scCN (fun vs H Q E h => ?_) (fun cdv A outer s H vs Q E hr h => ?_)
  · obtain ⟨t, xs, rfl, _⟩ := h
    rfl
  · obtain ⟨t, xs, rfl, ht, hw, kk⟩ := h
    refine ⟨_, pss_one (ps_for PassesOwn.never rfl (pi_tup (pv 0)) (pg_name (i := 1) scCN.nd rfl (.inl rfl))
      (pss_one (ps_if (pt_not (pt_val (pe_call GI hr (by rfl) mI kI bI .nil pass0 (pa_cons (pv 1) pa_nil)))) (pss_one ps_never) pss_nil))), ?_⟩
    refine ⟨_, rfl, t, rfl, ⟨_, ht⟩, for_tup (K := K) (a := t) (xs := xs.map V.str) (fun i σ H2 => ∃ y, σ = [some (.ref t), y] ∧ H2 = H) ⟨none, rfl, rfl⟩ (fun i σ H2 _ ⟨_, _, e⟩ => by rw [e]; exact ht) ?_ ?_⟩
    · rintro i x σ H2 hx ⟨y, rfl, rfl⟩
      rw [List.getElem?_map] at hx
      obtain ⟨z, hz, rfl⟩ := Option.map_eq_some_iff.mp hx
      have hwz := hw z (List.mem_of_getElem? hz)
      refine ⟨_, rfl, .str z, .str z, rfl, .str z, fun z' e => ?_, _, rfl, ?_⟩
      · cases e; have := hwz.2.1; omega
      · have e : nmD (.str z) = true := hwz.nm
        rw [e]
        exact iteF ⟨_, rfl, rfl⟩
    · rintro σ H2 ⟨y, rfl, rfl⟩
      exact kk
/-- check_unlike(t): all unlike -/
def spUnlike0 (K : PySem.W.Frag) : Sp := fun vs H Q _ => ∃ (t : Addr) (xs : List Str), vs = [.ref t] ∧ SqT K H t (xs.map V.str) ∧ xs.Nodup ∧ xs.length ≤ 1000 ∧ ∀ H', Same H H' → Q .non H'
theorem scCU : FnScope ["names", "at", "name"] ["names"] (defScope sUnlike) := ⟨rfl, rfl, rfl, by decide +kernel, rfl, by decide +kernel, by decide +kernel⟩
theorem ok_unlike0 {f : Addr} {fd : FuncData} {k : Nat} (F : Fun K "check_unlike" "check_unlike" sUnlike f fd) (me : mg "enumerate" = none) : FnOk P w K mg base CX0 (k + 1) f fd ["names"] (spUnlike0 K) := by
  refine F.ok scCU (fun vs H Q E h => ?_) (fun cdv A outer s H vs Q E hr h => ?_)
  · obtain ⟨t, xs, rfl, _⟩ := h
    rfl
  · obtain ⟨t, xs, rfl, ht, hn, hl, kk⟩ := h
    refine ⟨_, pss_one (ps_for PassesOwn.never rfl (pi_enumT (by rfl) me (pa_cons (pv 0) pa_nil)) (pg_tup rfl (pgs_cons (pg_name (i := 1) scCU.nd rfl (.inl rfl)) (pgs_cons (pg_name (i := 2) scCU.nd rfl (.inl rfl)) pgs_nil)))
      (pss_one (ps_if (pt_cmpR op_in_seq (pv 2) (pe_slice sl_tup (pv 0) po_none (po_some (pv 1))) (by rfl)) (pss_one ps_never) pss_nil))), ?_⟩
    refine ⟨_, rfl, t, _, rfl, ht, for_enumT (K := K) (a := t) (xs := xs.map V.str) (fun i σ H2 => ∃ y z, σ = [some (.ref t), y, z] ∧ Same H H2) ⟨none, none, rfl, Same.refl _⟩ (fun i σ H2 _ ⟨_, _, _, e⟩ => Same.seqT e ht) ?_ ?_⟩
    · rintro i x T σ H2 hx nT ⟨y, z, rfl, s2⟩
      rw [List.getElem?_map] at hx
      obtain ⟨u, hu, rfl⟩ := Option.map_eq_some_iff.mp hx
      have hi : i < xs.length := (List.getElem?_eq_some_iff.mp hu).1
      have s3 := s2.trans (same_new (o := .tup [.int (i : Nat), .str u]) nT)
      have ht3 := Same.seqT s3 ht
      refine ⟨T, [.int (i : Nat), .str u], rfl, SqT.of upd_same, rfl, .int (i : Nat), [.str u], rfl, .str u, [], rfl, rfl, ?_⟩
      refine ⟨_, rfl, _, rfl, _, rfl, i, rfl, t, _, rfl, ht3, ?_, fun p np => ?_⟩
      · rintro ⟨_, h2⟩
        rw [HT.sIx_nat, List.length_map] at h2
        omega
      · rw [cut_take]
        refine ⟨p, _, rfl, .inr (SqT.of upd_same), rfl, ?_, _, rfl, ?_⟩
        · rw [List.all_eq_true]
          intro v hv
          obtain ⟨w', _, rfl⟩ := List.mem_map.mp (List.mem_of_mem_take hv)
          rfl
        · have e : inV (.str u) ((xs.map V.str).take i) = false := by
            unfold inV
            rw [List.any_eq_false]
            intro v hv
            rw [← List.map_take] at hv
            obtain ⟨w', hw', rfl⟩ := List.mem_map.mp hv
            obtain ⟨j, hj⟩ := List.getElem?_of_mem hw'
            intro q
            have q' : w' = u := beq_iff_eq.mp q
            subst q'
            rw [List.getElem?_take] at hj
            split at hj
            · rename_i hji
              obtain ⟨h1, e1⟩ := List.getElem?_eq_some_iff.mp hj
              obtain ⟨h2, e2⟩ := List.getElem?_eq_some_iff.mp hu
              exact (List.pairwise_iff_getElem.mp hn) j i h1 h2 hji (e1.trans e2.symm)
            · cases hj
          rw [e]
          exact iteF ⟨_, _, rfl, s3.trans (same_new np)⟩
    · rintro σ H2 ⟨y, z, rfl, s2⟩
      exact kk H2 s2
end
/-! ### a static method called through its class; own == and str -/
structure SMet (K : PySem.W.Frag) (C : Addr) (m : Str) (p g : Addr) : Prop where
  at_ : PySem.W.findCls K (.ref C) (.type "type") m = some (.get (.builtin "staticmethod.__get__") (.ref p) .none (.ref C))
  rc : ∃ rest, PySem.W.recIn K p "staticmethod" = some (.ref g :: rest)
  kp : PySem.W.keepIn K (.ref g) = true
def tSMeth (C : Addr) (sp : Sp) (E : XK) (ta : TE) (t : TA) : TE := fun σ H Q => ta σ H fun x H1 => x = .ref C ∧ t σ H1 fun vs H2 => sp vs H2 Q E
section
variable {X : Cx} {CX : CXT} {k : Nat} {C p g : Addr} {sp : Sp} {E : XK} {o e : Expr} {es : List Expr} {m : Str} {pos apos : Pos} {ta : TE} {t : TA} {pl : Sem Bool}
theorem pe_smeth (he : PE X o ta) (r : ClX.CRead X.K C (.type "type")) (c : SMet X.K C m p g) (F : FnR X.prog X.w X.K X.mg X.base CX k g sp) (hr : Room k X.A) (hx : Passes CX X E) (ha : PA X (e :: es) t)
    (hst : starEach (e :: es) X.env = (false, eval e X.env) :: starEach es X.env := by rfl) (hpl : (backTo pos (starEach es X.env)).any (·.1) = false := by rfl)
    (ht : eval (.Call (.Attribute o m apos) (e :: es) [] pos) X.env = (do
      let ov ← eval o X.env
      standAt apos.atName
      let (f, first) ← holding [ov] (getMethod ov m pl)
      callWith pos f first (backTo pos (starEach (e :: es) X.env)) (backToKw pos (keywordEach [] X.env))) := by rfl) :
    PE X (.Call (.Attribute o m apos) (e :: es) [] pos) (tSMeth C sp E ta t) := by
  refine ⟨fun pins s σ H Q I h => ?_⟩
  refine PySem.W.methodCall_KW (pl := pl) (thn (he.run pins s σ H _ I h) fun u s1 ⟨x, H1, I1, rx, ex, q⟩ => ?_) ht
  subst ex
  obtain rfl : u = Value.ref C := rx
  obtain ⟨rest, hp⟩ := c.rc
  refine PySem.W.method_cls I1.kIn r.ga (PySem.W.cls_bind I1.kIn r.rd c.at_ (wpAny_call (PySem.W.sm_get I1.kIn hp (PySem.W.handed_on rfl ?_))))
  refine PySem.W.callWith_K (h₀ := X.base) (first := []) I.ok.mod.kin c.kp (thn (ha.run pos pins _ σ H1 _ (I1.tok _) q) fun us s2 ⟨vs, H2, I2, rv, q2⟩ => ⟨I2.kIn, ?_⟩) hst hpl
  exact wpAny_call (run_fnR F hr hx I2 rv q2)
/-- x == y by C's own __eq__, both of the class at C -/
def rEqOwn (C : Addr) (sp : Sp) (E : XK) : R2 := fun x y H Q => ∃ a dx fs b dy gs, x = .ref a ∧ y = .ref b ∧ H a = some (.ins C dx fs) ∧ H b = some (.ins C dy gs) ∧ sp [x, y] H Q E
theorem op_eqOwn (hs : PySem.W.findIn X.K (.ref C) "__eq__" = some (some (.ref g))) (hf : PySem.W.isFn X.K (.ref g) = true) (F : FnR X.prog X.w X.K X.mg X.base CX k g sp) (hr : Room k X.A) (hx : Passes CX X E) : OpR X (compareOp .Eq) (rEqOwn C sp E) := by
  intro pins s σ H x y v u Q I rx ry h
  obtain ⟨a, dx, fs, b, dy, gs, rfl, rfl, ha, hb, q⟩ := h
  cases (show v = Value.ref a from rx)
  cases (show u = Value.ref b from ry)
  obtain ⟨mA, O, _⟩ := ins_get I.hok ha
  obtain ⟨mB, O', _⟩ := ins_get I.hok hb
  obtain ⟨od, J, _⟩ := O.look
  obtain ⟨od', J', _⟩ := O'.look
  obtain ⟨m, hF⟩ := I.fr
  have hn : PySem.W.notFirst X.K C (.ref C) = true := by unfold PySem.W.notFirst; simp
  show wpAny _ _ (richCompare .Eq (.ref a) (.ref b)) _ _ _
  refine PySem.W.cmp_K (op := .Eq) (tb := .ref C) hr.units0 hF I.ok.mod.kin J J'.type hn hs hf ?_
  refine wpAny_mono (wpAny_call (run_fnR (us := [.ref a, .ref b]) (vs := [.ref a, .ref b]) F hr hx I (.cons rfl (.cons rfl .nil)) q)) (fun w s' z => ?_) fun _ _ x => x
  obtain ⟨z', H', I', rz, qz⟩ := z
  exact SlX.cmpback rz ⟨z', H', I', rz, qz⟩
/-- str(x) by C's own __str__ -/
def rStrOwn (C : Addr) (sp : Sp) (E : XK) : List V → Hp → VK → Prop := fun xs H Q => ∃ a dx fs, xs = [.ref a] ∧ H a = some (.ins C dx fs) ∧ sp [.ref a] H (fun z H' => ∃ x, z = .str x ∧ Q z H') E
theorem call_strOwn (hs : PySem.W.findIn X.K (.ref C) "__str__" = some (some (.ref g))) (hf : PySem.W.isFn X.K (.ref g) = true) (F : FnR X.prog X.w X.K X.mg X.base CX k g sp) (hr : Room (k + 2) X.A) (hx : Passes CX X E) : CallR X (.type "str") (rStrOwn C sp E) := by
  intro pins s σ H xs us Q I r h
  obtain ⟨a, dx, fs, rfl, ha, q⟩ := h
  obtain ⟨u, rfl, ru⟩ := r.one
  cases (show u = Value.ref a from ru)
  obtain ⟨mA, O, _⟩ := ins_get I.hok ha
  obtain ⟨od, J, _⟩ := O.look
  have hr2 : Room k X.A.in1.in1 := (show Room (k + 1) X.A.in1 from Room.in1 hr).in1
  refine PySem.W.kso_call hr2.units0 I.kIn J hs hf (wpAny_mono (wpAny_call (SlX.run_at (us := [.ref a]) (ws := [.ref a]) F hr2 I.env0.in1.in1 hx I (.cons rfl .nil) q)) (fun w s' z => ?_) fun _ _ x => x)
  obtain ⟨z', H', I', rz, x, ex, qz⟩ := z
  subst ex
  obtain ⟨t, rfl⟩ := (show ∃ t, w = Value.str x t from rz)
  exact ⟨.str x, H', I', ⟨t, rfl⟩, qz⟩
end
/-! ### things -/
/-- what the written part says of Thing -/
structure ThIn (K : PySem.W.Frag) (mg : Str → Option Value) (C : Addr) : Prop where
  m : mg "Thing" = some (.ref C)
  cls : Cls K C
  nk : NoAttr K C "kind"
  nn : NoAttr K C "name"
  np : NoAttr K C "parts"
  rd : ClX.CRead K C (.type "type")
  ca : PySem.W.findIn K (.ref C) "__class__" = some (some (.builtin "object.__class__"))
  cn : PySem.W.specialIn K (.builtin "object.__class__") "__get__" = some (some (.builtin "getset_descriptor.__get__"))
  ct : PySem.W.takesIn K (.builtin "object.__class__") = some true
  cm : PySem.W.mroIn K C (.type "object") = some true
/-- a thing at a -/
def ThingAt (K : PySem.W.Frag) (H : Hp) (C a : Addr) (kind name : Str) (parts : List Str) : Prop :=
  ∃ dx fs t, H a = some (.ins C dx fs) ∧ fs.lookup ("kind" : Str) = some (.str kind) ∧ fs.lookup ("name" : Str) = some (.str name) ∧ fs.lookup ("parts" : Str) = some (.ref t) ∧ SqT K H t (parts.map V.str)
theorem ThingAt.same {K : PySem.W.Frag} {H H' : Hp} {C a : Addr} {kind name : Str} {parts : List Str} (s : Same H H') (h : ThingAt K H C a kind name parts) : ThingAt K H' C a kind name parts := by
  obtain ⟨dx, fs, t, h1, h2, h3, h4, h5⟩ := h
  exact ⟨dx, fs, t, s _ _ h1, h2, h3, h4, Same.seqT s h5⟩
def spInit (K : PySem.W.Frag) (C : Addr) : Sp := fun vs H Q _ => ∃ (a dx : Addr) (kind name : Str) (t : Addr) (parts : List Str), vs = [.ref a, .str kind, .str name, .ref t] ∧ H a = some (.ins C dx []) ∧ SqT K H t (parts.map V.str) ∧ IsWord name ∧ (∀ x ∈ parts, IsWord x) ∧ parts.length ≤ 900 ∧
  ∀ H', (∀ b o, b ≠ a → H b = some o → H' b = some o) → ThingAt K H' C a kind name parts → Q .non H'
/-- Thing.feed(name) and the like -/
def spMk (K : PySem.W.Frag) (C : Addr) (kind : Str) : Sp := fun vs H Q _ => ∃ (name : Str), vs = [.str name] ∧ IsWord name ∧ ∀ a H', Same H H' → ThingAt K H' C a kind name [] → Q (.ref a) H'
def spFieldM (K : PySem.W.Frag) (C : Addr) : Sp := fun vs H Q _ => ∃ (name over : Str), vs = [.str name, .str over] ∧ IsWord name ∧ IsWord over ∧ ∀ a H', Same H H' → ThingAt K H' C a "field" name [over] → Q (.ref a) H'
def spTableM (K : PySem.W.Frag) (C : Addr) : Sp := fun vs H Q _ => ∃ (name : Str) (keys : List Str), vs = .str name :: keys.map V.str ∧ IsWord name ∧ (∀ x ∈ keys, IsWord x) ∧ keys.Nodup ∧ keys.length ≤ 4 ∧ ∀ a H', Same H H' → ThingAt K H' C a "table" name keys → Q (.ref a) H'
section
variable {P : Program} {w : World} {K : PySem.W.Frag} {mg : Str → Option Value} {base : Heap}
theorem scTI : FnScope ["self", "kind", "name", "parts"] ["self", "kind", "name", "parts"] (defScope (me 1)) := ⟨rfl, rfl, rfl, by decide +kernel, rfl, by decide +kernel, by decide +kernel⟩
theorem fs_look (kind name : Str) (t : Addr) : (putF "parts" (.ref t) (putF "name" (.str name) (putF "kind" (.str kind) []))).lookup ("kind" : Str) = some (.str kind) ∧ (putF "parts" (.ref t) (putF "name" (.str name) (putF "kind" (.str kind) []))).lookup ("name" : Str) = some (.str name) ∧
    (putF "parts" (.ref t) (putF "name" (.str name) (putF "kind" (.str kind) []))).lookup ("parts" : Str) = some (.ref t) := by
  refine ⟨?_, ?_, ?_⟩ <;> simp only [lookup_putF] <;> rfl
theorem ok_init {f fN C : Addr} {fd fdN : FuncData} (T : ThIn K mg C) (F : Fun K "__init__" "Thing.__init__" (me 1) f fd) (GN : FnOk P w K mg base CX0 2 fN fdN ["things"] (spNames0 K)) (mN : mg "check_names" = some (.ref fN)) (kN : PySem.W.keepIn K (.ref fN) = true) (bN : Binds K fdN ["things"] []) :
    FnOk P w K mg base CX0 3 f fd ["self", "kind", "name", "parts"] (spInit K C) := by
  refine F.ok scTI (fun vs H Q E h => ?_) (fun cdv A outer s H vs Q E hr h => ?_)
  · obtain ⟨a, dx, kind, name, t, parts, rfl, _⟩ := h
    rfl
  · obtain ⟨a, dx, kind, name, t, parts, rfl, ha, ht, hn, hp, hl, kk⟩ := h
    refine ⟨_, pss_cons (ps_expr (pe_call GN hr (by rfl) mN kN bN .nil pass0 (pa_cons (pe_tup (pa_cons (pv 2) (StX.pa_star (pv 3) pa_nil))) pa_nil)))
      (pss_cons (ps_fld (pv 0) (pv 1) rfl) (pss_cons (ps_fld (pv 0) (pv 2) rfl) (pss_one (ps_fld (pv 0) (pv 3) rfl)))), ?_⟩
    refine ⟨_, rfl, _, rfl, t, _, rfl, .inl ht, len1000 (by simp only [List.length_cons, List.length_append, List.length_map, List.length_nil]; omega), fun p np => ?_⟩
    have npa : p ≠ a := (ne_of_none ha np).symm
    refine ⟨p, name :: parts, rfl, ?_, fun x hx => ?_, ?_⟩
    · rw [List.map_cons]
      have : (V.str name :: (parts.map V.str ++ [])) = V.str name :: parts.map V.str := by rw [List.append_nil]
      rw [← this]
      exact SqT.of upd_same
    · rcases List.mem_cons.mp hx with rfl | hx
      · exact hn
      · exact hp x hx
    · have ha1 := same_new (o := .tup (V.str name :: (parts.map V.str ++ []))) np _ _ ha
      refine ⟨_, rfl, _, rfl, a, C, dx, _, rfl, ha1, T.cls, T.nk, by decide, ?_⟩
      refine ⟨_, rfl, _, rfl, a, C, dx, _, rfl, upd_same, T.cls, T.nn, by simp [putF], ?_⟩
      refine ⟨_, rfl, _, rfl, a, C, dx, _, rfl, upd_same, T.cls, T.np, ?_, ?_⟩
      · have h2 : ∀ fs : List (Str × V), ∀ f v, (putF f v fs).length ≤ fs.length + 1 := fun fs f v => by
          induction fs with
          | nil => simp [putF]
          | cons p r ih =>
            obtain ⟨g, x⟩ := p
            unfold putF
            split
            · simp
            · simp only [List.length_cons]; omega
        have := h2 (putF "kind" (.str kind) []) "name" (.str name)
        have := h2 [] "kind" (.str kind)
        simp only [List.length_nil] at this
        omega
      · have kp : ∀ b o, b ≠ a → H b = some o → (upd (upd (upd (upd H p (.tup (V.str name :: (parts.map V.str ++ [])))) a (.ins C dx (putF "kind" (.str kind) []))) a (.ins C dx (putF "name" (.str name) (putF "kind" (.str kind) [])))) a (.ins C dx (putF "parts" (.ref t) (putF "name" (.str name) (putF "kind" (.str kind) []))))) b = some o := fun b o nb e => by
          rw [upd_ne nb, upd_ne nb, upd_ne nb]
          exact same_new np _ _ e
        refine kk _ kp ⟨dx, _, t, upd_same, (fs_look kind name t).1, (fs_look kind name t).2.1, (fs_look kind name t).2.2, ?_⟩
        rcases ht with (h1 | ⟨o, h1⟩) | h3
        · refine .inl (.inl (kp _ _ (fun e => ?_) h1))
          rw [e, ha] at h1; cases h1
        · refine .inl (.inr ⟨o, kp _ _ (fun e => ?_) h1⟩)
          rw [e, ha] at h1; cases h1
        · exact .inr h3
/-- Thing(kind, name, parts) -/
theorem make_at {C t0 x dx : Addr} {H1 : Hp} {kind name : Str} {parts : List Str} {R : Hp → Prop} (ht : SqT K H1 t0 (parts.map V.str)) (hn : IsWord name) (hp : ∀ x ∈ parts, IsWord x) (hl : parts.length ≤ 900) (nx : H1 x = none) (ndx : H1 dx = none) (q : ∀ H', Same H1 H' → ThingAt K H' C x kind name parts → R H') :
    spInit K C (.ref x :: ([.str kind, .str name, .ref t0] ++ [])) (upd (upd H1 dx (.own x)) x (.ins C dx [])) (fun v H2 => v = .non ∧ R H2) E0 := by
  have s1 : Same H1 (upd (upd H1 dx (.own x)) x (.ins C dx [])) := fun b o e => by
    rw [upd_ne (ne_of_none e nx), upd_ne (ne_of_none e ndx)]; exact e
  exact ⟨x, dx, kind, name, t0, parts, rfl, upd_same, Same.seqT s1 ht, hn, hp, hl, fun H' kp th => ⟨rfl, q H' (fun b o e => kp b o (ne_of_none e nx) (s1 b o e)) th⟩⟩
theorem ok_mk {i : Nat} {f fI C : Addr} {fd fdI : FuncData} {m qual kind : Str} (T : ThIn K mg C) (M : Mk K C fI) (F : Fun K m qual (me i) f fd) (GI : FnOk P w K mg base CX0 3 fI fdI ["self", "kind", "name", "parts"] (spInit K C)) (bI : Binds K fdI ["self", "kind", "name", "parts"] [])
    (S : FnScope ["name"] ["name"] (defScope (me i))) (hg : ∀ cdv A outer s H E, Gl (cxOf CX0 P w K mg base ["name"] qual (defScope (me i)) f cdv A outer s H E).nox "Thing") (hv : Vis (defScope (me i)) "name")
    {p1 p2 p3 p4 p5 p6 : Pos} {j k : Nat} (hb : defBody (me i) = [.Return (some (.Call (.Name "Thing" p1) [.Constant (.str kind) j p2, .Name "name" p3, .Tuple [] k p4] [] p5)) p6]) : FnOk P w K mg base CX0 5 f fd ["name"] (spMk K C kind) := by
  refine F.ok S (fun vs H Q E h => ?_) (fun cdv A outer s H vs Q E hr h => ?_)
  · obtain ⟨name, rfl, _⟩ := h
    rfl
  · obtain ⟨name, rfl, hn, kk⟩ := h
    rw [hb]
    refine ⟨_, pss_one (ps_ret (pe_make M GI hr (hg _ _ _ _ _ _) T.m bI .nil pass0 (pa_cons pe_str (pa_cons (pe_var (i := 0) rfl hv (by decide) (by decide)) (pa_cons (pe_tup pa_nil) pa_nil))))), ?_⟩
    refine ⟨_, rfl, by show 0 ≤ sizeLine; decide, fun t0 nt => ?_⟩
    intro x dx nx ndx _
    exact make_at (parts := []) (SqT.of upd_same) hn (fun x hx => by cases hx) (by simp) nx ndx fun H' s th => kk x H' ((same_new nt).trans s) th
end
/-! ### BadName and its like raised -/
theorem low_iff : ∀ c, c < 128 → Unicode.isAlpha c = true → Unicode.isUpper c = false → 97 ≤ c ∧ c ≤ 122 := by
  have h : ∀ k : Fin 128, Unicode.isAlpha k.val = true → Unicode.isUpper k.val = false → 97 ≤ k.val ∧ k.val ≤ 122 := by decide +kernel
  exact fun c hc => h ⟨c, hc⟩
theorem word_of_nm {z : Str} (h : nmS z = true) : IsWord z := by
  unfold nmS at h
  obtain ⟨h1, h⟩ := Bool.and_eq_true_iff.mp h
  obtain ⟨h2, h⟩ := Bool.and_eq_true_iff.mp h
  obtain ⟨h3, h4⟩ := Bool.and_eq_true_iff.mp h
  unfold Txt.isascii at h2
  unfold Txt.isalpha at h3
  unfold Txt.islower at h4
  rw [Array.all_eq_true_iff_forall_mem] at h2
  obtain ⟨h3, h5⟩ := Bool.and_eq_true_iff.mp h3
  rw [Array.all_eq_true_iff_forall_mem] at h5
  obtain ⟨_, h6⟩ := Bool.and_eq_true_iff.mp h4
  rw [Bool.not_eq_true', ← Array.any_toList, List.any_eq_false] at h6
  refine ⟨of_decide_eq_true h3, ?_, fun c hc => ?_⟩
  · have := h1
    simp only [Bool.not_eq_true', decide_eq_false_iff_not] at this
    omega
  · have hm := Array.mem_toList_iff.mp hc
    have hu := h6 c hc
    simp only [Bool.or_eq_true, not_or, Bool.not_eq_true] at hu
    exact low_iff c (of_decide_eq_true (h2 c hm)) (h5 c hm) hu.1
/-- data that is a name is a word -/
theorem nmD_word {d : PyData} (h : nmD d = true) : ∃ z, d = .str z ∧ IsWord z := by
  cases d with
  | str z => exact ⟨z, rfl, word_of_nm h⟩
  | _ => cases h
theorem sm_len {m : Nat} {d : PyData} (h : sm m d) : ∀ z, d = .str z → z.length ≤ 1000 := fun z e => by
  subst e
  cases m with
  | zero => simp [sm] at h
  | succ m => simp only [sm] at h; omega
/-- what a raised error of one attribute leaves -/
abbrev Rais (f : Str) (C : Addr) (v : V) (H : Hp) (E : XK) : Prop := ∀ (dx : Addr) (H' : Hp), Same H H' → H' dx = some (.xd [(f, v)]) → E (.ref C) (some dx) H'
theorem rais_in {K : PySem.W.Frag} {C : Addr} {f : Str} {v : V} {d : PyData} {H1 : Hp} {E : XK} (hv : Dp K H1 v d) (hd : sm 3 d) (q : Rais f C v H1 E) : ([v] : List V).length ≤ 1000 ∧ ∀ a, H1 a = none → spErr K C f (.ref a :: ([v] ++ [])) (upd H1 a (exo a C none))
    (fun v2 H2 => v2 = .non ∧ ∃ (dx : Addr) (fs : List (Str × V)), H2 a = some (exo a C (some dx)) ∧ H2 dx = some (exd dx fs) ∧ H1 dx = none ∧ E (.ref C) (some dx) (upd (del H2 a) dx (.xd fs))) (fun _ _ _ => False) := by
  refine ⟨Nat.le_of_ble_eq_true rfl, fun a na => ?_⟩
  have s1 : Same H1 (upd H1 a (exo a C none)) := same_new na
  refine ⟨a, v, d, rfl, upd_same, dp_same s1 _ _ hv, hd, fun dx ndx hne => ⟨rfl, dx, [(f, v)], upd_same, by rw [upd_ne hne, upd_same], ?_, ?_⟩⟩
  · rw [upd_ne hne] at ndx; exact ndx
  · have ndx1 : H1 dx = none := by rw [upd_ne hne] at ndx; exact ndx
    refine q dx _ (fun b o e => ?_) upd_same
    have nb : b ≠ a := ne_of_none e na
    have nbd : b ≠ dx := ne_of_none e ndx1
    rw [upd_ne nbd, del_ne nb, upd_ne nb, upd_ne nbd, upd_ne nb]
    exact e
/-- the class of such an error and its def -/
structure RaisC (P : Program) (K : PySem.W.Frag) (mg : Str → Option Value) (n f : Str) (C fI cc : Addr) (fd : FuncData) : Prop where
  nx : NmOk f
  T : ErrIn P K mg n f C fI cc fd
  b : Binds K fd ["self", f] []
/-- check_names(t) -/
def spNamesX (K : PySem.W.Frag) (BN : Addr) : Sp := fun vs H Q E => ∃ (t : Addr) (xs : List V) (ds : List PyData), vs = [.ref t] ∧ SqT K H t xs ∧ DpAll K H xs ds ∧ (∀ d ∈ ds, sm 3 d) ∧ ((∀ d ∈ ds, nmD d = true) → Q .non H) ∧
  ∀ (i : Nat) (v : V) (d : PyData), xs[i]? = some v → ds[i]? = some d → nmD d = false → (∀ (j : Nat) (d' : PyData), j < i → ds[j]? = some d' → nmD d' = true) → Rais "name" BN v H E
section
variable {P : Program} {w : World} {K : PySem.W.Frag} {mg : Str → Option Value} {base : Heap}
theorem ok_namesX {f fI BN fB cB : Addr} {fd fdI fdB : FuncData} (F : Fun K "check_names" "check_names" sNames f fd) (GI : FnOk P w K mg base CX0 1 fI fdI ["thing"] (spIsName K)) (mI : mg "is_name" = some (.ref fI)) (kI : PySem.W.keepIn K (.ref fI) = true) (bI : Binds K fdI ["thing"] [])
    (R : RaisC P K mg "BadName" "name" BN fB cB fdB) : FnOk P w K mg base (L2.CX P w) 3 f fd ["things"] (spNamesX K BN) := by
  refine F.okX scCN (fun vs H Q E h => ?_) (fun cdv A outer s H vs Q E hr h => ?_)
  · obtain ⟨t, xs, ds, rfl, _⟩ := h
    rfl
  · obtain ⟨t, xs, ds, rfl, ht, hds, hsm, kk, kx⟩ := h
    have hr1 : Room 1 _ := hr.mono (by decide)
    have tk := takes_of (X := cxOf (L2.CX P w) P w K mg base ["things", "thing"] "check_names" (defScope sNames) f cdv A outer s H E) rfl rfl rfl rfl
    refine ⟨_, pss_one (ps_for (passes_of rfl) rfl (pi_tup (pv 0)) (pg_name (i := 1) scCN.nd rfl (.inl rfl))
      (pss_one (ps_if (pt_not (pt_val (pe_call GI hr1 (by rfl) mI kI bI .nil pass0 (pa_cons (pv 1) pa_nil))))
        (pss_one (ps_raise rfl tk (pmk_oex R.T.o R.T.iC R.T.tI (ok_err (base := base) (w := w) R.nx R.T) hr R.b .nil pass0 (by rfl) R.T.gC (pa_cons (pv 1) pa_nil)))) pss_nil))), ?_⟩
    refine ⟨_, rfl, t, rfl, ⟨_, ht⟩, for_tup (K := K) (a := t) (xs := xs) (fun i σ H2 => ∃ y, σ = [some (.ref t), y] ∧ H2 = H ∧ ∀ (j : Nat) (d' : PyData), j < i → ds[j]? = some d' → nmD d' = true) ⟨none, rfl, rfl, fun j _ hj => by omega⟩ (fun i σ H2 _ ⟨_, _, e, _⟩ => by rw [e]; exact ht) ?_ ?_⟩
    · rintro i x σ H2 hx ⟨y, rfl, rfl, hj⟩
      obtain ⟨d, ed, hd⟩ := dpAll_at hds hx
      have hsd := hsm d (List.mem_of_getElem? ed)
      refine ⟨_, rfl, x, d, rfl, hd, sm_len hsd, _, rfl, ?_⟩
      cases hb : nmD d with
      | true =>
        refine iteF ⟨_, rfl, rfl, fun j d' hj' ej => ?_⟩
        by_cases e : j = i
        · subst e
          rw [ed] at ej
          cases ej
          exact hb
        · exact hj j d' (by omega) ej
      | false =>
        refine iteT ?_
        exact ⟨_, rfl, rais_in hd hsd (kx i x d hx ed hb hj)⟩
    · rintro σ H2 ⟨y, rfl, rfl, hj⟩
      refine kk fun d hd => ?_
      obtain ⟨j, ej⟩ := List.getElem?_of_mem hd
      refine hj j d ?_ ej
      have := (List.getElem?_eq_some_iff.mp ej).1
      rw [dpAll_len hds]; exact this
/-- Thing(kind, v, t) -/
def spInitX (K : PySem.W.Frag) (C BN : Addr) : Sp := fun vs H Q E => ∃ (a dx : Addr) (kind : Str) (v : V) (d : PyData) (t : Addr) (xs : List V) (ds : List PyData), vs = [.ref a, .str kind, v, .ref t] ∧ H a = some (.ins C dx []) ∧ SqT K H t xs ∧ Dp K H v d ∧ DpAll K H xs ds ∧ sm 3 d ∧ (∀ d ∈ ds, sm 3 d) ∧ ds.length ≤ 900 ∧
  (∀ (z : Str) (zs : List Str), d = .str z → ds = zs.map .str → IsWord z → (∀ x ∈ zs, IsWord x) → ∀ H', (∀ b o, b ≠ a → H b = some o → H' b = some o) → ThingAt K H' C a kind z zs → Q .non H') ∧
  ∀ (i : Nat) (u : V) (e : PyData), (v :: xs)[i]? = some u → (d :: ds)[i]? = some e → nmD e = false → (∀ (j : Nat) (d' : PyData), j < i → (d :: ds)[j]? = some d' → nmD d' = true) → ∀ (dy : Addr) (H' : Hp), Same H H' → H' dy = some (.xd [("name", u)]) → E (.ref BN) (some dy) H'
theorem words_of : ∀ {ds : List PyData}, (∀ d ∈ ds, nmD d = true) → ∃ zs : List Str, ds = zs.map .str ∧ ∀ x ∈ zs, IsWord x
  | [], _ => ⟨[], rfl, fun _ h => nomatch h⟩
  | d :: r, h => by
    obtain ⟨z, rfl, hz⟩ := nmD_word (h d List.mem_cons_self)
    obtain ⟨zs, e, hzs⟩ := words_of fun x hx => h x (List.mem_cons_of_mem _ hx)
    refine ⟨z :: zs, by rw [List.map_cons, ← e], fun x hx => ?_⟩
    rcases List.mem_cons.mp hx with rfl | hx
    · exact hz
    · exact hzs x hx
theorem dp_strs {K : PySem.W.Frag} {H : Hp} : ∀ {zs : List Str} {xs : List V}, DpAll K H xs (zs.map .str) → xs = zs.map V.str
  | [], _, .nil => rfl
  | _ :: _, _, .cons h r => by
    cases h
    rw [List.map_cons, dp_strs r]
theorem ok_initX {f fN C BN : Addr} {fd fdN : FuncData} (T : ThIn K mg C) (F : Fun K "__init__" "Thing.__init__" (me 1) f fd) (GN : FnOk P w K mg base (L2.CX P w) 3 fN fdN ["things"] (spNamesX K BN)) (mN : mg "check_names" = some (.ref fN)) (kN : PySem.W.keepIn K (.ref fN) = true) (bN : Binds K fdN ["things"] []) :
    FnOk P w K mg base (L2.CX P w) 4 f fd ["self", "kind", "name", "parts"] (spInitX K C BN) := by
  refine F.okX scTI (fun vs H Q E h => ?_) (fun cdv A outer s H vs Q E hr h => ?_)
  · obtain ⟨a, dx, kind, v, d, t, xs, ds, rfl, _⟩ := h
    rfl
  · obtain ⟨a, dx, kind, v, d, t, xs, ds, rfl, ha, ht, hv, hds, hsd, hsm, hl, kk, kx⟩ := h
    have tk := takes_of (X := cxOf (L2.CX P w) P w K mg base ["self", "kind", "name", "parts"] "Thing.__init__" (defScope (me 1)) f cdv A outer s H E) rfl rfl rfl rfl
    refine ⟨_, pss_cons (ps_expr (pe_call GN hr (by rfl) mN kN bN .nil (E := E) (passes_call tk fun _ _ _ _ h => h) (pa_cons (pe_tup (pa_cons (pv 2) (StX.pa_star (pv 3) pa_nil))) pa_nil)))
      (pss_cons (ps_fld (pv 0) (pv 1) rfl) (pss_cons (ps_fld (pv 0) (pv 2) rfl) (pss_one (ps_fld (pv 0) (pv 3) rfl)))), ?_⟩
    have lx : xs.length = ds.length := dpAll_len hds
    refine ⟨_, rfl, _, rfl, t, _, rfl, .inl ht, len1000 (by simp only [List.length_cons, List.length_append, List.length_nil]; omega), fun p np => ?_⟩
    have npa : p ≠ a := (ne_of_none ha np).symm
    have e0 : (v :: (xs ++ [])) = v :: xs := by rw [List.append_nil]
    rw [e0]
    have s1 : Same H (upd H p (.tup (v :: xs))) := same_new np
    refine ⟨p, v :: xs, d :: ds, rfl, SqT.of upd_same, .cons (dp_same s1 _ _ hv) (dpAll_same s1 _ _ hds), fun x hx => ?_, fun hall => ?_, fun i u e h1 h2 h3 h4 dy H' s2 hy => kx i u e h1 h2 h3 h4 dy H' (s1.trans s2) hy⟩
    · rcases List.mem_cons.mp hx with rfl | hx
      · exact hsd
      · exact hsm x hx
    · obtain ⟨name, rfl, hn⟩ := nmD_word (hall d List.mem_cons_self)
      obtain ⟨parts, rfl, hp⟩ := words_of fun x hx => hall x (List.mem_cons_of_mem _ hx)
      obtain rfl := dp_str hv
      obtain rfl := dp_strs hds
      have ha1 := s1 _ _ ha
      refine ⟨_, rfl, _, rfl, a, C, dx, _, rfl, ha1, T.cls, T.nk, by decide, ?_⟩
      refine ⟨_, rfl, _, rfl, a, C, dx, _, rfl, upd_same, T.cls, T.nn, by simp [putF], ?_⟩
      refine ⟨_, rfl, _, rfl, a, C, dx, _, rfl, upd_same, T.cls, T.np, ?_, ?_⟩
      · have h2 : ∀ fs : List (Str × V), ∀ f v, (putF f v fs).length ≤ fs.length + 1 := fun fs f v => by
          induction fs with
          | nil => simp [putF]
          | cons p r ih =>
            obtain ⟨g, x⟩ := p
            unfold putF
            split
            · simp
            · simp only [List.length_cons]; omega
        have := h2 (putF "kind" (.str kind) []) "name" (.str name)
        have := h2 [] "kind" (.str kind)
        simp only [List.length_nil] at this
        omega
      · have kp : ∀ b o, b ≠ a → H b = some o → (upd (upd (upd (upd H p (.tup (V.str name :: parts.map V.str))) a (.ins C dx (putF "kind" (.str kind) []))) a (.ins C dx (putF "name" (.str name) (putF "kind" (.str kind) [])))) a (.ins C dx (putF "parts" (.ref t) (putF "name" (.str name) (putF "kind" (.str kind) []))))) b = some o := fun b o nb e => by
          rw [upd_ne nb, upd_ne nb, upd_ne nb]
          exact s1 _ _ e
        refine kk name parts rfl rfl hn hp _ kp ⟨dx, _, t, upd_same, (fs_look kind name t).1, (fs_look kind name t).2.1, (fs_look kind name t).2.2, ?_⟩
        rcases ht with (h1 | ⟨o, h1⟩) | h3
        · refine .inl (.inl (kp _ _ (fun e => ?_) h1))
          rw [e, ha] at h1; cases h1
        · refine .inl (.inr ⟨o, kp _ _ (fun e => ?_) h1⟩)
          rw [e, ha] at h1; cases h1
        · exact .inr h3
end
def spMkX (K : PySem.W.Frag) (C BN : Addr) (kind : Str) : Sp := fun vs H Q E => ∃ (v : V) (d : PyData), vs = [v] ∧ Dp K H v d ∧ sm 3 d ∧ (∀ z, d = .str z → IsWord z → ∀ a H', Same H H' → ThingAt K H' C a kind z [] → Q (.ref a) H') ∧ (nmD d = false → Rais "name" BN v H E)
def spFieldX (K : PySem.W.Frag) (C BN : Addr) : Sp := fun vs H Q E => ∃ (v u : V) (d e : PyData), vs = [v, u] ∧ Dp K H v d ∧ Dp K H u e ∧ sm 3 d ∧ sm 3 e ∧
  (∀ z y, d = .str z → e = .str y → IsWord z → IsWord y → ∀ a H', Same H H' → ThingAt K H' C a "field" z [y] → Q (.ref a) H') ∧ (nmD d = false → Rais "name" BN v H E) ∧ (nmD d = true → nmD e = false → Rais "name" BN u H E)
section
variable {P : Program} {w : World} {K : PySem.W.Frag} {mg : Str → Option Value} {base : Heap}
theorem make_atX {C BN t0 x dx : Addr} {H1 : Hp} {kind : Str} {v : V} {d : PyData} {xs : List V} {ds : List PyData} {R : Hp → Prop} {E : XK} (ht : SqT K H1 t0 xs) (hv : Dp K H1 v d) (hds : DpAll K H1 xs ds) (hsd : sm 3 d) (hsm : ∀ d ∈ ds, sm 3 d) (hl : ds.length ≤ 900) (nx : H1 x = none) (ndx : H1 dx = none)
    (q : ∀ (z : Str) (zs : List Str), d = .str z → ds = zs.map .str → IsWord z → (∀ x ∈ zs, IsWord x) → ∀ H', Same H1 H' → ThingAt K H' C x kind z zs → R H')
    (qx : ∀ (i : Nat) (u : V) (e : PyData), (v :: xs)[i]? = some u → (d :: ds)[i]? = some e → nmD e = false → (∀ (j : Nat) (d' : PyData), j < i → (d :: ds)[j]? = some d' → nmD d' = true) → Rais "name" BN u H1 E) :
    spInitX K C BN (.ref x :: ([.str kind, v, .ref t0] ++ [])) (upd (upd H1 dx (.own x)) x (.ins C dx [])) (fun v H2 => v = .non ∧ R H2) E := by
  have s1 : Same H1 (upd (upd H1 dx (.own x)) x (.ins C dx [])) := fun b o e => by
    rw [upd_ne (ne_of_none e nx), upd_ne (ne_of_none e ndx)]; exact e
  exact ⟨x, dx, kind, v, d, t0, xs, ds, rfl, upd_same, Same.seqT s1 ht, dp_same s1 _ _ hv, dpAll_same s1 _ _ hds, hsd, hsm, hl, fun z zs e1 e2 h1 h2 H' kp th => ⟨rfl, q z zs e1 e2 h1 h2 H' (fun b o e => kp b o (ne_of_none e nx) (s1 b o e)) th⟩,
    fun i u e h1 h2 h3 h4 dy H' s2 hy => qx i u e h1 h2 h3 h4 dy H' (s1.trans s2) hy⟩
theorem ok_mkX {i : Nat} {f fI C BN : Addr} {fd fdI : FuncData} {m qual kind : Str} (T : ThIn K mg C) (M : Mk K C fI) (F : Fun K m qual (me i) f fd) (GI : FnOk P w K mg base (L2.CX P w) 4 fI fdI ["self", "kind", "name", "parts"] (spInitX K C BN)) (bI : Binds K fdI ["self", "kind", "name", "parts"] [])
    (S : FnScope ["name"] ["name"] (defScope (me i))) (hg : ∀ cdv A outer s H E, Gl (cxOf (L2.CX P w) P w K mg base ["name"] qual (defScope (me i)) f cdv A outer s H E) "Thing") (hv : Vis (defScope (me i)) "name")
    {p1 p2 p3 p4 p5 p6 : Pos} {j k : Nat} (hb : defBody (me i) = [.Return (some (.Call (.Name "Thing" p1) [.Constant (.str kind) j p2, .Name "name" p3, .Tuple [] k p4] [] p5)) p6]) : FnOk P w K mg base (L2.CX P w) 6 f fd ["name"] (spMkX K C BN kind) := by
  refine F.okX S (fun vs H Q E h => ?_) (fun cdv A outer s H vs Q E hr h => ?_)
  · obtain ⟨v, d, rfl, _⟩ := h
    rfl
  · obtain ⟨v, d, rfl, hd, hsd, kk, kx⟩ := h
    have tk := takes_of (X := cxOf (L2.CX P w) P w K mg base ["name"] qual (defScope (me i)) f cdv A outer s H E) rfl rfl rfl rfl
    rw [hb]
    refine ⟨_, pss_one (ps_ret (pe_make M GI hr (hg _ _ _ _ _ _) T.m bI .nil (E := E) (passes_call tk fun _ _ _ _ h => h) (pa_cons pe_str (pa_cons (pe_var (i := 0) rfl hv (by decide) (by decide)) (pa_cons (pe_tup pa_nil) pa_nil))))), ?_⟩
    refine ⟨_, rfl, by show 0 ≤ sizeLine; decide, fun t0 nt => ?_⟩
    intro x dx nx ndx _
    have s1 := same_new (o := .tup []) nt
    refine make_atX (ds := []) (SqT.of upd_same) (dp_same s1 _ _ hd) .nil hsd (fun d h => by cases h) (by simp) nx ndx (fun z zs e1 e2 h1 h2 H' s th => ?_) fun i u e h1 h2 h3 h4 dy H' s hy => ?_
    · have : zs = [] := List.map_eq_nil_iff.mp e2.symm
      subst this
      exact kk z e1 h1 x H' (s1.trans s) th
    · cases i with
      | zero =>
        obtain rfl := Option.some.inj h1
        obtain rfl := Option.some.inj h2
        exact kx h3 dy H' (s1.trans s) hy
      | succ i => simp at h2
theorem scF2X : FnScope ["name", "over"] ["name", "over"] (defScope (me 6)) := ⟨rfl, rfl, rfl, by decide +kernel, rfl, by decide +kernel, by decide +kernel⟩
theorem ok_fieldX {f fI C BN : Addr} {fd fdI : FuncData} (T : ThIn K mg C) (M : Mk K C fI) (F : Fun K "field" "Thing.field" (me 6) f fd) (GI : FnOk P w K mg base (L2.CX P w) 4 fI fdI ["self", "kind", "name", "parts"] (spInitX K C BN)) (bI : Binds K fdI ["self", "kind", "name", "parts"] []) : FnOk P w K mg base (L2.CX P w) 6 f fd ["name", "over"] (spFieldX K C BN) := by
  refine F.okX scF2X (fun vs H Q E h => ?_) (fun cdv A outer s H vs Q E hr h => ?_)
  · obtain ⟨v, u, d, e, rfl, _⟩ := h
    rfl
  · obtain ⟨v, u, d, e, rfl, hd, he, hsd, hse, kk, kx, ky⟩ := h
    have tk := takes_of (X := cxOf (L2.CX P w) P w K mg base ["name", "over"] "Thing.field" (defScope (me 6)) f cdv A outer s H E) rfl rfl rfl rfl
    refine ⟨_, pss_one (ps_ret (pe_make M GI hr (by rfl) T.m bI .nil (E := E) (passes_call tk fun _ _ _ _ h => h) (pa_cons pe_str (pa_cons (pv 0) (pa_cons (pe_tup (pa_cons (pv 1) pa_nil)) pa_nil))))), ?_⟩
    refine ⟨_, rfl, _, rfl, by show 1 ≤ sizeLine; decide, fun t0 nt => ?_⟩
    intro x dx nx ndx _
    have s1 := same_new (o := .tup [u]) nt
    refine make_atX (ds := [e]) (SqT.of upd_same) (dp_same s1 _ _ hd) (.cons (dp_same s1 _ _ he) .nil) hsd (fun d h => by rw [List.mem_singleton.mp h]; exact hse) (by simp) nx ndx (fun z zs e1 e2 h1 h2 H' s th => ?_) fun i u' e' h1 h2 h3 h4 dy H' s hy => ?_
    · obtain ⟨y, rfl⟩ : ∃ y, zs = [y] := by
        have hl : zs.length = 1 := by have := congrArg List.length e2; simpa using this.symm
        match zs, hl with
        | [y], _ => exact ⟨y, rfl⟩
      have e3 : e = .str y := by simpa using e2
      exact kk z y e1 e3 h1 (h2 y List.mem_cons_self) x H' (s1.trans s) th
    · match i, h1, h2, h4 with
      | 0, h1, h2, _ =>
        obtain rfl := Option.some.inj h1
        obtain rfl := Option.some.inj h2
        exact kx h3 dy H' (s1.trans s) hy
      | 1, h1, h2, h4 =>
        obtain rfl := Option.some.inj h1
        obtain rfl := Option.some.inj h2
        exact ky (h4 0 d (by decide) rfl) h3 dy H' (s1.trans s) hy
      | i + 2, h1, h2, _ => simp at h2
end
/-! ### a try with any clauses, named or not, in turn -/
section
open PySem.Spec PyProof.Rows
/-- an exception at rest in the frame of X, ahead of the clauses -/
structure Rests (X : Cx) (pins : List (Addr × Obj)) (a : Addr) (B : Heap) (sI t : Shared) (σ : L2.St) (H : Hp) (cls : Value) (d : Option Addr) : Prop where
  inv : Inv X pins σ H sI
  nb : ∀ b o, sI.heap.get? b = some o → b ∉ frs X.stack → B.get? b = some o
  up : sI.heap.UpToSlots t.heap
  fl : HandSPX.FlyingZ B (X.env :: X.outer) a (Zc cls d) t.heap
  na : H a = none
  os : t.os = sI.os
  ag : AllBare t.gens
/-- what a row of clauses wishes of an exception, by how the try ends -/
def Clauses (X : Cx) (hds : List ExceptHandler) (W : Ends → WX) : Prop :=
  ∀ pins a B sI t σ H cls d D, Rests X pins a B sI t σ H cls d → W D cls d σ H → wpAny (model X.prog X.w) X.A (handleBy (.ref a) X.env hds) (SP X pins D) X.xe t
section
variable {X : Cx} {Wout : WX} {Wl : Ends → WX} {hds : List ExceptHandler} {x n : Str} {c : Value} {i : Nat} {body suite : List Stmt} {b₀ : Stmt} {np pos pos' : Pos} {tb : WX → TS} {ts : Addr → Value → Option Addr → TS}
namespace Rests
variable {pins : List (Addr × Obj)} {a : Addr} {B : Heap} {sI t : Shared} {σ : L2.St} {H : Hp} {cls : Value} {d : Option Addr}
theorem here (r : Rests X pins a B sI t σ H cls d) : Inv X pins σ H t := r.inv.landed r.nb r.fl.1 r.up r.os r.ag
theorem obj (r : Rests X pins a B sI t σ H cls d) : ∃ oe vs, t.heap.get? a = some oe ∧ Zc cls d oe ∧ oe.data = .fields vs := r.fl.there
theorem off (hf : X.env.frame = some X.env.locals) (r : Rests X pins a B sI t σ H cls d) : a ≠ X.env.locals ∧ a ∉ X.fs := by
  obtain ⟨oe, vs, he, _, hd⟩ := r.obj
  have nfr : a ∉ frs (X.env :: X.outer) := fun hm => by
    obtain ⟨_, o', e', hnf⟩ := r.fl.2.2.1.mem hm
    rw [he] at e'; cases e'
    exact hnf _ hd
  refine ⟨fun z => nfr (List.mem_filterMap.mpr ⟨X.env, List.mem_cons_self, by rw [hf, z]⟩), fun hm => ?_⟩
  obtain ⟨e, he', q⟩ := List.mem_filterMap.mp hm
  exact nfr (List.mem_filterMap.mpr ⟨e, List.mem_cons_of_mem _ he', q⟩)
end Rests
theorem cl_nil (hs : X.stack = X.env :: X.outer) (hf : X.env.frame = some X.env.locals) (tk : Takes X Wout) : Clauses X [] (fun _ => Wout) := by
  intro pins a B sI t σ H cls d D r w
  refine wpAny_handleBy_nil ?_
  obtain ⟨k1, k2, k3, oe, vs, T, oT, ts', he, hz, hd, h1, hr⟩ := id r.fl
  unfold PySem.passOn
  refine wpAny_bind (wpAny_field he hd h1 ?_)
  rw [if_neg (show ¬ ((Value.ref T == Value.none) = true) from by simp)]
  have fin : wpAny (model X.prog X.w) X.A (setFlight (.ref a) X.env.frame) (fun _ s4 => wpAny (model X.prog X.w) X.A (throw (.ref a) : Sem Flow) (SP X pins D) X.xe s4) X.xe t := by
    rw [hf]
    exact HandSPX.setFlight_upZ r.fl fun h4 hh4 up4 => wpAny_throw (tk _ _ ⟨a, B, sI, pins, σ, H, cls, d, rfl, r.inv, r.nb, r.up.trans up4, .inr (.inr (by rw [hs]; exact hh4)), r.na, r.os, r.ag, w⟩)
  first
    | exact wpAny_bind (wpAny_pure (wpAny_bind fin))
    | exact wpAny_bind fin
theorem cl_as (hf : X.env.frame = some X.env.locals) (hN : X.N.Nodup) (hi : X.N[i]? = some n) (hln : X.env.kindOf n = some .local) (hc : Names X x c)
    (hsu : ∀ (a : Addr) (oe : Obj) (cls : Value) (d : Option Addr) (pn : List (Addr × Obj)), Zc cls d oe → (∃ vs, oe.data = .fields vs) → PSs (X.suite a ((a, oe) :: pn)) (b₀ :: suite) (ts a cls d))
    (hk : Clauses X hds Wl) : Clauses X (.ExceptHandler (some (.Name x np)) (some n) (b₀ :: suite) pos' :: hds) (fun D => wAs X.K c i ts (Wl D) D) := by
  intro pins a B sI t σ H cls d D r w
  obtain ⟨b, hb1, hyes, hno⟩ := w
  obtain ⟨nL, nF⟩ := r.off hf
  obtain ⟨oe3, vs3, he3, hz3, hd3⟩ := r.obj
  have J3 := r.here
  have ok := J3.ok
  have S3 := J3.suite he3 hd3 r.na nL nF
  refine wpAny_handleBy_cons (codeAny_handlers_test ?_) (by intro q; cases q)
  have LT : PySem.W.Looks (model X.prog X.w) t.heap (typeOf (.ref a)) cls := fun A Q E s k q => wpAny_typeOf_ref (k _ _ he3) (by rw [hz3.1]; exact q)
  have LM := PySem.W.exm_one (M := model X.prog X.w) J3.kIn LT hb1
  have test : ∀ {Q : Value → Shared → Prop} {E : Value → Shared → Prop}, Q c t → wpAny (model X.prog X.w) (X.A.mark (some (.ref a))) (eval (.Name x np) X.env) Q E t := fun {Q E} q => by
    obtain ⟨hg, hdbg, hm | ⟨hm, hv, hnn⟩⟩ := hc
    · exact ld_glob (X := X.suite a ((a, oe3) :: (X.pn ++ pins))) S3 hg hm q hdbg
    · exact ld_blt (X := X.suite a ((a, oe3) :: (X.pn ++ pins))) S3 hg hm hv q hnn hdbg
  refine test (LM.here ?_)
  cases b with
  | true =>
    refine codeAny_handlers_suite_as ?_
    refine HandSPX.lands_againZ r.fl fun h4 fl4 up4 => ?_
    have r4 : Rests X pins a B sI { t with heap := h4 } σ H cls d := ⟨r.inv, r.nb, r.up.trans up4, fl4, r.na, r.os, r.ag⟩
    obtain ⟨oe4, vs4, he4, hz4, hd4⟩ := r4.obj
    have S4 := r4.here.suite he4 hd4 r.na nL nF
    refine store_ok (X := X.suite a ((a, oe4) :: (X.pn ++ pins))) (v := .ref a) S4 hN hi (.inl hln) rfl (fun s5 S5 => ?_) (.inr hln)
    refine wpAny_mono ((hsu a oe4 cls d (X.pn ++ pins) hz4 ⟨_, hd4⟩).run [] s5 _ H _ S5 (hyes rfl a r.na)) (fun f s6 hsp => ?_) (fun _ _ z => False.elim z)
    cases f with
    | next =>
      obtain ⟨σ6, H6, S6, q6⟩ := hsp
      exact gone_ok (S6.unsuite ok) hN hi hln fun s7 J7 => ⟨_, _, J7, q6⟩
    | brk =>
      obtain ⟨σ6, H6, S6, q6⟩ := hsp
      exact gone_ok (S6.unsuite ok) hN hi hln fun s7 J7 => ⟨_, _, J7, q6⟩
    | cont =>
      obtain ⟨σ6, H6, S6, q6⟩ := hsp
      exact gone_ok (S6.unsuite ok) hN hi hln fun s7 J7 => ⟨_, _, J7, q6⟩
    | ret u =>
      obtain ⟨v6, σ6, H6, S6, r6, q6⟩ := hsp
      exact gone_ok (S6.unsuite ok) hN hi hln fun s7 J7 => ⟨_, _, _, J7, r6, q6⟩
  | false => exact hk pins a B sI t σ H cls d D r (hno rfl)
theorem ps_try_cl {h₀ : ExceptHandler} (hs : X.stack = X.env :: X.outer) (hf : X.env.frame = some X.env.locals)
    (hb : ∀ (W : WX) (pn : List (Addr × Obj)) (xe : Value → Shared → Prop), Takes (X.tr pn xe) W → PassesOwn (model X.prog X.w) X.A X.env xe → PSs (X.tr pn xe) body (tb W))
    (hk : Clauses X (h₀ :: hds) Wl) : PS X (.Try body (h₀ :: hds) [] [] pos) (fun D σ H => tb (Wl D) D σ H) := by
  refine ⟨fun pins s σ H D I h => ?_⟩
  have ok := I.ok
  have hfr : X.A.frames = some (X.env :: X.outer) := by rw [ok.frames, hs]
  refine wpAny_Try_except ?_
  refine wpAny_mono ((hb (Wl D) (X.pn ++ pins) (fun e s₁ => wpAny (model X.prog X.w) X.A (noteFrame e X.env) (fun _ s₂ => wpAny (model X.prog X.w) X.A (setFlight e none) (fun _ s₃ =>
    wpAny (model X.prog X.w) X.A (handleBy e X.env (h₀ :: hds)) (SP X pins D) X.xe s₃) X.xe s₂) X.xe s₁) (fun u s' xx => ?_) PassesOwn.looking).run [] s σ H D (I.toTry _) h) (fun f s1 hsp => ?_) (fun e s1 he => he)
  · obtain ⟨a, B, sI, pins', σ', H', cls, d, rfl, J', nb, up, sky, na, os, ag, w⟩ := xx
    have sky' : Sky B (X.env :: X.outer) a (Zc cls d) X.env.locals s'.heap := by rw [← hs]; exact sky
    show wpAny (model X.prog X.w) X.A (noteFrame (.ref a) X.env) _ _ _
    exact Sky.land Zc.steady hfr hf sky' fun h3 fl3 up3 => hk pins a B sI { s' with heap := h3 } σ' H' cls d D ⟨J'.ofTry ok, nb, up.trans up3, fl3, na, os, ag⟩ w
  · cases f with
    | next =>
      obtain ⟨σ', H', J', q⟩ := hsp
      exact wpAny_execs_nil ⟨σ', H', J'.ofTry ok, q⟩
    | brk =>
      obtain ⟨σ', H', J', q⟩ := hsp
      exact ⟨σ', H', J'.ofTry ok, q⟩
    | cont =>
      obtain ⟨σ', H', J', q⟩ := hsp
      exact ⟨σ', H', J'.ofTry ok, q⟩
    | ret u =>
      obtain ⟨v, σ', H', J', r, q⟩ := hsp
      exact ⟨v, σ', H', J'.ofTry ok, r, q⟩
end
end
/-! ### Twice raised -/
/-- check_unlike(t), words that may be alike -/
def spUnlikeX (K : PySem.W.Frag) (TW : Addr) : Sp := fun vs H Q E => ∃ (t : Addr) (xs : List Str), vs = [.ref t] ∧ SqT K H t (xs.map V.str) ∧ (∀ x ∈ xs, IsWord x) ∧ xs.length ≤ 1000 ∧ (xs.Nodup → ∀ H', Same H H' → Q .non H') ∧
  ∀ (i : Nat) (u : Str), xs[i]? = some u → u ∈ xs.take i → (xs.take i).Nodup → ∀ H', Same H H' → Rais "name" TW (.str u) H' E
theorem sm_word {u : Str} (h : IsWord u) : sm 3 (.str u) := by
  simp only [sm]
  refine ⟨?_, fun c hc => ?_⟩
  · have := h.2.1; omega
  · have := (h.2.2 c hc).2; omega
theorem inV_iff {u : Str} {l : List Str} : inV (.str u) (l.map V.str) = true ↔ u ∈ l := by
  unfold inV
  rw [List.any_eq_true]
  constructor
  · rintro ⟨v, hv, q⟩
    obtain ⟨w, hw, rfl⟩ := List.mem_map.mp hv
    have q' : w = u := beq_iff_eq.mp q
    exact q' ▸ hw
  · intro h
    exact ⟨.str u, List.mem_map.mpr ⟨u, h, rfl⟩, beq_iff_eq.mpr rfl⟩
section
variable {P : Program} {w : World} {K : PySem.W.Frag} {mg : Str → Option Value} {base : Heap}
theorem ok_unlikeX {f TW fB cB : Addr} {fd fdB : FuncData} (F : Fun K "check_unlike" "check_unlike" sUnlike f fd) (me : mg "enumerate" = none)
    (R : RaisC P K mg "Twice" "name" TW fB cB fdB) : FnOk P w K mg base (L2.CX P w) 3 f fd ["names"] (spUnlikeX K TW) := by
  refine F.okX scCU (fun vs H Q E h => ?_) (fun cdv A outer s H vs Q E hr h => ?_)
  · obtain ⟨t, xs, rfl, _⟩ := h
    rfl
  · obtain ⟨t, xs, rfl, ht, hx1, hl, kk, kx⟩ := h
    have tk := takes_of (X := cxOf (L2.CX P w) P w K mg base ["names", "at", "name"] "check_unlike" (defScope sUnlike) f cdv A outer s H E) rfl rfl rfl rfl
    refine ⟨_, pss_one (ps_for (passes_of rfl) rfl (pi_enumT (by rfl) me (pa_cons (pv 0) pa_nil)) (pg_tup rfl (pgs_cons (pg_name (i := 1) scCU.nd rfl (.inl rfl)) (pgs_cons (pg_name (i := 2) scCU.nd rfl (.inl rfl)) pgs_nil)))
      (pss_one (ps_if (pt_cmpR op_in_seq (pv 2) (pe_slice sl_tup (pv 0) po_none (po_some (pv 1))) (by rfl))
        (pss_one (ps_raise rfl tk (pmk_oex R.T.o R.T.iC R.T.tI (ok_err (base := base) (w := w) R.nx R.T) hr R.b .nil pass0 (by rfl) R.T.gC (pa_cons (pv 2) pa_nil)))) pss_nil))), ?_⟩
    refine ⟨_, rfl, t, _, rfl, ht, for_enumT (K := K) (a := t) (xs := xs.map V.str) (fun i σ H2 => ∃ y z, σ = [some (.ref t), y, z] ∧ Same H H2 ∧ (xs.take i).Nodup) ⟨none, none, rfl, Same.refl _, by simp⟩ (fun i σ H2 _ ⟨_, _, _, e, _⟩ => Same.seqT e ht) ?_ ?_⟩
    · rintro i x T σ H2 hx nT ⟨y, z, rfl, s2, hnd⟩
      rw [List.getElem?_map] at hx
      obtain ⟨u, hu, rfl⟩ := Option.map_eq_some_iff.mp hx
      have hi : i < xs.length := (List.getElem?_eq_some_iff.mp hu).1
      have s3 := s2.trans (same_new (o := .tup [.int (i : Nat), .str u]) nT)
      have ht3 := Same.seqT s3 ht
      refine ⟨T, [.int (i : Nat), .str u], rfl, SqT.of upd_same, rfl, .int (i : Nat), [.str u], rfl, .str u, [], rfl, rfl, ?_⟩
      refine ⟨_, rfl, _, rfl, _, rfl, i, rfl, t, _, rfl, ht3, ?_, fun p np => ?_⟩
      · rintro ⟨_, h2⟩
        rw [HT.sIx_nat, List.length_map] at h2
        omega
      · rw [cut_take]
        have s4 := s3.trans (same_new (o := .tup ((xs.map V.str).take i)) np)
        refine ⟨p, _, rfl, .inr (SqT.of upd_same), rfl, ?_, _, rfl, ?_⟩
        · rw [List.all_eq_true]
          intro v hv
          obtain ⟨w', _, rfl⟩ := List.mem_map.mp (List.mem_of_mem_take hv)
          rfl
        · rw [← List.map_take]
          rw [← List.map_take] at s4
          cases hb : inV (.str u) ((xs.take i).map V.str) with
          | false =>
            refine iteF ⟨_, _, rfl, s4, ?_⟩
            have hnm : u ∉ xs.take i := fun h => by rw [inV_iff.mpr h] at hb; cases hb
            rw [List.take_succ, hu]
            show (xs.take i ++ [u]).Nodup
            rw [List.nodup_append]
            refine ⟨hnd, by simp, fun a ha b hb e => ?_⟩
            rw [List.mem_singleton] at hb
            subst hb; subst e
            exact hnm ha
          | true =>
            refine iteT ⟨_, rfl, ?_⟩
            exact rais_in (d := .str u) (.str _) (sm_word (hx1 u (List.mem_of_getElem? hu))) (kx i u hu (inV_iff.mp hb) hnd _ s4)
    · rintro σ H2 ⟨y, z, rfl, s2, hnd⟩
      refine kk ?_ H2 s2
      rw [List.length_map, List.take_length] at hnd
      exact hnd
end
/-! ### Thing.table with what it refuses -/
theorem Rais.later {f : Str} {C : Addr} {v : V} {H H' : Hp} {E : XK} (r : Rais f C v H E) (s : Same H H') : Rais f C v H' E := fun dx H2 s2 hx => r dx H2 (s.trans s2) hx
def spTableX (K : PySem.W.Frag) (C BN TW TM : Addr) : Sp := fun vs H Q E => ∃ (v : V) (d : PyData) (xs : List V) (ds : List PyData), vs = v :: xs ∧ Dp K H v d ∧ DpAll K H xs ds ∧ sm 3 d ∧ (∀ d ∈ ds, sm 3 d) ∧ ds.length ≤ 900 ∧
  (∀ (z : Str) (zs : List Str), d = .str z → ds = zs.map .str → IsWord z → (∀ x ∈ zs, IsWord x) →
    (zs.Nodup → zs.length ≤ 4 → ∀ a H', Same H H' → ThingAt K H' C a "table" z zs → Q (.ref a) H') ∧
    (∀ (i : Nat) (u : Str), zs[i]? = some u → u ∈ zs.take i → (zs.take i).Nodup → Rais "name" TW (.str u) H E) ∧
    (zs.Nodup → 4 < zs.length → Rais "limit" TM (.int 4) H E)) ∧
  ∀ (i : Nat) (u : V) (e : PyData), (v :: xs)[i]? = some u → (d :: ds)[i]? = some e → nmD e = false → (∀ (j : Nat) (d' : PyData), j < i → (d :: ds)[j]? = some d' → nmD d' = true) → Rais "name" BN u H E
section
variable {P : Program} {w : World} {K : PySem.W.Frag} {mg : Str → Option Value} {base : Heap}
theorem scTbX : FnScope ["name", "keys", "made"] ([("name" : Str)] ++ [("keys" : Str)]) (defScope (me 4)) := ⟨rfl, rfl, rfl, by decide +kernel, rfl, by decide +kernel, by decide +kernel⟩
theorem ok_tableX {f fI fU C BN TW TM fB cB : Addr} {fd fdI fdU fdB : FuncData} {tk : Tok} (T : ThIn K mg C) (M : Mk K C fI) (F : Fun K "table" "Thing.table" (me 4) f fd) (GI : FnOk P w K mg base (L2.CX P w) 4 fI fdI ["self", "kind", "name", "parts"] (spInitX K C BN)) (bI : Binds K fdI ["self", "kind", "name", "parts"] [])
    (GU : FnOk P w K mg base (L2.CX P w) 3 fU fdU ["names"] (spUnlikeX K TW)) (mU : mg "check_unlike" = some (.ref fU)) (kU : PySem.W.keepIn K (.ref fU) = true) (bU : Binds K fdU ["names"] []) (mlen : mg "len" = none) (mM : mg "MOST_KEYS" = some (.int 4 tk))
    (R : RaisC P K mg "TooMany" "limit" TM fB cB fdB) : FnR P w K mg base (L2.CX P w) 6 f (spTableX K C BN TW TM) := by
  obtain ⟨oc, od, kV, doc, pm, an, cdv, ct, osl, rfl, lk, hcd⟩ := F.ex
  have G := StX.fn_star (CX := L2.CX P w) (P := P) (w := w) (mg := mg) (base := base) (k := 5) (ps := ["name"]) (pv := "keys") (N := ["name", "keys", "made"])
    (sp := fun vs H Q E => ∃ (v : V) (d : PyData) (t : Addr) (xs : List V) (ds : List PyData), vs = [v, .ref t] ∧ SqT K H t xs ∧ spTableX K C BN TW TM (v :: xs) H Q E ∧ Dp K H v d ∧ DpAll K H xs ds)
    lk hcd scTbX StX.cxUp (StX.bind_star1 (B := fun us => bindArgs (PySem.W.fnOf "table" "Thing.table" (defArgs (me 4)) (defBody (me 4)) (defScope (me 4)) .none kV doc pm an cdv ct) ⟨us, []⟩) (p1 := "name") (pv := "keys") (fun a => rfl) (fun a r rs => rfl)) (fun A outer s H vs Q E hr h => ?_)
  · intro A outer s H us vs Q E hr e0 rv hsp
    obtain ⟨v, d, xs, ds, rfl, hv, hds, hsd, hsm, hl, kk, kx⟩ := hsp
    refine G A outer s H us _ Q E hr e0 rv ⟨[v], xs, rfl, rfl, by rw [← dpAll_len hds] at hl; exact len1000 (by omega), fun p np => ?_⟩
    have s1 := same_new (o := .tup xs) np
    refine ⟨v, d, p, xs, ds, rfl, SqT.of upd_same, ⟨v, d, xs, ds, rfl, dp_same s1 _ _ hv, dpAll_same s1 _ _ hds, hsd, hsm, hl, fun z zs e1 e2 h1 h2 => ?_, fun i u e h1 h2 h3 h4 => (kx i u e h1 h2 h3 h4).later s1⟩, dp_same s1 _ _ hv, dpAll_same s1 _ _ hds⟩
    obtain ⟨q1, q2, q3⟩ := kk z zs e1 e2 h1 h2
    exact ⟨fun a b x H' s th => q1 a b x H' (s1.trans s) th, fun i u a b c => (q2 i u a b c).later s1, fun a b => (q3 a b).later s1⟩
  · obtain ⟨v, d0, t, xs, ds0, rfl, ht, ⟨v', d, xs', ds, e0, hv, hds, hsd, hsm, hl, kk, kx⟩, _, _⟩ := h
    obtain ⟨rfl, rfl⟩ := List.cons.inj e0
    have hr3 : Room 3 _ := hr.mono (by decide)
    have hr2 : Room 2 _ := hr.mono (by decide)
    have tk := takes_of (X := cxOf (L2.CX P w) P w K mg base ["name", "keys", "made"] "Thing.table" (defScope (me 4)) f cdv A outer s H E) rfl rfl rfl rfl
    refine ⟨_, pss_cons (ps_set (i := 2) scTbX.nd rfl (.inl rfl) (pe_make M GI hr (by rfl) T.m bI .nil (E := E) (passes_call tk fun _ _ _ _ h => h) (pa_cons pe_str (pa_cons (pv 0) (pa_cons (pv 1) pa_nil)))))
      (pss_cons (ps_expr (pe_call GU hr3 (by rfl) mU kU bU .nil (E := E) (passes_call tk fun _ _ _ _ h => h) (pa_cons (pv 1) pa_nil)))
      (pss_cons (ps_if (pt_cmpR op_gt (pe_callB call_len_seq (by rfl) mlen PySem.boot_len (pa_cons (pv 1) pa_nil)) (pe_glob (v := .int 4) rfl mM ⟨_, rfl⟩) (by rfl))
        (pss_one (ps_raise rfl tk (pmk_oex R.T.o R.T.iC R.T.tI (ok_err (base := base) (w := w) R.nx R.T) hr2 R.b .nil pass0 (by rfl) R.T.gC (pa_cons (pe_glob (v := .int 4) rfl mM ⟨_, rfl⟩) pa_nil)))) pss_nil)
      (pss_one (ps_ret (pv 2))))), ?_⟩
    refine ⟨_, rfl, _, rfl, ?_⟩
    intro a dx nx ndx _
    refine make_atX (ds := ds) ht hv hds hsd hsm hl nx ndx (fun z zs e1 e2 h1 h2 H' s th => ?_) fun i u e h1 h2 h3 h4 => kx i u e h1 h2 h3 h4
    obtain ⟨q1, q2, q3⟩ := kk z zs e1 e2 h1 h2
    subst e2
    obtain rfl := dp_strs hds
    rw [List.length_map] at hl
    refine ⟨_, rfl, t, zs, rfl, Same.seqT s ht, h2, by omega, fun hnd H2 s2 => ?_, fun i u a b c H2 s2 => (q2 i u a b c).later (s.trans s2)⟩
    refine ⟨_, rfl, t, _, rfl, .inr (Same.seqT (s.trans s2) ht), _, _, rfl, rfl, _, rfl, ?_⟩
    by_cases h4 : zs.length ≤ 4
    · rw [decide_eq_false (by rw [List.length_map]; omega)]
      exact iteF ⟨_, rfl, q1 hnd h4 a H2 (s.trans s2) (th.same s2)⟩
    · rw [decide_eq_true (by rw [List.length_map]; omega)]
      refine iteT ?_
      exact rais_in (d := .int 4) (.int _) (by simp [sm]) ((q3 hnd (by omega)).later (s.trans s2))
end
/-! ### a static method that may raise, called in a try -/
def tSMethS (C : Addr) (sp : Sp) (E : St → XK) (ta : TE) (t : TA) : TE := fun σ H Q => ta σ H fun x H1 => x = .ref C ∧ t σ H1 fun vs H2 => sp vs H2 Q (E σ)
section
variable {X : Cx} {CX : CXT} {k : Nat} {C p g : Addr} {sp : Sp} {E : St → XK} {o e : Expr} {es : List Expr} {m : Str} {pos apos : Pos} {ta : TE} {t : TA} {pl : Sem Bool}
theorem run_fnRS {pins : List (Addr × Obj)} {σ : L2.St} {H : Hp} {s : Shared} {E : XK} {Q : VK} {us : List Value} {vs : List V} (F : FnR X.prog X.w X.K X.mg X.base CX k g sp) (hr : Room k X.A) (hx : PassesAt CX X σ E) (I : Inv X pins σ H s) (r : Vals vs us) (h : sp vs H Q E) :
    codeAny (model X.prog X.w) X.A (.call (.ref g) ⟨us, []⟩) (fun r s' => match r with | .ok (.ret v) => EP X pins σ Q v s' | .ok _ => False | .error e => X.xe e s') s := by
  refine codeAny_mono (F X.A X.stack s H us vs Q E hr I.env0 r h) fun r s' hq => ?_
  cases r with
  | error e => exact hx pins H s e s' I hq
  | ok fl =>
    cases fl with
    | ret u => exact I.after hq
    | next => exact False.elim hq
    | brk => exact False.elim hq
    | cont => exact False.elim hq
theorem pe_smethS (he : PE X o ta) (r : ClX.CRead X.K C (.type "type")) (c : SMet X.K C m p g) (F : FnR X.prog X.w X.K X.mg X.base CX k g sp) (hr : Room k X.A) (hx : ∀ σ, PassesAt CX X σ (E σ)) (ha : PA X (e :: es) t)
    (hst : starEach (e :: es) X.env = (false, eval e X.env) :: starEach es X.env := by rfl) (hpl : (backTo pos (starEach es X.env)).any (·.1) = false := by rfl)
    (ht : eval (.Call (.Attribute o m apos) (e :: es) [] pos) X.env = (do
      let ov ← eval o X.env
      standAt apos.atName
      let (f, first) ← holding [ov] (getMethod ov m pl)
      callWith pos f first (backTo pos (starEach (e :: es) X.env)) (backToKw pos (keywordEach [] X.env))) := by rfl) :
    PE X (.Call (.Attribute o m apos) (e :: es) [] pos) (tSMethS C sp E ta t) := by
  refine ⟨fun pins s σ H Q I h => ?_⟩
  refine PySem.W.methodCall_KW (pl := pl) (thn (he.run pins s σ H _ I h) fun u s1 ⟨x, H1, I1, rx, ex, q⟩ => ?_) ht
  subst ex
  obtain rfl : u = Value.ref C := rx
  obtain ⟨rest, hp⟩ := c.rc
  refine PySem.W.method_cls I1.kIn r.ga (PySem.W.cls_bind I1.kIn r.rd c.at_ (wpAny_call (PySem.W.sm_get I1.kIn hp (PySem.W.handed_on rfl ?_))))
  refine PySem.W.callWith_K (h₀ := X.base) (first := []) I.ok.mod.kin c.kp (thn (ha.run pos pins _ σ H1 _ (I1.tok _) q) fun us s2 ⟨vs, H2, I2, rv, q2⟩ => ⟨I2.kIn, ?_⟩) hst hpl
  exact wpAny_call (run_fnRS F hr (hx σ) I2 rv q2)
end
theorem takes_no {X : Cx} : Takes X (fun _ _ _ _ => False) := fun _ _ ⟨_, _, _, _, _, _, _, _, _, _, _, _, _, _, _, _, w⟩ => w.elim
/-! ### the law's own look at names -/
theorem abc_mem (c : Nat) : c ∈ abc.cps.toList ↔ 97 ≤ c ∧ c ≤ 122 := by
  have e : abc.cps.toList = (List.range 26).map (· + 97) := by decide +kernel
  rw [e, List.mem_map]
  constructor
  · rintro ⟨k, hk, rfl⟩
    have := List.mem_range.mp hk
    omega
  · rintro ⟨h1, h2⟩
    exact ⟨c - 97, List.mem_range.mpr (by omega), by omega⟩
/-- the letters that are none -/
def oddL (l : List Nat) : List Nat := l.filter fun c => !decide (c ∈ abc.cps.toList)
theorem oddL_nil {z : Str} (h1 : 1 ≤ z.length) (h2 : z.length ≤ 8) : (oddL z.cps.toList = []) ↔ nmS z = true := by
  unfold oddL
  rw [List.filter_eq_nil_iff]
  constructor
  · intro h
    refine IsWord.nm ⟨h1, h2, fun c hc => ?_⟩
    have := h c hc
    simp only [Bool.not_eq_true', decide_eq_false_iff_not, Decidable.not_not] at this
    exact (abc_mem c).mp this
  · intro h c hc
    have := (word_of_nm h).2.2 c hc
    simp only [Bool.not_eq_true', decide_eq_false_iff_not, Decidable.not_not]
    exact (abc_mem c).mpr this
abbrev chD (c : Nat) : PyData := .str ⟨#[c]⟩
abbrev chV (c : Nat) : V := .str ⟨#[c]⟩
theorem ch_dp {K : PySem.W.Frag} {H : Hp} : ∀ l : List Nat, DpAll K H (l.map chV) (l.map chD)
  | [] => .nil
  | _ :: r => .cons (.str _) (ch_dp r)
theorem ch_shaped {l : List Nat} (h : ∀ c ∈ l, c < 1000) : SeqAt.shaped (.list (l.map chD)) = true := by
  have h1 : PyData.canLayAll0 (l.map chD) = true := by
    induction l with
    | nil => rfl
    | cons x r ih =>
      simp only [List.map_cons, PyData.canLayAll0, PyData.canLay0, Bool.and_eq_true]
      refine ⟨?_, ih fun y hy => h y (List.mem_cons_of_mem _ hy)⟩
      unfold PyData.strOk
      rw [Array.all_eq_true_iff_forall_mem]
      intro c hc
      have : c = x := by simpa using hc
      have := h x List.mem_cons_self
      exact decide_eq_true (by omega)
  have h2 : PyData.depthAll (l.map chD) ≤ 1 := by
    clear h h1
    induction l with
    | nil => simp [PyData.depthAll]
    | cons x r ih =>
      simp only [List.map_cons, PyData.depthAll, PyData.depth]
      omega
  unfold SeqAt.shaped
  simp only [PyData.canLay0, h1, PyData.depth, Bool.true_and]
  exact decide_eq_true (by omega)
theorem ch_eqv (l : List Nat) : PyData.eqv (.list (l.map chD)) (.list []) = decide (l = []) := by
  cases l <;> simp [PyData.eqv, PyData.eqvAll]
def spLin (K : PySem.W.Frag) : Sp := fun vs H Q _ => ∃ (v : V) (d : PyData), vs = [v] ∧ Dp K H v d ∧ sm 3 d ∧ ∀ H', Same H H' → Q (.bl (nmD d)) H'
section
variable {P : Program} {w : World} {K : PySem.W.Frag} {mg : Str → Option Value} {base : Heap}
theorem scLN : FnScope ["value", "letter"] ["value"] (defScope sLIN) := ⟨rfl, rfl, rfl, by decide +kernel, rfl, by decide +kernel, by decide +kernel⟩
theorem ok_lin {f : Addr} {fd : FuncData} {k : Nat} (F : Fun K "_law_is_name" "_law_is_name" sLIN f fd) (B : Bts mg) : FnOk P w K mg base CX0 (k + 1) f fd ["value"] (spLin K) := by
  refine F.ok scLN (fun vs H Q E h => ?_) (fun cdv A outer s H vs Q E hr h => ?_)
  · obtain ⟨v, d, rfl, _⟩ := h
    rfl
  · obtain ⟨v, d, rfl, hv, hsm, kk⟩ := h
    refine ⟨_, pss_cons (ps_if (PW.pt (pw_or (pt_not (pt_val (pe_callB call_isi (by rfl) B.isinstance (by decide +kernel) (pa_cons (pv 0) (pa_cons (pe_bltn (v := .ty "str") (by rfl) B.str (by decide +kernel) rfl) pa_nil)))))
          (pw_or (pt_cmpR op_lt (pe_callB call_len_str (by rfl) B.len PySem.boot_len (pa_cons (pv 0) pa_nil)) pe_int (nomark _))
          (pw_or1 (pt_cmpR op_gt (pe_callB call_len_str (by rfl) B.len PySem.boot_len (pa_cons (pv 0) pa_nil)) pe_int (nomark _))))))
        (pss_one (ps_ret pe_bl)) pss_nil)
      (pss_one (ps_ret (pe_cmpR (op_eqD hr.units) (pe_lc (own := [("letter", 1)]) (g := gName 1) rfl scLN.nd (pi_str (pv 0)) (blkOk_by (N := ["value", "letter"]) (sc := defScope sLIN) (by decide +kernel))
        (fun _ _ _ _ _ => pg_name (i := 1) scLN.nd rfl (.inl rfl)) (fun _ _ _ _ _ => pts_one (pt_cmpR op_notInS (pv 1) pe_str (by rfl))) (fun _ _ _ _ _ => pv 1)) (pe_lst pa_nil) (by rfl)))), ?_⟩
    by_cases hs : ∃ z, d = .str z
    · obtain ⟨z, rfl⟩ := hs
      have hl := sm_len hsm z rfl
      have hc : ∀ c ∈ z.cps.toList, c < 1000 := by simp only [sm] at hsm; exact hsm.2
      cases hv
      refine ⟨_, rfl, _, _, _, _, true, rfl, .ty _, TyX.base (TyOf.str z), kit_ty (by decide +kernel), _, rfl, iteF ?_⟩
      refine ⟨_, rfl, z, rfl, len1000 hl, _, _, rfl, rfl, _, rfl, ite2 (fun h => ?_) (fun h => ?_)⟩
      · have h0 : z.length = 0 := by have := of_decide_eq_true h; omega
        have e : nmS z = false := by
          cases hh : nmS z with
          | false => rfl
          | true => have := (word_of_nm hh).1; omega
        have kk := kk H (Same.refl H)
        rw [show nmD (.str z) = false from e] at kk
        exact iteT kk
      · have h1 : 1 ≤ z.length := by
          have : ¬ ((z.length : Int) < 1) := fun q => h (decide_eq_true q)
          omega
        refine ⟨_, rfl, z, rfl, len1000 hl, _, _, rfl, rfl, _, rfl, ite2 (fun h => ?_) (fun h => ?_)⟩
        · have h8 : 8 < z.length := by have := of_decide_eq_true h; omega
          have e : nmS z = false := by
            cases hh : nmS z with
            | false => rfl
            | true => have := (word_of_nm hh).2.1; omega
          have kk := kk H (Same.refl H)
          rw [show nmD (.str z) = false from e] at kk
          exact kk
        · have h8 : z.length ≤ 8 := by
            have : ¬ ((8 : Int) < z.length) := fun q => h (decide_eq_true q)
            omega
          refine ⟨_, rfl, z, rfl, fun D nD => ?_⟩
          refine lc_it (walk_str (z := z)) (fun i H2 => H2 D = some (.lst ((oddL (z.cps.toList.take i)).map chV)) ∧ Same H H2) ⟨upd_same, same_new nD⟩ (fun _ _ _ _ => trivial) (fun i x H2 H3 hi hI hY => ?_) (fun H2 hI => ?_)
          · obtain ⟨eD, s2⟩ := hI
            obtain ⟨rfl, c, ec, rfl⟩ := hY
            have ec' : z.cps.toList[i]? = some c := by rw [Array.getElem?_toList]; exact ec
            have et : z.cps.toList.take (i + 1) = z.cps.toList.take i ++ [c] := by rw [List.take_add_one, ec']; rfl
            refine ⟨rfl, ?_⟩
            refine ⟨_, rfl, c, abc, rfl, rfl, _, rfl, ite2 (fun hin => ?_) (fun hin => ?_)⟩
            · have hin : (!decide (c ∈ abc.cps.toList)) = true := hin
              refine ⟨_, rfl, _, eD, small1000 ?_, ?_, fun b o e => ?_⟩
              · rw [List.length_map]
                have h1 : (oddL (z.cps.toList.take i)).length ≤ (z.cps.toList.take i).length := List.length_filter_le _ _
                have h2 : (z.cps.toList.take i).length ≤ 8 := by
                  rw [List.length_take]
                  have : z.cps.toList.length = z.length := by simp [Str.length]
                  omega
                omega
              · rw [upd_same, et]
                unfold oddL
                rw [List.filter_append, List.filter_cons, if_pos hin, List.filter_nil, List.map_append]
                rfl
              · rw [upd_ne (ne_of_none e nD)]; exact s2 b o e
            · have hin : ¬ (!decide (c ∈ abc.cps.toList)) = true := hin
              refine ⟨?_, s2⟩
              rw [eD, et]
              unfold oddL
              rw [List.filter_append, List.filter_cons, if_neg hin, List.filter_nil, List.append_nil]
          · obtain ⟨eD, s2⟩ := hI
            have ea : z.cps.toList.take z.cps.size = z.cps.toList := List.take_of_length_le (by simp)
            rw [ea] at eD
            refine ⟨by show 0 ≤ sizeLine; decide, fun r nr => ?_⟩
            have s3 := s2.trans (same_new (o := .lst []) nr)
            have eD3 := same_new (o := .lst []) nr _ _ eD
            refine ⟨.list ((oddL z.cps.toList).map chD), .list [], .lst (SqL.of eD3) (ch_dp _), .lst (SqL.of upd_same) .nil, ch_shaped fun c hc' => hc c (List.mem_filter.mp hc').1, by decide, ?_⟩
            rw [ch_eqv]
            have e : decide (oddL z.cps.toList = []) = nmS z := by
              rw [Bool.eq_iff_iff, decide_eq_true_eq]
              exact oddL_nil h1 h8
            rw [e]
            exact kk _ s3
    · have e : nmD d = false := by
        cases d with
        | str z => exact absurd ⟨z, rfl⟩ hs
        | _ => rfl
      have kt : kitB (tyName d) "str" = some false := by
        cases d with
        | str z => exact absurd ⟨z, rfl⟩ hs
        | none => exact (by decide +kernel : kitB "NoneType" "str" = some false)
        | bool b => exact (by decide +kernel : kitB "bool" "str" = some false)
        | int i => exact (by decide +kernel : kitB "int" "str" = some false)
        | list l => exact (by decide +kernel : kitB "list" "str" = some false)
        | tuple l => exact (by decide +kernel : kitB "tuple" "str" = some false)
        | dict l => cases hv
      have kk := kk H (Same.refl H)
      rw [e] at kk
      exact ⟨_, rfl, _, _, _, _, false, rfl, .ty _, ty_of hv, kit_ty kt, _, rfl, iteT (iteT kk)⟩

end
/-! ### _law_call -/
def spLCall (K : PySem.W.Frag) (C BN TW TM : Addr) : Sp := fun vs H Q E => ∃ (v : V) (l : Addr) (xs : List V), vs = [v, .ref l] ∧ SqL K H l xs ∧ xs.length ≤ 6 ∧ spTableX K C BN TW TM (v :: xs) H Q E
section
variable {P : Program} {w : World} {K : PySem.W.Frag} {mg : Str → Option Value} {base : Heap}
theorem scLC : FnScope ["name", "keys"] ["name", "keys"] (defScope sCall) := ⟨rfl, rfl, rfl, by decide +kernel, rfl, by decide +kernel, by decide +kernel⟩
theorem ok_lcall {f C BN TW TM p1 g1 : Addr} {fd : FuncData} (T : ThIn K mg C) (s1 : SMet K C "table" p1 g1) (r1 : FnR P w K mg base (L2.CX P w) 6 g1 (spTableX K C BN TW TM)) (F : Fun K "_law_call" "_law_call" sCall f fd) (ml : mg "len" = none) :
    FnOk P w K mg base (L2.CX P w) 7 f fd ["name", "keys"] (spLCall K C BN TW TM) := by
  refine F.okX scLC (fun vs H Q E h => ?_) (fun cdv A outer s H vs Q E hr h => ?_)
  · obtain ⟨v, l, xs, rfl, _⟩ := h
    rfl
  · obtain ⟨v, l, xs, rfl, ht, hl, kk⟩ := h
    have tk := takes_of (X := cxOf (L2.CX P w) P w K mg base ["name", "keys"] "_law_call" (defScope sCall) f cdv A outer s H E) rfl rfl rfl rfl
    have px := passes_call (E := E) tk fun _ _ _ _ h => h
    refine ⟨_, pss_cons (ps_if (pt_cmpR op_eq (pe_callB call_len_seq (by rfl) ml PySem.boot_len (pa_cons (pv 1) pa_nil)) pe_int (nomark _)) (pss_one (ps_ret (pe_smeth (pe_glob (v := .ref C) rfl T.m rfl) T.rd s1 r1 hr px (pa_cons (pv 0) pa_nil)))) pss_nil)
      (pss_cons (ps_if (pt_cmpR op_eq (pe_callB call_len_seq (by rfl) ml PySem.boot_len (pa_cons (pv 1) pa_nil)) pe_int (nomark _)) (pss_one (ps_ret (pe_smeth (pe_glob (v := .ref C) rfl T.m rfl) T.rd s1 r1 hr px (pa_cons (pv 0) (pa_cons (pe_ix ix_list (pv 1) pe_int (fun _ _ => rfl)) pa_nil))))) pss_nil)
      (pss_cons (ps_if (pt_cmpR op_eq (pe_callB call_len_seq (by rfl) ml PySem.boot_len (pa_cons (pv 1) pa_nil)) pe_int (nomark _)) (pss_one (ps_ret (pe_smeth (pe_glob (v := .ref C) rfl T.m rfl) T.rd s1 r1 hr px (pa_cons (pv 0) (pa_cons (pe_ix ix_list (pv 1) pe_int (fun _ _ => rfl)) (pa_cons (pe_ix ix_list (pv 1) pe_int (fun _ _ => rfl)) pa_nil)))))) pss_nil)
      (pss_cons (ps_if (pt_cmpR op_eq (pe_callB call_len_seq (by rfl) ml PySem.boot_len (pa_cons (pv 1) pa_nil)) pe_int (nomark _)) (pss_one (ps_ret (pe_smeth (pe_glob (v := .ref C) rfl T.m rfl) T.rd s1 r1 hr px (pa_cons (pv 0) (pa_cons (pe_ix ix_list (pv 1) pe_int (fun _ _ => rfl)) (pa_cons (pe_ix ix_list (pv 1) pe_int (fun _ _ => rfl)) (pa_cons (pe_ix ix_list (pv 1) pe_int (fun _ _ => rfl)) pa_nil))))))) pss_nil)
      (pss_cons (ps_if (pt_cmpR op_eq (pe_callB call_len_seq (by rfl) ml PySem.boot_len (pa_cons (pv 1) pa_nil)) pe_int (nomark _)) (pss_one (ps_ret (pe_smeth (pe_glob (v := .ref C) rfl T.m rfl) T.rd s1 r1 hr px (pa_cons (pv 0) (pa_cons (pe_ix ix_list (pv 1) pe_int (fun _ _ => rfl)) (pa_cons (pe_ix ix_list (pv 1) pe_int (fun _ _ => rfl)) (pa_cons (pe_ix ix_list (pv 1) pe_int (fun _ _ => rfl)) (pa_cons (pe_ix ix_list (pv 1) pe_int (fun _ _ => rfl)) pa_nil)))))))) pss_nil)
      (pss_cons (ps_if (pt_cmpR op_eq (pe_callB call_len_seq (by rfl) ml PySem.boot_len (pa_cons (pv 1) pa_nil)) pe_int (nomark _)) (pss_one (ps_ret (pe_smeth (pe_glob (v := .ref C) rfl T.m rfl) T.rd s1 r1 hr px (pa_cons (pv 0) (pa_cons (pe_ix ix_list (pv 1) pe_int (fun _ _ => rfl)) (pa_cons (pe_ix ix_list (pv 1) pe_int (fun _ _ => rfl)) (pa_cons (pe_ix ix_list (pv 1) pe_int (fun _ _ => rfl)) (pa_cons (pe_ix ix_list (pv 1) pe_int (fun _ _ => rfl)) (pa_cons (pe_ix ix_list (pv 1) pe_int (fun _ _ => rfl)) pa_nil))))))))) pss_nil)
      (pss_one (ps_ret (pe_smeth (pe_glob (v := .ref C) rfl T.m rfl) T.rd s1 r1 hr px (pa_cons (pv 0) (pa_cons (pe_ix ix_list (pv 1) pe_int (fun _ _ => rfl)) (pa_cons (pe_ix ix_list (pv 1) pe_int (fun _ _ => rfl)) (pa_cons (pe_ix ix_list (pv 1) pe_int (fun _ _ => rfl)) (pa_cons (pe_ix ix_list (pv 1) pe_int (fun _ _ => rfl)) (pa_cons (pe_ix ix_list (pv 1) pe_int (fun _ _ => rfl)) (pa_cons (pe_ix ix_list (pv 1) pe_int (fun _ _ => rfl)) pa_nil))))))))))))))), ?_⟩
    match xs, hl, ht, kk with
    | [], _, ht, kk =>
      exact ⟨_, rfl, l, _, rfl, .inl ht, rfl, _, rfl, iteT ⟨rfl, _, rfl, kk⟩⟩
    | [x0], _, ht, kk =>
      refine ⟨_, rfl, l, _, rfl, .inl ht, rfl, _, rfl, iteF ?_⟩
      exact ⟨_, rfl, l, _, rfl, .inl ht, rfl, _, rfl, iteT ⟨rfl, _, rfl, _, rfl, l, _, 0, _, rfl, rfl, ht, atI_nat (j := 0) rfl, kk⟩⟩
    | [x0, x1], _, ht, kk =>
      refine ⟨_, rfl, l, _, rfl, .inl ht, rfl, _, rfl, iteF ?_⟩
      refine ⟨_, rfl, l, _, rfl, .inl ht, rfl, _, rfl, iteF ?_⟩
      exact ⟨_, rfl, l, _, rfl, .inl ht, rfl, _, rfl, iteT ⟨rfl, _, rfl, _, rfl, l, _, 0, _, rfl, rfl, ht, atI_nat (j := 0) rfl, _, rfl, l, _, 1, _, rfl, rfl, ht, atI_nat (j := 1) rfl, kk⟩⟩
    | [x0, x1, x2], _, ht, kk =>
      refine ⟨_, rfl, l, _, rfl, .inl ht, rfl, _, rfl, iteF ?_⟩
      refine ⟨_, rfl, l, _, rfl, .inl ht, rfl, _, rfl, iteF ?_⟩
      refine ⟨_, rfl, l, _, rfl, .inl ht, rfl, _, rfl, iteF ?_⟩
      exact ⟨_, rfl, l, _, rfl, .inl ht, rfl, _, rfl, iteT ⟨rfl, _, rfl, _, rfl, l, _, 0, _, rfl, rfl, ht, atI_nat (j := 0) rfl, _, rfl, l, _, 1, _, rfl, rfl, ht, atI_nat (j := 1) rfl, _, rfl, l, _, 2, _, rfl, rfl, ht, atI_nat (j := 2) rfl, kk⟩⟩
    | [x0, x1, x2, x3], _, ht, kk =>
      refine ⟨_, rfl, l, _, rfl, .inl ht, rfl, _, rfl, iteF ?_⟩
      refine ⟨_, rfl, l, _, rfl, .inl ht, rfl, _, rfl, iteF ?_⟩
      refine ⟨_, rfl, l, _, rfl, .inl ht, rfl, _, rfl, iteF ?_⟩
      refine ⟨_, rfl, l, _, rfl, .inl ht, rfl, _, rfl, iteF ?_⟩
      exact ⟨_, rfl, l, _, rfl, .inl ht, rfl, _, rfl, iteT ⟨rfl, _, rfl, _, rfl, l, _, 0, _, rfl, rfl, ht, atI_nat (j := 0) rfl, _, rfl, l, _, 1, _, rfl, rfl, ht, atI_nat (j := 1) rfl, _, rfl, l, _, 2, _, rfl, rfl, ht, atI_nat (j := 2) rfl, _, rfl, l, _, 3, _, rfl, rfl, ht, atI_nat (j := 3) rfl, kk⟩⟩
    | [x0, x1, x2, x3, x4], _, ht, kk =>
      refine ⟨_, rfl, l, _, rfl, .inl ht, rfl, _, rfl, iteF ?_⟩
      refine ⟨_, rfl, l, _, rfl, .inl ht, rfl, _, rfl, iteF ?_⟩
      refine ⟨_, rfl, l, _, rfl, .inl ht, rfl, _, rfl, iteF ?_⟩
      refine ⟨_, rfl, l, _, rfl, .inl ht, rfl, _, rfl, iteF ?_⟩
      refine ⟨_, rfl, l, _, rfl, .inl ht, rfl, _, rfl, iteF ?_⟩
      exact ⟨_, rfl, l, _, rfl, .inl ht, rfl, _, rfl, iteT ⟨rfl, _, rfl, _, rfl, l, _, 0, _, rfl, rfl, ht, atI_nat (j := 0) rfl, _, rfl, l, _, 1, _, rfl, rfl, ht, atI_nat (j := 1) rfl, _, rfl, l, _, 2, _, rfl, rfl, ht, atI_nat (j := 2) rfl, _, rfl, l, _, 3, _, rfl, rfl, ht, atI_nat (j := 3) rfl, _, rfl, l, _, 4, _, rfl, rfl, ht, atI_nat (j := 4) rfl, kk⟩⟩
    | [x0, x1, x2, x3, x4, x5], _, ht, kk =>
      refine ⟨_, rfl, l, _, rfl, .inl ht, rfl, _, rfl, iteF ?_⟩
      refine ⟨_, rfl, l, _, rfl, .inl ht, rfl, _, rfl, iteF ?_⟩
      refine ⟨_, rfl, l, _, rfl, .inl ht, rfl, _, rfl, iteF ?_⟩
      refine ⟨_, rfl, l, _, rfl, .inl ht, rfl, _, rfl, iteF ?_⟩
      refine ⟨_, rfl, l, _, rfl, .inl ht, rfl, _, rfl, iteF ?_⟩
      refine ⟨_, rfl, l, _, rfl, .inl ht, rfl, _, rfl, iteF ?_⟩
      exact ⟨rfl, _, rfl, _, rfl, l, _, 0, _, rfl, rfl, ht, atI_nat (j := 0) rfl, _, rfl, l, _, 1, _, rfl, rfl, ht, atI_nat (j := 1) rfl, _, rfl, l, _, 2, _, rfl, rfl, ht, atI_nat (j := 2) rfl, _, rfl, l, _, 3, _, rfl, rfl, ht, atI_nat (j := 3) rfl, _, rfl, l, _, 4, _, rfl, rfl, ht, atI_nat (j := 4) rfl, _, rfl, l, _, 5, _, rfl, rfl, ht, atI_nat (j := 5) rfl, kk⟩
    | _ :: _ :: _ :: _ :: _ :: _ :: _ :: _, hl, _, _ => exact absurd hl (by simp)
end
/-! ### _law_try -/
theorem cl_rest {X : Cx} {hds : List ExceptHandler} : Clauses X hds (fun _ _ _ _ _ => False) := fun _ _ _ _ _ _ _ _ _ _ _ w => w.elim
/-- what a table is made of, and what is refused, as a tuple -/
structure LTryP (K : PySem.W.Frag) (vs : List V) (H : Hp) (Q : VK) : Prop where
  ex : ∃ (v : V) (l : Addr) (xs : List V) (d : PyData) (ds : List PyData), vs = [v, .ref l] ∧ SqL K H l xs ∧ xs.length ≤ 6 ∧ Dp K H v d ∧ DpAll K H xs ds ∧ sm 3 d ∧ (∀ d ∈ ds, sm 3 d) ∧
  (∀ (z : Str) (zs : List Str), d = .str z → ds = zs.map .str → IsWord z → (∀ x ∈ zs, IsWord x) →
    (zs.Nodup → zs.length ≤ 4 → ∀ t tp H', Same H H' → H' t = some (.tup [.bl true, .str "table", .str z, .ref tp]) → SqT K H' tp (zs.map V.str) → Q (.ref t) H') ∧
    (∀ (i : Nat) (u : Str), zs[i]? = some u → u ∈ zs.take i → (zs.take i).Nodup → ∀ t H', Same H H' → H' t = some (.tup [.str "Twice", .str u]) → Q (.ref t) H') ∧
    (zs.Nodup → 4 < zs.length → ∀ t H', Same H H' → H' t = some (.tup [.str "TooMany", .int 4]) → Q (.ref t) H')) ∧
  ∀ (i : Nat) (u : V) (e : PyData), (v :: xs)[i]? = some u → (d :: ds)[i]? = some e → nmD e = false → (∀ (j : Nat) (d' : PyData), j < i → (d :: ds)[j]? = some d' → nmD d' = true) → ∀ t H', Same H H' → H' t = some (.tup [.str "BadName", u]) → Q (.ref t) H'
def spLTry (K : PySem.W.Frag) : Sp := fun vs H Q _ => LTryP K vs H Q
section
variable {P : Program} {w : World} {K : PySem.W.Frag} {mg : Str → Option Value} {base : Heap}
theorem scLTr : FnScope ["name", "keys", "thing", "e"] ["name", "keys"] (defScope sTry) := ⟨rfl, rfl, rfl, by decide +kernel, rfl, by decide +kernel, by decide +kernel⟩
theorem ok_ltry {f fC C BN TW TM fB cB fT cT fM cM : Addr} {fd fdC fdB fdT fdM : FuncData} (T : ThIn K mg C) (F : Fun K "_law_try" "_law_try" sTry f fd)
    (GC : FnOk P w K mg base (L2.CX P w) 7 fC fdC ["name", "keys"] (spLCall K C BN TW TM)) (mC : mg "_law_call" = some (.ref fC)) (kC : PySem.W.keepIn K (.ref fC) = true) (bC : Binds K fdC ["name", "keys"] [])
    (R : RaisC P K mg "BadName" "name" BN fB cB fdB) (xB : XfC K BN) (RT : RaisC P K mg "Twice" "name" TW fT cT fdT) (xT : XfC K TW) (RM : RaisC P K mg "TooMany" "limit" TM fM cM fdM) (xM : XfC K TM)
    (n1 : PySem.W.subIn K (.ref TW) (.ref BN) = some false) (n2 : PySem.W.subIn K (.ref TM) (.ref BN) = some false) (n3 : PySem.W.subIn K (.ref TM) (.ref TW) = some false) (mi : mg "isinstance" = none) :
    FnOk P w K mg base CX0 8 f fd ["name", "keys"] (spLTry K) := by
  refine F.ok scLTr (fun vs H Q E h => ?_) (fun cdv A outer s H vs Q E hr h => ?_)
  · obtain ⟨⟨v, l, xs, d, ds, rfl, _⟩⟩ := h
    rfl
  · obtain ⟨⟨v, l, xs, d, ds, rfl, ht, hl, hv, hds, hsd, hsm, kk, kx⟩⟩ := h
    refine ⟨_, pss_cons (ps_try_cl rfl rfl
      (fun W pn xe tk po => pss_one (ps_set (i := 2) scLTr.nd rfl (.inl rfl) (pe_callS (E := WE W) GC hr (by rfl) mC kC bC (passAt tk) (pa_cons (pv 0) (pa_cons (pv 1) pa_nil)))))
      (cl_as rfl scLTr.nd (i := 3) rfl rfl (c := .ref BN) ⟨rfl, by decide, .inl R.T.gC⟩ (fun a oe cls dd pn hz hf => pss_one (ps_ret (pe_tup (pa_cons pe_str (pa_cons (pe_xf xB R.T.noX hz hf (pv 3)) pa_nil)))))
      (cl_as rfl scLTr.nd (i := 3) rfl rfl (c := .ref TW) ⟨rfl, by decide, .inl RT.T.gC⟩ (fun a oe cls dd pn hz hf => pss_one (ps_ret (pe_tup (pa_cons pe_str (pa_cons (pe_xf xT RT.T.noX hz hf (pv 3)) pa_nil)))))
      (cl_as rfl scLTr.nd (i := 3) rfl rfl (c := .ref TM) ⟨rfl, by decide, .inl RM.T.gC⟩ (fun a oe cls dd pn hz hf => pss_one (ps_ret (pe_tup (pa_cons pe_str (pa_cons (pe_xf xM RM.T.noX hz hf (pv 3)) pa_nil)))))
      cl_rest))))
      (pss_one (ps_ret (pe_tup (pa_cons (pe_callB call_isi (by rfl) mi (by decide +kernel) (pa_cons (pv 2) (pa_cons (pe_glob (v := .ref C) rfl T.m rfl) pa_nil))) (pa_cons (pe_fld (pv 2) rfl) (pa_cons (pe_fld (pv 2) rfl) (pa_cons (pe_fld (pv 2) rfl) pa_nil))))))), ?_⟩
    have ex : ∀ {A B : Addr} {b : Bool} {n g : Str} {h1 h2 : Addr} {q : FuncData}, RaisC P K mg n g B h1 h2 q → XfC K B → PySem.W.subIn K (.ref A) (.ref B) = some b → PySem.W.exmOne K (.ref A) (.ref B) = some b := fun RB x e => PySem.W.exm_ref RB.T.o.exC x.hdC RB.T.o.tyC e
    refine ⟨_, rfl, _, rfl, v, l, xs, rfl, ht, hl, v, d, xs, ds, rfl, hv, hds, hsd, hsm, by rw [← dpAll_len hds]; omega, fun z zs e1 e2 h1 h2 => ?_, fun i u e h1 h2 h3 h4 => ?_⟩
    · obtain ⟨q1, q2, q3⟩ := kk z zs e1 e2 h1 h2
      refine ⟨fun hnd h4 a H' s th => ?_, fun i u h3 h4 h5 => ?_, fun h3 h4 => ?_⟩
      · obtain ⟨dx, fs, t, a1, a2, a3, a4, a5⟩ := th
        have kc : PySem.W.kitOne K (.ref C) (.ref C) = some true := by unfold PySem.W.kitOne; rw [if_pos (by simp)]
        refine ⟨_, rfl, _, _, _, _, true, rfl, .own C, TyX.base (TyOf.ins a1 T.cls T.ca T.cn T.ct T.cm), kc, ?_⟩
        refine ⟨_, rfl, a, C, dx, fs, _, rfl, a1, T.cls, T.nk, a2, _, rfl, a, C, dx, fs, _, rfl, a1, T.cls, T.nn, a3, _, rfl, a, C, dx, fs, _, rfl, a1, T.cls, T.np, a4, by show 4 ≤ sizeLine; decide, fun tt nt => ?_⟩
        have s9 := same_new (o := .tup [.bl true, .str "table", .str z, .ref t]) nt
        exact q1 hnd h4 tt t _ (s.trans s9) upd_same (Same.seqT s9 a5)
      · intro dx H' s hx
        refine ⟨false, ex R xB n1, (fun z => Bool.noConfusion z), fun _ => ?_⟩
        refine ⟨true, ex RT xT RT.T.subC, fun _ a na => ?_, fun z => nomatch z⟩
        refine ⟨.ref a, rfl, rfl, rfl, dx, _, .str u, rfl, hx, by simp [List.lookup], by show 2 ≤ sizeLine; decide, fun t nt => ?_⟩
        exact q2 i u h3 h4 h5 t _ (s.trans (same_new nt)) upd_same
      · intro dx H' s hx
        refine ⟨false, ex R xB n2, (fun z => Bool.noConfusion z), fun _ => ?_⟩
        refine ⟨false, ex RT xT n3, (fun z => Bool.noConfusion z), fun _ => ?_⟩
        refine ⟨true, ex RM xM RM.T.subC, fun _ a na => ?_, fun z => nomatch z⟩
        refine ⟨.ref a, rfl, rfl, rfl, dx, _, .int 4, rfl, hx, by simp [List.lookup], by show 2 ≤ sizeLine; decide, fun t nt => ?_⟩
        exact q3 h3 h4 t _ (s.trans (same_new nt)) upd_same
    · intro dx H' s hx
      refine ⟨true, ex R xB R.T.subC, fun _ a na => ?_, fun z => nomatch z⟩
      refine ⟨.ref a, rfl, rfl, rfl, dx, _, u, rfl, hx, by simp [List.lookup], by show 2 ≤ sizeLine; decide, fun t nt => ?_⟩
      exact kx i u e h1 h2 h3 h4 t _ (s.trans (same_new nt)) upd_same
end
/-! ### _law_due -/
structure LDueP (K : PySem.W.Frag) (vs : List V) (H : Hp) (Q : VK) : Prop where
  ex : ∃ (v : V) (l : Addr) (xs : List V) (d : PyData) (ds : List PyData), vs = [v, .ref l] ∧ H l = some (.lst xs) ∧ xs.length ≤ 6 ∧ Dp K H v d ∧ DpAll K H xs ds ∧ sm 3 d ∧ (∀ d ∈ ds, sm 3 d) ∧
  (∀ (z : Str) (zs : List Str), d = .str z → ds = zs.map .str → IsWord z → (∀ x ∈ zs, IsWord x) →
    (zs.Nodup → zs.length ≤ 4 → ∀ t tp H', Same H H' → H' t = some (.tup [.bl true, .str "table", .str z, .ref tp]) → SqT K H' tp (zs.map V.str) → Q (.ref t) H') ∧
    (∀ (i : Nat) (u : Str), zs[i]? = some u → u ∈ zs.take i → (zs.take i).Nodup → ∀ t H', Same H H' → H' t = some (.tup [.str "Twice", .str u]) → Q (.ref t) H') ∧
    (zs.Nodup → 4 < zs.length → ∀ t H', Same H H' → H' t = some (.tup [.str "TooMany", .int 4]) → Q (.ref t) H')) ∧
  ∀ (i : Nat) (u : V) (e : PyData), (v :: xs)[i]? = some u → (d :: ds)[i]? = some e → nmD e = false → (∀ (j : Nat) (d' : PyData), j < i → (d :: ds)[j]? = some d' → nmD d' = true) → ∀ t H', Same H H' → H' t = some (.tup [.str "BadName", u]) → Q (.ref t) H'
def spLDue (K : PySem.W.Frag) : Sp := fun vs H Q _ => LDueP K vs H Q
section
variable {P : Program} {w : World} {K : PySem.W.Frag} {mg : Str → Option Value} {base : Heap}
theorem scLD : FnScope ["name", "keys", "one", "k"] ["name", "keys"] (defScope sDue) := ⟨rfl, rfl, rfl, by decide +kernel, rfl, by decide +kernel, by decide +kernel⟩
theorem ok_ldue {f fL : Addr} {fd fdL : FuncData} (F : Fun K "_law_due" "_law_due" sDue f fd) (GL : FnOk P w K mg base CX0 1 fL fdL ["value"] (spLin K)) (mL : mg "_law_is_name" = some (.ref fL)) (kL : PySem.W.keepIn K (.ref fL) = true) (bL : Binds K fdL ["value"] []) (B : Bts mg) :
    FnOk P w K mg base CX0 8 f fd ["name", "keys"] (spLDue K) := by
  refine F.ok scLD (fun vs H Q E h => ?_) (fun cdv A outer s H vs Q E hr h => ?_)
  · obtain ⟨⟨v, l, xs, d, ds, rfl, _⟩⟩ := h
    rfl
  · obtain ⟨⟨v, l, xs, d, ds, rfl, hL0, hl, hv, hds, hsd, hsm, kk, kx⟩⟩ := h
    have hr1 : Room 1 _ := hr.mono (by decide)
    refine ⟨_, pss_cons (ps_for PassesOwn.never rfl (pi_list (pe_op op_cat (pe_lst (pa_cons (pv 0) pa_nil)) (pv 1))) (pg_name (i := 2) scLD.nd rfl (.inl rfl))
        (pss_one (ps_if (pt_not (pt_val (pe_call GL hr1 (by rfl) mL kL bL .nil pass0 (pa_cons (pv 2) pa_nil)))) (pss_one (ps_ret (pe_tup (pa_cons pe_str (pa_cons (pv 2) pa_nil))))) pss_nil)))
      (pss_cons (ps_for PassesOwn.never rfl (pi_range1 (by rfl) B.range (pa_cons (pe_callB call_len_seq (by rfl) B.len PySem.boot_len (pa_cons (pv 1) pa_nil)) pa_nil)) (pg_name (i := 3) scLD.nd rfl (.inl rfl))
        (pss_one (ps_if (pt_cmpR op_in_seq (pe_ix ix_list (pv 1) (pv 3) (fun _ _ => rfl)) (pe_slice sl_list (pv 1) po_none (po_some (pv 3))) (by rfl))
          (pss_one (ps_ret (pe_tup (pa_cons pe_str (pa_cons (pe_ix ix_list (pv 1) (pv 3) (fun _ _ => rfl)) pa_nil))))) pss_nil)))
      (pss_cons (ps_if (pt_cmpR op_gt (pe_callB call_len_seq (by rfl) B.len PySem.boot_len (pa_cons (pv 1) pa_nil)) pe_int (nomark _)) (pss_one (ps_ret (pe_tup (pa_cons pe_str (pa_cons pe_int pa_nil))))) pss_nil)
      (pss_one (ps_ret (pe_tup (pa_cons pe_bl (pa_cons pe_str (pa_cons (pv 0) (pa_cons (pe_callTy call_tuple_of (by rfl) B.tuple (by decide +kernel) (pa_cons (pv 1) pa_nil)) pa_nil))))))))), ?_⟩
    refine ⟨_, rfl, by show 1 ≤ sizeLine; decide, fun c1 n1 => ?_⟩
    have s1 := same_new (o := .lst [v]) n1
    refine ⟨_, rfl, c1, l, [v], xs, rfl, rfl, upd_same, s1 _ _ hL0, len1000 (by simp; omega), fun c2 n2 => ?_⟩
    have s2 := s1.trans (same_new (o := .lst ([v] ++ xs)) n2)
    have hc2 : SqL K (upd (upd H c1 (.lst [v])) c2 (.lst ([v] ++ xs))) c2 (v :: xs) := SqL.of upd_same
    refine ⟨c2, rfl, ⟨_, hc2⟩, for_list (K := K) (a := c2) (xs := v :: xs) (fun i σ H2 => ∃ y, σ = [some v, some (.ref l), y, none] ∧ Same (upd (upd H c1 (.lst [v])) c2 (.lst ([v] ++ xs))) H2 ∧ ∀ (j : Nat) (d' : PyData), j < i → (d :: ds)[j]? = some d' → nmD d' = true)
      ⟨none, rfl, Same.refl _, fun j _ hj => by omega⟩ (fun i σ H2 _ ⟨_, _, e, _⟩ => SqL.of (e _ _ upd_same)) ?_ ?_⟩
    · rintro i x σ H2 hx ⟨y, rfl, s3, hj⟩
      have s4 := s2.trans s3
      obtain ⟨e, ee, hd⟩ := dpAll_at (.cons hv hds) hx
      have hse : sm 3 e := by
        rcases List.mem_cons.mp (List.mem_of_getElem? ee) with rfl | h
        · exact hsd
        · exact hsm e h
      refine ⟨_, rfl, x, e, rfl, dp_same s4 _ _ hd, hse, fun H3 s5 => ⟨_, rfl, ?_⟩⟩
      cases hb : nmD e with
      | true =>
        refine iteF ⟨_, rfl, s3.trans s5, fun j d' hj' ej => ?_⟩
        by_cases q : j = i
        · subst q
          rw [ee] at ej
          cases ej
          exact hb
        · exact hj j d' (by omega) ej
      | false =>
        refine iteT ⟨_, rfl, by show 2 ≤ sizeLine; decide, fun t nt => ?_⟩
        exact kx i x e hx ee hb hj t _ ((s4.trans s5).trans (same_new nt)) upd_same
    · rintro σ H2 ⟨y, rfl, s3, hj⟩
      have s4 := s2.trans s3
      have lx : xs.length = ds.length := dpAll_len hds
      have hall : ∀ e ∈ d :: ds, nmD e = true := fun e he => by
        obtain ⟨j, ej⟩ := List.getElem?_of_mem he
        refine hj j e ?_ ej
        have := (List.getElem?_eq_some_iff.mp ej).1
        simp only [List.length_cons] at this ⊢
        omega
      obtain ⟨z, rfl, hz⟩ := nmD_word (hall d List.mem_cons_self)
      obtain ⟨zs, rfl, hzs⟩ := words_of fun x hx => hall x (List.mem_cons_of_mem _ hx)
      obtain rfl := dp_str hv
      obtain rfl := dp_strs hds
      obtain ⟨q1, q2, q3⟩ := kk z zs rfl rfl hz hzs
      rw [List.length_map] at hl
      have hL := s4 _ _ hL0
      refine ⟨_, rfl, l, _, rfl, .inl (SqL.of hL), _, rfl, by rw [List.length_map]; omega, by rw [List.length_map]; omega, ?_⟩
      refine for_range (lo := 0) (n := (((zs.map V.str).length : Int)).toNat) (fun i σ H3 => ∃ y y', σ = [some (.str z), some (.ref l), y, y'] ∧ Same H2 H3 ∧ (zs.take i).Nodup) ⟨y, none, rfl, Same.refl _, by simp⟩ ?_ ?_
      · rintro i σ H3 hi ⟨y, y', rfl, s5, hnd⟩
        have hi' : i < zs.length := by rw [List.length_map] at hi; omega
        have hL3 := s5 _ _ hL
        have hu : zs[i]? = some zs[i] := List.getElem?_eq_getElem hi'
        have hat : atI (zs.map V.str) ((i : Nat) : Int) = some (.str zs[i]) := atI_nat (by rw [List.getElem?_map, hu]; rfl)
        rw [Int.zero_add]
        refine ⟨_, rfl, _, rfl, l, _, _, _, rfl, rfl, SqL.of hL3, hat, _, rfl, _, rfl, i, rfl, l, _, rfl, SqL.of hL3, fun p np => ?_⟩
        rw [cut_take]
        have s6 := same_new (o := .lst ((zs.map V.str).take i)) np
        rw [← List.map_take] at s6 ⊢
        refine ⟨p, _, rfl, .inl (SqL.of upd_same), rfl, ?_, _, rfl, ?_⟩
        · rw [List.all_eq_true]
          intro v hv
          obtain ⟨w', _, rfl⟩ := List.mem_map.mp hv
          rfl
        · cases hb : inV (.str zs[i]) ((zs.take i).map V.str) with
          | false =>
            refine iteF ⟨_, _, rfl, s5.trans s6, ?_⟩
            have hnm : zs[i] ∉ zs.take i := fun h => by rw [inV_iff.mpr h] at hb; cases hb
            rw [List.take_succ, hu]
            show (zs.take i ++ [zs[i]]).Nodup
            rw [List.nodup_append]
            refine ⟨hnd, by simp, fun a ha b hb e => ?_⟩
            rw [List.mem_singleton] at hb
            subst hb; subst e
            exact hnm ha
          | true =>
            refine iteT ⟨_, rfl, _, rfl, l, _, _, _, rfl, rfl, SqL.of (s6 _ _ hL3), hat, by show 2 ≤ sizeLine; decide, fun t nt => ?_⟩
            exact q2 i _ hu (inV_iff.mp hb) hnd t _ (((s4.trans s5).trans s6).trans (same_new nt)) upd_same
      · rintro σ H3 ⟨y, y', rfl, s5, hnd⟩
        have hnd' : zs.Nodup := by
          have e : (((zs.map V.str).length : Int)).toNat = zs.length := by rw [List.length_map]; omega
          rw [e, List.take_length] at hnd
          exact hnd
        have hL3 := s5 _ _ hL
        refine ⟨_, rfl, l, _, rfl, .inl (SqL.of hL3), _, _, rfl, rfl, _, rfl, ?_⟩
        by_cases h4 : zs.length ≤ 4
        · rw [decide_eq_false (by rw [List.length_map]; omega)]
          refine iteF ⟨_, rfl, _, rfl, l, _, rfl, .inl ⟨SqL.of hL3, fun tp ntp => ⟨by show 4 ≤ sizeLine; decide, fun t nt => ?_⟩⟩⟩
          have s6 := same_new (o := .tup (zs.map V.str)) ntp
          have s7 := same_new (o := .tup [.bl true, .str "table", .str z, .ref tp]) nt
          exact q1 hnd' h4 t tp _ (((s4.trans s5).trans s6).trans s7) upd_same (Same.seqT s7 (SqT.of upd_same))
        · rw [decide_eq_true (by rw [List.length_map]; omega)]
          refine iteT ⟨by show 2 ≤ sizeLine; decide, fun t nt => ?_⟩
          exact q3 hnd' (by omega) t _ ((s4.trans s5).trans (same_new nt)) upd_same
end
/-! ### both answers are the same data -/
theorem first_bad : ∀ ds : List PyData, (∀ d ∈ ds, nmD d = true) ∨ ∃ (i : Nat) (e : PyData), ds[i]? = some e ∧ nmD e = false ∧ ∀ (j : Nat) (d' : PyData), j < i → ds[j]? = some d' → nmD d' = true
  | [] => .inl fun _ h => nomatch h
  | d :: r => by
    cases hb : nmD d with
    | false => exact .inr ⟨0, d, rfl, hb, fun j _ h => by omega⟩
    | true =>
      rcases first_bad r with h | ⟨i, e, h1, h2, h3⟩
      · refine .inl fun x hx => ?_
        rcases List.mem_cons.mp hx with rfl | hx
        · exact hb
        · exact h x hx
      · refine .inr ⟨i + 1, e, h1, h2, fun j d' hj e' => ?_⟩
        cases j with
        | zero =>
          obtain rfl := Option.some.inj e'
          exact hb
        | succ j => exact h3 j d' (by omega) e'
theorem first_twin (zs : List Str) : zs.Nodup ∨ ∃ (i : Nat) (u : Str), zs[i]? = some u ∧ u ∈ zs.take i ∧ (zs.take i).Nodup := by
  have key : ∀ n, n ≤ zs.length → (zs.take n).Nodup ∨ ∃ (i : Nat) (u : Str), zs[i]? = some u ∧ u ∈ zs.take i ∧ (zs.take i).Nodup := by
    intro n
    induction n with
    | zero => exact fun _ => .inl (by simp)
    | succ n ih =>
      intro hn
      rcases ih (by omega) with h | h
      · have hu : zs[n]? = some zs[n] := List.getElem?_eq_getElem (by omega)
        by_cases hm : zs[n] ∈ zs.take n
        · exact .inr ⟨n, _, hu, hm, h⟩
        · refine .inl ?_
          rw [List.take_succ, hu]
          show (zs.take n ++ [zs[n]]).Nodup
          rw [List.nodup_append]
          refine ⟨h, by simp, fun a ha b hb e => ?_⟩
          rw [List.mem_singleton] at hb
          subst hb; subst e
          exact hm ha
      · exact .inr h
  have := key zs.length (Nat.le_refl _)
  rw [List.take_length] at this
  exact this
theorem twin_one {zs : List Str} {i j : Nat} {u y : Str} (h1 : zs[i]? = some u) (h2 : u ∈ zs.take i) (h3 : (zs.take i).Nodup) (k1 : zs[j]? = some y) (k2 : y ∈ zs.take j) (k3 : (zs.take j).Nodup) : u = y := by
  have no : ∀ {a b : Nat} {x : Str}, zs[a]? = some x → x ∈ zs.take a → (zs.take b).Nodup → ¬ a < b := fun {a b x} e m n h => by
    have e1 : zs.take (a + 1) = zs.take a ++ [x] := by rw [List.take_succ, e]; rfl
    have e2 : (zs.take b).take (a + 1) = zs.take (a + 1) := by rw [List.take_take, Nat.min_eq_left (by omega)]
    have n2 : (zs.take (a + 1)).Nodup := by
      rw [← e2]
      exact List.Sublist.nodup (List.take_sublist _ _) n
    rw [e1, List.nodup_append] at n2
    exact n2.2.2 x m x (by simp) rfl
  have e : i = j := by
    have a := no h1 h2 k3
    have b := no k1 k2 h3
    omega
  subst e
  rw [h1] at k1
  exact Option.some.inj k1
theorem not_nodup {zs : List Str} {i : Nat} {u : Str} (h1 : zs[i]? = some u) (h2 : u ∈ zs.take i) : ¬ zs.Nodup := fun n => by
  have e1 : zs.take (i + 1) = zs.take i ++ [u] := by rw [List.take_succ, h1]; rfl
  have n2 : (zs.take (i + 1)).Nodup := List.Sublist.nodup (List.take_sublist _ _) n
  rw [e1, List.nodup_append] at n2
  exact n2.2.2 u h2 u (by simp) rfl
theorem strs_inj {a b : List Str} (h : a.map PyData.str = b.map PyData.str) : a = b := by
  induction a generalizing b with
  | nil => exact (List.map_eq_nil_iff.mp h.symm).symm
  | cons x r ih => cases b with
    | nil => simp at h
    | cons y t =>
      simp only [List.map_cons, List.cons.injEq, PyData.str.injEq] at h
      rw [h.1, ih h.2]
def Conts (H : Hp) (K : PySem.W.Frag) (Q : VK) (v : V) (xs : List V) (d : PyData) (ds : List PyData) : Prop :=
  (∀ (z : Str) (zs : List Str), d = .str z → ds = zs.map .str → IsWord z → (∀ x ∈ zs, IsWord x) →
    (zs.Nodup → zs.length ≤ 4 → ∀ t tp H', Same H H' → H' t = some (.tup [.bl true, .str "table", .str z, .ref tp]) → SqT K H' tp (zs.map V.str) → Q (.ref t) H') ∧
    (∀ (i : Nat) (u : Str), zs[i]? = some u → u ∈ zs.take i → (zs.take i).Nodup → ∀ t H', Same H H' → H' t = some (.tup [.str "Twice", .str u]) → Q (.ref t) H') ∧
    (zs.Nodup → 4 < zs.length → ∀ t H', Same H H' → H' t = some (.tup [.str "TooMany", .int 4]) → Q (.ref t) H')) ∧
  ∀ (i : Nat) (u : V) (e : PyData), (v :: xs)[i]? = some u → (d :: ds)[i]? = some e → nmD e = false → (∀ (j : Nat) (d' : PyData), j < i → (d :: ds)[j]? = some d' → nmD d' = true) → ∀ t H', Same H H' → H' t = some (.tup [.str "BadName", u]) → Q (.ref t) H'
theorem strs_dpX {K : PySem.W.Frag} {H : Hp} : ∀ xs : List Str, DpAll K H (xs.map V.str) (xs.map PyData.str)
  | [] => .nil
  | _ :: r => .cons (.str _) (strs_dpX r)
theorem conts_all {K : PySem.W.Frag} {H : Hp} {v : V} {xs : List V} {d : PyData} {ds : List PyData} (hv : Dp K H v d) (hds : DpAll K H xs ds) (hsd : sm 3 d) (hsm : ∀ d ∈ ds, sm 3 d) :
    ∃ D, sm 4 D ∧ ∀ H1, Same H H1 → ∀ Q : VK, (∀ r H', Same H1 H' → Dp K H' r D → Q r H') → Conts H1 K Q v xs d ds := by
  have two : ∀ {x : PyData} (s : Str), s.length ≤ 100 → (∀ c ∈ s.cps.toList, c < 1000) → sm 3 x → sm 4 (.tuple [.str s, x]) := fun {x} s h1 h2 h => by
    simp only [sm]
    refine ⟨by simp, fun y hy => ?_⟩
    rcases List.mem_cons.mp hy with rfl | hy
    · exact ⟨h1, h2⟩
    · rw [List.mem_singleton.mp hy]; exact h
  rcases first_bad (d :: ds) with hall | ⟨i0, e0, b1, b2, b3⟩
  · obtain ⟨z, rfl, hz⟩ := nmD_word (hall d List.mem_cons_self)
    obtain ⟨zs, rfl, hzs⟩ := words_of fun x hx => hall x (List.mem_cons_of_mem _ hx)
    have nb : ∀ (i : Nat) (e : PyData), (PyData.str z :: zs.map .str)[i]? = some e → nmD e = false → False := fun i e h1 h2 => by
      rw [hall e (List.mem_of_getElem? h1)] at h2
      cases h2
    rcases first_twin zs with hnd | ⟨i0, u0, t1, t2, t3⟩
    · by_cases h4 : zs.length ≤ 4
      · refine ⟨.tuple [.bool true, .str "table", .str z, .tuple (zs.map .str)], ?_, fun H1 s1 Q q => ⟨fun z' zs' e1 e2 _ _ => ?_, fun i u e _ h2 h3 => (nb i e h2 h3).elim⟩⟩
        · simp only [sm]
          refine ⟨by simp, fun y hy => ?_⟩
          simp only [List.mem_cons, List.not_mem_nil, or_false] at hy
          rcases hy with rfl | rfl | rfl | rfl
          · simp [sm]
          · simp only [sm]; exact ⟨by decide, by decide⟩
          · exact sm_word hz
          · simp only [sm]
            refine ⟨by simp; omega, fun y hy => ?_⟩
            obtain ⟨w, hw, rfl⟩ := List.mem_map.mp hy
            have := hzs w hw
            simp only [sm]
            exact ⟨by have := this.2.1; omega, fun c hc => by have := (this.2.2 c hc).2; omega⟩
        · obtain rfl := PyData.str.inj e1
          obtain rfl := strs_inj e2
          refine ⟨fun _ _ t tp H' s h5 h6 => ?_, fun i u h1 h2 => (not_nodup h1 h2 hnd).elim, fun _ h => by omega⟩
          exact q _ _ s (.tup (SqT.of h5) (.cons (.bl _) (.cons (.str _) (.cons (.str _) (.cons (.tup h6 (strs_dpX zs)) .nil)))))
      · refine ⟨.tuple [.str "TooMany", .int 4], two _ (by decide) (by decide) (by simp [sm]), fun H1 s1 Q q => ⟨fun z' zs' e1 e2 _ _ => ?_, fun i u e _ h2 h3 => (nb i e h2 h3).elim⟩⟩
        obtain rfl := PyData.str.inj e1
        obtain rfl := strs_inj e2
        refine ⟨fun _ h => absurd h h4, fun i u h1 h2 => (not_nodup h1 h2 hnd).elim, fun _ _ t H' s h5 => ?_⟩
        exact q _ _ s (.tup (SqT.of h5) (.cons (.str _) (.cons (.int _) .nil)))
    · refine ⟨.tuple [.str "Twice", .str u0], two _ (by decide) (by decide) (sm_word (hzs u0 (List.mem_of_getElem? t1))), fun H1 s1 Q q => ⟨fun z' zs' e1 e2 _ _ => ?_, fun i u e _ h2 h3 => (nb i e h2 h3).elim⟩⟩
      obtain rfl := PyData.str.inj e1
      obtain rfl := strs_inj e2
      refine ⟨fun h => (not_nodup t1 t2 h).elim, fun i u h1 h2 h3 t H' s h5 => ?_, fun h => (not_nodup t1 t2 h).elim⟩
      obtain rfl := twin_one h1 h2 h3 t1 t2 t3
      exact q _ _ s (.tup (SqT.of h5) (.cons (.str _) (.cons (.str _) .nil)))
  · have hse : sm 3 e0 := by
      rcases List.mem_cons.mp (List.mem_of_getElem? b1) with h | h
      · rw [h]; exact hsd
      · exact hsm e0 h
    refine ⟨.tuple [.str "BadName", e0], two _ (by decide) (by decide) hse, fun H1 s1 Q q => ⟨fun z' zs' e1 e2 h1 h2 => ?_, fun i u e h1 h2 h3 h4 t H' s h5 => ?_⟩⟩
    · subst e1; subst e2
      have : nmD e0 = true := by
        rcases List.mem_cons.mp (List.mem_of_getElem? b1) with h | h
        · rw [h]; exact h1.nm
        · obtain ⟨w, hw, rfl⟩ := List.mem_map.mp h
          exact (h2 w hw).nm
      rw [this] at b2
      cases b2
    · have ei : i = i0 := by
        rcases Nat.lt_trichotomy i i0 with h | h | h
        · rw [b3 i e h h2] at h3; cases h3
        · exact h
        · rw [h4 i0 e0 h b1] at b2; cases b2
      subst ei
      rw [b1] at h2
      obtain rfl := Option.some.inj h2
      obtain ⟨e', e1, hd⟩ := dpAll_at (.cons hv hds) h1
      rw [b1] at e1
      obtain rfl := Option.some.inj e1
      exact q _ _ s (.tup (SqT.of h5) (.cons (.str _) (.cons (dp_same (s1.trans s) _ _ hd) .nil)))
/-! ### what is picked from a list -/
def sel (f : PyData → Bool) : List V → List PyData → List V
  | v :: vs, d :: ds => if f d then v :: sel f vs ds else sel f vs ds
  | _, _ => []
theorem sel_snoc (f : PyData → Bool) (v : V) (d : PyData) : ∀ {vs : List V} {ds : List PyData}, vs.length = ds.length → sel f (vs ++ [v]) (ds ++ [d]) = sel f vs ds ++ (if f d then [v] else [])
  | [], [], _ => by simp [sel]
  | x :: vs, y :: ds, h => by
    have ih := sel_snoc f v d (vs := vs) (ds := ds) (by simpa using h)
    simp only [List.cons_append, sel, ih]
    by_cases e : f y = true
    · simp [e]
    · simp [e]
  | [], _ :: _, h => by simp at h
  | _ :: _, [], h => by simp at h
theorem sel_len (f : PyData → Bool) : ∀ (vs : List V) (ds : List PyData), (sel f vs ds).length ≤ vs.length
  | [], _ => by simp [sel]
  | _ :: _, [] => by simp [sel]
  | v :: vs, d :: ds => by
    have := sel_len f vs ds
    simp only [sel]
    split <;> simp only [List.length_cons] <;> omega
structure Rw where
  (k n : Str)
theorem sel_words {K : PySem.W.Frag} {H : Hp} : ∀ {vs : List V} {ds : List PyData}, DpAll K H vs ds → ∃ zs : List Str, sel nmD vs ds = zs.map V.str ∧ (∀ x ∈ zs, IsWord x) ∧ zs.length ≤ vs.length
  | [], [], .nil => ⟨[], rfl, fun _ h => (by cases h), Nat.le_refl _⟩
  | v :: vs, d :: ds, .cons h r => by
    obtain ⟨zs, e, w, l⟩ := sel_words r
    by_cases hb : nmD d = true
    · obtain ⟨z, rfl, wz⟩ := nmD_word hb
      obtain rfl := dp_str h
      refine ⟨z :: zs, ?_, fun x hx => ?_, by simp only [List.length_cons]; omega⟩
      · simp only [sel, hb, if_true, e, List.map_cons]
      · rcases List.mem_cons.mp hx with rfl | hx
        · exact wz
        · exact w x hx
    · refine ⟨zs, ?_, w, by simp only [List.length_cons]; omega⟩
      simp only [sel, hb, Bool.false_eq_true, if_false, e]
/-! ### lists left out -/
def AllLst (l : List Addr) (H : Hp) : Prop := ∀ b ∈ l, ∃ xs, H b = some (.lst xs)
theorem ThingAt.mask {K : PySem.W.Frag} {H : Hp} {C a : Addr} {kind name : Str} {parts : List Str} {l : List Addr} (al : AllLst l H) (h : ThingAt K H C a kind name parts) : ThingAt K (Qp.mask l H) C a kind name parts := by
  obtain ⟨dx, fs, t, h1, h2, h3, h4, h5⟩ := h
  have no : ∀ b o, H b = some o → (∀ xs, o ≠ .lst xs) → b ∉ l := fun b o e n m => by
    obtain ⟨xs, e2⟩ := al b m
    rw [e] at e2
    exact n xs (Option.some.inj e2)
  refine ⟨dx, fs, t, by rw [mask_out (no a _ h1 fun xs z => nomatch z)]; exact h1, h2, h3, h4, ?_⟩
  rcases h5 with (h | ⟨o, h⟩) | h
  · exact .inl (.inl (by rw [mask_out (no t _ h fun xs z => nomatch z)]; exact h))
  · exact .inl (.inr ⟨o, by rw [mask_out (no t _ h fun xs z => nomatch z)]; exact h⟩)
  · exact .inr h
theorem sm_dp : ∀ (m : Nat) (d : PyData), sm m d → dp m d
  | 0, _, h => by simp [sm] at h
  | m + 1, d, h => by
    cases d with
    | none => simp [dp]
    | bool b => simp [dp]
    | int i => simp [dp]
    | str s => simp [dp]
    | list xs =>
      simp only [sm] at h
      simp only [dp]
      exact ⟨by omega, fun x hx => sm_dp m x (h.2 x hx)⟩
    | tuple xs =>
      simp only [sm] at h
      simp only [dp]
      exact ⟨by omega, fun x hx => sm_dp m x (h.2 x hx)⟩
    | dict xs => simp [sm] at h
/-! ### the law -/
def spLaw (K : PySem.W.Frag) : Sp := fun vs H Q _ => ∃ (a : Addr) (ns : List Int), vs = [.ref a] ∧ SqL K H a (ns.map V.int) ∧ ns.length ≤ 63 ∧ ∀ H', Q (.bl true) H'
theorem ltry_of {K : PySem.W.Frag} {H : Hp} {Q : VK} {v : V} {l : Addr} {xs : List V} {d : PyData} {ds : List PyData} (hL : SqL K H l xs) (hl : xs.length ≤ 6) (hv : Dp K H v d) (hds : DpAll K H xs ds) (hsd : sm 3 d) (hsm : ∀ d ∈ ds, sm 3 d) (c : Conts H K Q v xs d ds) : LTryP K [v, .ref l] H Q := LTryP.mk ⟨v, l, xs, d, ds, rfl, hL, hl, hv, hds, hsd, hsm, c⟩
theorem ldue_of {K : PySem.W.Frag} {H : Hp} {Q : VK} {v : V} {l : Addr} {xs : List V} {d : PyData} {ds : List PyData} (hL : H l = some (.lst xs)) (hl : xs.length ≤ 6) (hv : Dp K H v d) (hds : DpAll K H xs ds) (hsd : sm 3 d) (hsm : ∀ d ∈ ds, sm 3 d) (c : Conts H K Q v xs d ds) : LDueP K [v, .ref l] H Q := LDueP.mk ⟨v, l, xs, d, ds, rfl, hL, hl, hv, hds, hsd, hsm, c⟩
structure NmAt (K : PySem.W.Frag) (H : Hp) (p q N : Addr) (n : Nat) (xs : List V) (ds : List PyData) : Prop where
  P : PoolAt H p q n
  hN : H N = some (.lst xs)
  Np : N ≠ p
  Nq : N ≠ q
  hd : DpAll K (mask [p, q, N] H) xs ds
  hs : ∀ d ∈ ds, sm 3 d
theorem NmAt.alive {K : PySem.W.Frag} {H : Hp} {p q N : Addr} {n : Nat} {xs : List V} {ds : List PyData} (S : NmAt K H p q N n xs ds) : Alive [p, q, N] H := fun x hx => by
  obtain ⟨op, ep⟩ := S.P.p_some
  obtain ⟨oq, eq⟩ := S.P.q_some
  simp only [List.mem_cons, List.not_mem_nil, or_false] at hx
  rcases hx with rfl | rfl | rfl
  · exact ⟨_, ep⟩
  · exact ⟨_, eq⟩
  · exact ⟨_, S.hN⟩
theorem NmAt.keeps {K : PySem.W.Frag} {H H' : Hp} {p q N : Addr} {n n' : Nat} {xs : List V} {ds : List PyData} (S : NmAt K H p q N n xs ds) (k : Keeps p q H H') (P : PoolAt H' p q n') : NmAt K H' p q N n' xs ds :=
  ⟨P, k N _ S.Np S.Nq S.hN, S.Np, S.Nq, dpAll_same (Keeps.maskL (by simp) (by simp) k) _ _ S.hd, S.hs⟩
theorem NmAt.same {K : PySem.W.Frag} {H H' : Hp} {p q N : Addr} {n : Nat} {xs : List V} {ds : List PyData} (S : NmAt K H p q N n xs ds) (s : Same H H') : NmAt K H' p q N n xs ds :=
  ⟨S.P.same s, s _ _ S.hN, S.Np, S.Nq, dpAll_same (mask_same s) _ _ S.hd, S.hs⟩
theorem NmAt.add {K : PySem.W.Frag} {H : Hp} {p q N : Addr} {n : Nat} {xs : List V} {ds : List PyData} {v : V} {d : PyData} (S : NmAt K H p q N n xs ds) (hv : Dp K (mask [p, q, N] H) v d) (hd : sm 3 d) : NmAt K (upd H N (.lst (xs ++ [v]))) p q N n (xs ++ [v]) (ds ++ [d]) :=
  ⟨by
    obtain ⟨npq, cs, b, c0, e1, e2, r⟩ := S.P
    exact ⟨npq, cs, b, c0, by rw [upd_ne (Ne.symm S.Np)]; exact e1, by rw [upd_ne (Ne.symm S.Nq)]; exact e2, r⟩, upd_same, S.Np, S.Nq, dpAll_app (dpAll_same (mask_at (by simp)) _ _ S.hd) (.cons (dp_same (mask_at (by simp)) _ _ hv) .nil), fun x hx => by
    rcases List.mem_append.mp hx with h | h
    · exact S.hs x h
    · rw [List.mem_singleton.mp h]; exact hd⟩
structure Defs (P : Program) (w : World) (K : PySem.W.Frag) (mg : Str → Option Value) (base : Heap) where
  (fP fD fS fO fW fL fT fU : Addr)
  (dP dD dS dO dW dL dT dU : FuncData)
  gP : FnOk P w K mg base CX0 1 fP dP ["script"] (spPool K)
  gD : FnOk P w K mg base CX0 1 fD dD ["pool", "many"] spDraw
  gS : FnOk P w K mg base CX0 6 fS dS ["actual", "due"] (spSame K 6)
  gO : FnOk P w K mg base CX0 5 fO dO ["pool", "depth"] (spObj K 3)
  gW : FnOk P w K mg base CX0 2 fW dW ["pool"] spWord
  gL : FnOk P w K mg base CX0 1 fL dL ["value"] (spLin K)
  gT : FnOk P w K mg base CX0 8 fT dT ["name", "keys"] (spLTry K)
  gU : FnOk P w K mg base CX0 8 fU dU ["name", "keys"] (spLDue K)
  bP : Binds K dP ["script"] []
  bD : Binds K dD ["pool", "many"] []
  bS : Binds K dS ["actual", "due"] []
  bO : Binds K dO ["pool", "depth"] []
  bW : Binds K dW ["pool"] []
  bL : Binds K dL ["value"] []
  bT : Binds K dT ["name", "keys"] []
  bU : Binds K dU ["name", "keys"] []
  mP : mg "_law_pool" = some (.ref fP)
  mD : mg "_law_draw" = some (.ref fD)
  mS : mg "_law_same" = some (.ref fS)
  mO : mg "_law_object" = some (.ref fO)
  mW : mg "_law_word" = some (.ref fW)
  mL : mg "_law_is_name" = some (.ref fL)
  mT : mg "_law_try" = some (.ref fT)
  mU : mg "_law_due" = some (.ref fU)
  kP : PySem.W.keepIn K (.ref fP) = true
  kD : PySem.W.keepIn K (.ref fD) = true
  kS : PySem.W.keepIn K (.ref fS) = true
  kO : PySem.W.keepIn K (.ref fO) = true
  kW : PySem.W.keepIn K (.ref fW) = true
  kL : PySem.W.keepIn K (.ref fL) = true
  kT : PySem.W.keepIn K (.ref fT) = true
  kU : PySem.W.keepIn K (.ref fU) = true
section
variable {P : Program} {w : World} {K : PySem.W.Frag} {mg : Str → Option Value} {base : Heap}
theorem scL : FnScope ["script", "pool", "turn", "names", "k", "name", "old", "pick", "keys"] ["script"] (defScope sLaw) := ⟨rfl, rfl, rfl, by decide +kernel, rfl, by decide +kernel, by decide +kernel⟩
theorem ok_law {f : Addr} {fd : FuncData} (F : Fun K "law" "law" sLaw f fd) (G : Defs P w K mg base) (B : Bts mg) : FnOk P w K mg base CX0 9 f fd ["script"] (spLaw K) := by
  refine F.ok scL (fun vs H Q E h => ?_) (fun cdv A outer s H vs Q E hr h => ?_)
  · obtain ⟨a, ns, rfl, _⟩ := h
    rfl
  · obtain ⟨a, ns, rfl, hS, hlen, kk⟩ := h
    have hr1 : Room 1 _ := hr.mono (by decide)
    have hr2 : Room 2 _ := hr.mono (by decide)
    have hr5 : Room 5 _ := hr.mono (by decide)
    have hr6 : Room 6 _ := hr.mono (by decide)
    refine ⟨_, pss_cons (ps_set (i := 1) scL.nd rfl (.inl rfl) (pe_call G.gP hr1 (by rfl) G.mP G.kP G.bP .nil pass0 (pa_cons (pv 0) pa_nil)))
      (pss_cons (ps_for PassesOwn.never rfl (pi_range1 rfl B.range (pa_cons pe_int pa_nil)) (pg_name (i := 2) scL.nd rfl (.inl rfl))
        (pss_cons (ps_set (i := 3) scL.nd rfl (.inl rfl) (pe_lst pa_nil))
        (pss_cons (ps_for PassesOwn.never rfl (pi_range1 rfl B.range (pa_cons (pe_op op_add pe_int (pe_call G.gD hr1 (by rfl) G.mD G.kD G.bD .nil pass0 (pa_cons (pv 1) (pa_cons pe_int pa_nil)))) pa_nil)) (pg_name (i := 4) scL.nd rfl (.inl rfl))
          (C8.pss_cut (ps_setLc (i := 6) (own := [("name", 5)]) (g := gName 5) rfl scL.nd rfl rfl rfl (pi_list (pe_slice sl_list (pv 3) (po_some pe_int) po_none))
            (blkOk_by (N := ["script", "pool", "turn", "names", "k", "name", "old", "pick", "keys"]) (sc := defScope sLaw) (by decide +kernel)) (fun _ _ _ _ _ => pg_name (i := 5) scL.nd rfl (.inl rfl))
            (fun _ _ _ _ _ => pts_one (pt_val (pe_call G.gL hr1 (by rfl) G.mL G.kL G.bL .nil pass0 (pa_cons (pv 5) pa_nil)))) (fun _ _ _ _ _ => pv 5))
          (pss_cons (ps_set (i := 7) scL.nd rfl (.inl rfl) (pe_call G.gD hr1 (by rfl) G.mD G.kD G.bD .nil pass0 (pa_cons (pv 1) (pa_cons pe_int pa_nil))))
          (pss_one (ps_if (PW.pt (pw_and (pt_cmpR op_eq (pv 7) pe_int (nomark _)) (pw_and1 (pt_truth (pv 6) (by intro _; rfl)))))
            (pss_one (ps_expr (pe_bm PySem.F.plainAttrs_list PySem.F.slot_list_append PySem.F.type_list_append mt_append (pv 3)
              (pa_cons (pe_ix ix_list (pv 6) (pe_call G.gD hr1 (by rfl) G.mD G.kD G.bD .nil pass0 (pa_cons (pv 1) (pa_cons (pe_callB call_len_seq (by rfl) B.len PySem.boot_len (pa_cons (pv 6) pa_nil)) pa_nil))) (fun _ _ => rfl)) pa_nil))))
            (pss_one (ps_if (pt_cmpR op_eq (pv 7) pe_int (nomark _))
              (pss_one (ps_expr (pe_bm PySem.F.plainAttrs_list PySem.F.slot_list_append PySem.F.type_list_append mt_append (pv 3) (pa_cons (pe_call G.gO hr5 (by rfl) G.mO G.kO G.bO .nil pass0 (pa_cons (pv 1) (pa_cons pe_int pa_nil))) pa_nil))))
              (pss_one (ps_expr (pe_bm PySem.F.plainAttrs_list PySem.F.slot_list_append PySem.F.type_list_append mt_append (pv 3) (pa_cons (pe_call G.gW hr2 (by rfl) G.mW G.kW G.bW .nil pass0 (pa_cons (pv 1) pa_nil)) pa_nil)))))))))))
        (pss_cons (ps_set (i := 8) scL.nd rfl (.inl rfl) (pe_slice sl_list (pv 3) (po_some pe_int) po_none))
        (pss_one (ps_if (pt_not (pt_val (pe_call G.gS hr6 (by rfl) G.mS G.kS G.bS .nil pass0 (pa_cons (pe_call G.gT hr (by rfl) G.mT G.kT G.bT .nil pass0 (pa_cons (pe_ix ix_list (pv 3) pe_int (fun _ _ => rfl)) (pa_cons (pe_callTy call_list_of (by rfl) B.list (by decide +kernel) (pa_cons (pv 8) pa_nil)) pa_nil)))
            (pa_cons (pe_call G.gU hr (by rfl) G.mU G.kU G.bU .nil pass0 (pa_cons (pe_ix ix_list (pv 3) pe_int (fun _ _ => rfl)) (pa_cons (pv 8) pa_nil))) pa_nil))))) (pss_one (ps_ret pe_bl)) pss_nil))))))
      (pss_one (ps_ret pe_bl))), ?_⟩
    refine ⟨.ref a, rfl, a, ns, rfl, hS, hlen, fun p q H1 np nq P1 s1 => ?_⟩
    refine ⟨10, rfl, by decide, by decide, for_range (lo := 0) (n := 10) (fun i σ H2 => ∃ (n : Nat) (y2 y3 y4 y6 y7 y8 : Option V), σ = [some (.ref a), some (.ref p), y2, y3, y4, none, y6, y7, y8] ∧ n ≤ 8000 * i ∧ PoolAt H2 p q n)
      ⟨0, none, none, none, none, none, none, rfl, by omega, P1⟩ ?_ ?_⟩
    · rintro i σ H2 hi ⟨n, y2, y3, y4, y6, y7, y8, rfl, hn, P2⟩
      refine ⟨by show 0 ≤ sizeLine; decide, fun N nN => ?_⟩
      obtain ⟨op, ep⟩ := P2.p_some
      obtain ⟨oq, eq⟩ := P2.q_some
      have S0 : NmAt K (upd H2 N (.lst [])) p q N n [] [] := ⟨P2.new nN, upd_same, (ne_of_none ep nN).symm, (ne_of_none eq nN).symm, .nil, fun d h => by cases h⟩
      generalize upd H2 N (.lst []) = H3 at S0
      refine ⟨_, rfl, p, q, n, 7, rfl, S0.P, by omega, by decide, by decide, fun c H4 c0 c1 P4 K4 => ?_⟩
      have S4 := S0.keeps K4 P4
      have line40 : (100 : Int) ≤ 10 ^ 40 := by decide
      have e780 : obB 3 = 780 := rfl
      refine ⟨1, c, rfl, rfl, 1 + c, rfl, by omega, by omega, for_range (lo := 0) (n := (1 + c).toNat) (fun j σ H5 => ∃ (n' : Nat) (xs : List V) (ds : List PyData) (y4 y6 y7 : Option V), σ = [some (.ref a), some (.ref p), some (.int (0 + (i : Int))), some (.ref N), y4, none, y6, y7, y8] ∧ n' ≤ n + 1 + 1000 * j ∧ xs.length = j ∧ NmAt K H5 p q N n' xs ds)
        ⟨n + 1, [], [], y4, y6, y7, rfl, by omega, rfl, S4⟩ ?_ ?_⟩
      · rintro j σ H5 hj ⟨n', xs, ds, y4, y6, y7, rfl, hn', lx, S5⟩
        have hj7 : j < 8 := by omega
        have ld := dpAll_len S5.hd
        refine ⟨fun σ H6 => ∃ (O : Addr) (os : List Str), σ = [some (.ref a), some (.ref p), some (.int (0 + (i : Int))), some (.ref N), some (.int (0 + (j : Int))), none, some (.ref O), y7, y8] ∧ Same H5 H6 ∧ H6 O = some (.lst (os.map V.str)) ∧ (∀ x ∈ os, IsWord x) ∧ os.length ≤ 10 ∧ O ∉ [p, q, N], ?_, ?_⟩
        · refine ⟨_, rfl, 1, rfl, N, xs, rfl, SqL.of S5.hN, fun t nt => ?_⟩
          rw [show cutV xs (some 1) none = xs.drop 1 from cut_drop xs 1]
          have hT : SqL K (upd H5 t (.lst (xs.drop 1))) t (xs.drop 1) := SqL.of upd_same
          have eT : (upd H5 t (.lst (xs.drop 1))) t = some (.lst (xs.drop 1)) := upd_same
          have sT : Same H5 (upd H5 t (.lst (xs.drop 1))) := same_new nt
          generalize upd H5 t (.lst (xs.drop 1)) = H8 at hT sT eT
          have hall : DpAll K H8 (xs.drop 1) (ds.drop 1) := dpAll_drop 1 (dpAll_same ((mask_sub _ _).trans sT) _ _ S5.hd)
          have lall := dpAll_len hall
          refine ⟨t, rfl, ⟨_, hT⟩, fun D nD => ?_⟩
          have nDl := (S5.same sT).alive.not nD
          refine lc_list (K := K) (a := t) (xs := xs.drop 1) (fun i H9 => H9 D = some (.lst (sel nmD ((xs.drop 1).take i) ((ds.drop 1).take i))) ∧ Same H8 H9) ⟨upd_same, same_new nD⟩ (fun i H9 _ hI => SqL.of (hI.2 _ _ eT)) (fun i x H9 hx hI => ?_) (fun H9 hI => ?_)
          · obtain ⟨eD, s9⟩ := hI
            obtain ⟨dx, ed, hdx⟩ := dpAll_at (dpAll_same s9 _ _ hall) hx
            have hsx := S5.hs dx (List.mem_of_mem_drop (List.mem_of_getElem? ed))
            have et1 : (xs.drop 1).take (i + 1) = (xs.drop 1).take i ++ [x] := by rw [List.take_add_one, hx]; rfl
            have et2 : (ds.drop 1).take (i + 1) = (ds.drop 1).take i ++ [dx] := by rw [List.take_add_one, ed]; rfl
            have ls := sel_snoc nmD x dx (vs := (xs.drop 1).take i) (ds := (ds.drop 1).take i) (by rw [List.length_take, List.length_take, lall])
            refine ⟨rfl, ?_⟩
            refine ⟨_, rfl, x, dx, rfl, hdx, hsx, fun H10 s10 => ⟨_, rfl, ite2 (fun hb => ?_) (fun hb => ?_)⟩⟩
            · refine ⟨_, rfl, _, s10 _ _ eD, small1000 ?_, ?_, fun b o e0 => ?_⟩
              · have := sel_len nmD ((xs.drop 1).take i) ((ds.drop 1).take i)
                have h3 : ((xs.drop 1).take i).length ≤ xs.length := by rw [List.length_take, List.length_drop]; omega
                omega
              · rw [upd_same, et1, et2, ls, if_pos hb]
              · rw [upd_ne (ne_of_none e0 nD)]; exact s10 _ _ (s9 b o e0)
            · refine ⟨?_, s9.trans s10⟩
              rw [s10 _ _ eD, et1, et2, ls, if_neg hb, List.append_nil]
          · obtain ⟨eD, s9⟩ := hI
            rw [List.take_length, show (ds.drop 1).take (xs.drop 1).length = ds.drop 1 from List.take_of_length_le (by rw [lall]; exact Nat.le_refl _)] at eD
            obtain ⟨os, eo, wo, lo⟩ := sel_words hall
            rw [eo] at eD
            refine ⟨D, os, rfl, sT.trans s9, eD, wo, ?_, nDl⟩
            rw [List.length_drop] at lo
            omega
        rintro σ H6 ⟨O, os, rfl, s6, hO, wo, lo, nO⟩
        have S6 := S5.same s6
        have Op : O ≠ p := fun e => nO (by simp [e])
        have Oq : O ≠ q := fun e => nO (by simp [e])
        refine ⟨_, rfl, p, q, n', 9, rfl, S6.P, by omega, by decide, by decide, fun d7 H7 d70 d71 P7 K7 => ?_⟩
        have S7 := S6.keeps K7 P7
        have hO7 := K7 O _ Op Oq hO
        have word : ∀ (H8 : Hp) (n8 : Nat) (z : Str), NmAt K H8 p q N n8 xs ds → IsWord z → n8 ≤ n' + 1000 → ∃ (n' : Nat) (xs' : List V) (ds' : List PyData) (y4' y6' y7' : Option V), [some (.ref a), some (.ref p), some (.int (0 + (i : Int))), some (.ref N), some (.int (0 + (j : Int))), none, some (.ref O), some (.int d7), y8] = [some (.ref a), some (.ref p), some (.int (0 + (i : Int))), some (.ref N), y4', none, y6', y7', y8] ∧ n' ≤ n + 1 + 1000 * (j + 1) ∧ xs'.length = j + 1 ∧ NmAt K (upd H8 N (.lst (xs ++ [.str z]))) p q N n' xs' ds' :=
          fun H8 n8 z S8 wz h8 => ⟨n8, xs ++ [.str z], ds ++ [.str z], _, _, _, rfl, by omega, by rw [List.length_append, lx]; rfl, S8.add (.str z) (sm_word wz)⟩
        refine ⟨_, rfl, rfl, _, rfl, ite2 (fun h0 => ?_) (fun h0 => ?_)⟩
        · refine ⟨_, rfl, _, .inl ⟨_, SqL.of hO7, rfl⟩, ?_⟩
          by_cases he : os = []
          · subst he
            refine iteF ?_
            refine ⟨_, rfl, rfl, _, rfl, ite2 (fun h5 => ?_) (fun h5 => ?_)⟩
            · refine ⟨_, rfl, .inl ⟨rfl, _, SqL.of S7.hN⟩, _, rfl, p, q, n' + 1, [p, q, N], rfl, by decide, by decide, S7.P, by simp, by simp, S7.alive, by omega, fun v d n8 H8 hv hd a8 b8 P8 K8 => ?_⟩
              have S8 := S7.keeps K8 P8
              refine ⟨N, _, _, rfl, rfl, S8.hN, small1000 (by omega), ?_⟩
              exact ⟨n8, xs ++ [v], ds ++ [d], _, _, _, rfl, by omega, by rw [List.length_append, lx]; rfl, S8.add hv hd⟩
            · refine ⟨_, rfl, .inl ⟨rfl, _, SqL.of S7.hN⟩, _, rfl, p, q, n' + 1, rfl, S7.P, by omega, fun z n8 H8 wz a8 b8 P8 K8 => ?_⟩
              have S8 := S7.keeps K8 P8
              exact ⟨N, _, _, rfl, rfl, S8.hN, small1000 (by omega), word _ _ z S8 wz (by omega)⟩
          · have e : (!((os.map V.str).isEmpty)) = true := by
              cases os with
              | nil => exact absurd rfl he
              | cons x r => rfl
            rw [e]
            refine iteT ?_
            have l0 : 0 < os.length := List.length_pos_iff.mpr he
            refine ⟨_, rfl, .inl ⟨rfl, _, SqL.of S7.hN⟩, _, rfl, _, rfl, _, rfl, O, _, rfl, .inl (SqL.of hO7), p, q, n' + 1, _, rfl, S7.P, by omega, by rw [List.length_map]; omega, by
              rw [List.length_map]
              exact Int.le_trans (by omega) line40, fun d8 H8 d80 d81 P8 K8 => ?_⟩
            have S8 := S7.keeps K8 P8
            have hO8 := K8 O _ Op Oq hO7
            obtain ⟨k, rfl⟩ : ∃ k : Nat, d8 = (k : Int) := ⟨d8.toNat, by omega⟩
            rw [List.length_map] at d81
            have hk : k < os.length := by omega
            refine ⟨O, _, _, _, rfl, rfl, SqL.of hO8, atI_nat (by rw [List.getElem?_map, List.getElem?_eq_getElem hk]; rfl), ?_⟩
            exact ⟨N, _, _, rfl, rfl, S8.hN, small1000 (by omega), word _ _ _ S8 (wo _ (List.getElem_mem hk)) (by omega)⟩
        · refine iteF ?_
          refine ⟨_, rfl, rfl, _, rfl, ite2 (fun h5 => ?_) (fun h5 => ?_)⟩
          · refine ⟨_, rfl, .inl ⟨rfl, _, SqL.of S7.hN⟩, _, rfl, p, q, n' + 1, [p, q, N], rfl, by decide, by decide, S7.P, by simp, by simp, S7.alive, by omega, fun v d n8 H8 hv hd a8 b8 P8 K8 => ?_⟩
            have S8 := S7.keeps K8 P8
            refine ⟨N, _, _, rfl, rfl, S8.hN, small1000 (by omega), ?_⟩
            exact ⟨n8, xs ++ [v], ds ++ [d], _, _, _, rfl, by omega, by rw [List.length_append, lx]; rfl, S8.add hv hd⟩
          · refine ⟨_, rfl, .inl ⟨rfl, _, SqL.of S7.hN⟩, _, rfl, p, q, n' + 1, rfl, S7.P, by omega, fun z n8 H8 wz a8 b8 P8 K8 => ?_⟩
            have S8 := S7.keeps K8 P8
            exact ⟨N, _, _, rfl, rfl, S8.hN, small1000 (by omega), word _ _ z S8 wz (by omega)⟩
      · rintro σ H5 ⟨n', xs, ds, y4, y6, y7, rfl, hn', lx, S5⟩
        obtain ⟨v, ks, rfl⟩ : ∃ v ks, xs = v :: ks := by
          cases xs with
          | nil => simp at lx; omega
          | cons v ks => exact ⟨v, ks, rfl⟩
        have lk : ks.length ≤ 6 := by simp only [List.length_cons] at lx; omega
        refine ⟨_, rfl, 1, rfl, N, _, rfl, SqL.of S5.hN, fun t nt => ?_⟩
        rw [cut_tail]
        have eT : (upd H5 t (.lst ks)) t = some (.lst ks) := upd_same
        have S6 := S5.same (same_new (o := .lst ks) nt)
        generalize upd H5 t (.lst ks) = H6 at S6 eT
        obtain ⟨d, es, rfl⟩ : ∃ d es, ds = d :: es := by
          have := dpAll_len S6.hd
          cases ds with
          | nil => simp at this
          | cons d es => exact ⟨d, es, rfl⟩
        have hall := dpAll_same (mask_sub _ _) _ _ S6.hd
        obtain ⟨hv, hes⟩ : Dp K H6 v d ∧ DpAll K H6 ks es := by
          cases hall with
          | cons h r => exact ⟨h, r⟩
        have hsd := S6.hs d List.mem_cons_self
        have hsm : ∀ x ∈ es, sm 3 x := fun x hx => S6.hs x (List.mem_cons_of_mem _ hx)
        obtain ⟨D, sD, all⟩ := conts_all hv hes hsd hsm
        refine ⟨_, rfl, N, _, 0, v, rfl, rfl, SqL.of S6.hN, atI_nat (j := 0) rfl, _, rfl, t, ks, rfl, .inl (SqL.of eT), fun l nl => ?_⟩
        have s7 := same_new (o := .lst ks) nl
        refine ltry_of (SqL.of upd_same) lk (dp_same s7 _ _ hv) (dpAll_same s7 _ _ hes) hsd hsm (all _ s7 _ fun r1 H8 s8 e1 => ?_)
        have s78 := s7.trans s8
        refine ⟨_, rfl, N, _, 0, v, rfl, rfl, SqL.of (s78 _ _ S6.hN), atI_nat (j := 0) rfl, _, rfl, ?_⟩
        refine ldue_of (s78 _ _ eT) lk (dp_same s78 _ _ hv) (dpAll_same s78 _ _ hes) hsd hsm (all _ s78 _ fun r2 H9 s9 e2 => ?_)
        refine ⟨r1, r2, D, rfl, dp_same s9 _ _ e1, e2, dp_mono (by decide) (sm_dp 4 D sD), _, rfl, iteF ?_⟩
        exact ⟨n', _, _, _, _, _, _, rfl, by omega, (S6.same (s78.trans s9)).P⟩
    · rintro σ H2 ⟨n, y2, y3, y4, y6, y7, y8, rfl, hn, P2⟩
      exact kk _
end
/-! ### what the top says of Thing -/
def SmAll (K : PySem.W.Frag) (C : Addr) (m qual : Str) (i : Nat) : Prop := ∃ p g fd, SMet K C m p g ∧ Fun K m qual (me i) g fd
theorem sm_in {K : PySem.W.Frag} {C p g : Addr} {m qual : Str} {i : Nat} {rest : List Value} {oc : Value} {od an : Option Addr} {osl : Array (Option Value)} {kV doc pm cdv ct : Value}
    (at_ : PySem.W.findCls K (.ref C) (.type "type") m = some (.get (.builtin "staticmethod.__get__") (.ref p) .none (.ref C))) (rc : PySem.W.recIn K p "staticmethod" = some (.ref g :: rest)) (kp : PySem.W.keepIn K (.ref g) = true)
    (l : K.lookup g = some ⟨oc, od, .func (PySem.W.fnOf m qual (defArgs (me i)) (defBody (me i)) (defScope (me i)) .none kV doc pm an cdv ct), osl⟩) (c : PySem.W.codeIn K cdv qual = true) : SmAll K C m qual i :=
  ⟨p, g, _, ⟨at_, ⟨rest, rc⟩, kp⟩, fun_mk l c kp⟩
def MeAll (K : PySem.W.Frag) (C : Addr) (m qual : Str) (i : Nat) : Prop := ∃ g fd, PySem.W.findIn K (.ref C) m = some (some (.ref g)) ∧ PySem.W.isFn K (.ref g) = true ∧ Fun K m qual (me i) g fd
theorem me_in {K : PySem.W.Frag} {C g : Addr} {m qual : Str} {i : Nat} {oc : Value} {od an : Option Addr} {osl : Array (Option Value)} {kV doc pm cdv ct : Value}
    (at_ : PySem.W.findIn K (.ref C) m = some (some (.ref g))) (fn : PySem.W.isFn K (.ref g) = true) (kp : PySem.W.keepIn K (.ref g) = true)
    (l : K.lookup g = some ⟨oc, od, .func (PySem.W.fnOf m qual (defArgs (me i)) (defBody (me i)) (defScope (me i)) .none kV doc pm an cdv ct), osl⟩) (c : PySem.W.codeIn K cdv qual = true) : MeAll K C m qual i :=
  ⟨g, _, at_, fn, fun_mk l c kp⟩
theorem mg_int {K : PySem.W.Frag} {h : Heap} {mg : Str → Option Value} {n : Str} {i : Int} {tk : Tok} (X : K.In h) (G : h.Ns mainGlobals mg) (e : PySem.W.nsIn K mainGlobals n = some (some (.int i tk))) : ∃ tk, mg n = some (.int i tk) := ⟨tk, PySem.W.mg_of X G e⟩
structure ThAll (K : PySem.W.Frag) (mg : Str → Option Value) (C : Addr) : Prop where
  T : ThIn K mg C
  mkC : PySem.W.makesIn K C = true
  kpC : PySem.W.keepIn K (.ref C) = true
  ini : MeAll K C "__init__" "Thing.__init__" 1
  feed : SmAll K C "feed" "Thing.feed" 2
  dice : SmAll K C "dice" "Thing.dice" 3
  table : SmAll K C "table" "Thing.table" 4
  source : SmAll K C "source" "Thing.source" 5
  field : SmAll K C "field" "Thing.field" 6
  flag : SmAll K C "flag" "Thing.flag" 7
  slot : SmAll K C "slot" "Thing.slot" 8
  eq : MeAll K C "__eq__" "Thing.__eq__" 9
  str : MeAll K C "__str__" "Thing.__str__" 10
theorem th_in {K : PySem.W.Frag} {h : Heap} {mg : Str → Option Value} {C : Addr} (X : K.In h) (G : h.Ns mainGlobals mg) (a : PySem.W.nsIn K mainGlobals "Thing" = some (some (.ref C)))
    (pg : PySem.W.plainGet K C Str.empty = true) (hd : PySem.W.hasDictIn K C = true) (po : PySem.W.plainOver K C = true) (sa : PySem.W.findIn K (.ref C) "__setattr__" = some (some (.builtin "object.__setattr__")))
    (nk : PySem.W.findIn K (.ref C) "kind" = some none) (nn : PySem.W.findIn K (.ref C) "name" = some none) (np : PySem.W.findIn K (.ref C) "parts" = some none)
    (rd : PySem.W.readsIn K C (.type "type") = true) (ga : PySem.W.specialIn K (.ref C) "__getattribute__" = some (some (.builtin "type.__getattribute__")))
    (ca : PySem.W.findIn K (.ref C) "__class__" = some (some (.builtin "object.__class__"))) (cn : PySem.W.specialIn K (.builtin "object.__class__") "__get__" = some (some (.builtin "getset_descriptor.__get__"))) (ct : PySem.W.takesIn K (.builtin "object.__class__") = some true) (cm : PySem.W.mroIn K C (.type "object") = some true)
    (mk : PySem.W.makesIn K C = true) (kp : PySem.W.keepIn K (.ref C) = true)
    (ini : MeAll K C "__init__" "Thing.__init__" 1) (m1 : SmAll K C "feed" "Thing.feed" 2) (m2 : SmAll K C "dice" "Thing.dice" 3) (m3 : SmAll K C "table" "Thing.table" 4) (m4 : SmAll K C "source" "Thing.source" 5) (m5 : SmAll K C "field" "Thing.field" 6) (m6 : SmAll K C "flag" "Thing.flag" 7) (m7 : SmAll K C "slot" "Thing.slot" 8)
    (eq : MeAll K C "__eq__" "Thing.__eq__" 9) (str : MeAll K C "__str__" "Thing.__str__" 10) : ∃ C, ThAll K mg C :=
  ⟨C, ⟨PySem.W.mg_of X G a, ⟨pg, hd, po, sa⟩, nk, nn, np, ⟨rd, ga⟩, ca, cn, ct, cm⟩, mk, kp, ini, m1, m2, m3, m4, m5, m6, m7, eq, str⟩
theorem rais_in_top {P : Program} {K : PySem.W.Frag} {h : Heap} {mg : Str → Option Value} {n x nm q nmq qq qual txt : Str} {C QE N NQ fI cc cda : Addr} {bs bm bsq bmq : List Value} {sn snq : List Str} {sub subq : List Value} {ab abq : Bool} {col colq : Option Bool} {dd ddq : Option Addr} {k0 k1 k2 k3 k5 j0 j1 j2 j3 j5 : Option Value}
    {oc ct doc pm ccl cl : Value} {od an cdd cld : Option Addr} {osl csl ccs : Array (Option Value)} {vs : Array Value} {file : Str} {tf : Tok} {j : Nat} {mr : List (Str × Const)} {r1 r2 p0 p1 p2 p3 p4 p5 p6 p7 p8 q1 q2 q3 q4 : Pos} (X : K.In h) (G : h.Ns mainGlobals mg)
    (a1 : PySem.W.nsIn K mainGlobals n = some (some (.ref C))) (a2 : PySem.W.nsIn K mainGlobals "QuietError" = some (some (.ref QE))) (a3 : PySem.W.nsIn K mainGlobals "super" = some none)
    (l1 : K.lookup C = some (excClassObj nm q C N bs bm true sn sub ab col dd k0 k1 k2 k3 k5 "ValueError.__new__")) (l2 : K.lookup QE = some (excClassObj nmq qq QE NQ bsq bmq true snq subq abq colq ddq j0 j1 j2 j3 j5 "ValueError.__new__"))
    (b0 : bm = [.ref QE, .type "ValueError", .type "Exception", .type "BaseException", .type "object"]) (b1 : nm = n) (b2 : nmq = "QuietError")
    (iC : PySem.W.findIn K (.ref C) "__init__" = some (some (.ref fI)))
    (lf : K.lookup fI = some ⟨oc, od, .func (PySem.W.ksFn "__init__" qual (eArgs x r1 r2) (eBody x txt j p0 p1 p2 p3 p4 p5 p6 p7 p8 q1 q2 q3 q4) (eScope x mr) .none .none doc pm an (.ref cda) ct cc), osl⟩)
    (lc : K.lookup cda = some ⟨ccl, cdd, .fields vs, ccs⟩) (lcc : K.lookup cc = some ⟨cl, cld, .cell (some (.ref C)), csl⟩)
    (sa : PySem.W.findIn K (.ref C) "__setattr__" = some (some (.builtin "object.__setattr__"))) (exC : PySem.W.subIn K (.ref C) (.type "BaseException") = some true) (tyC : PySem.W.typeIn K (.ref C) = some (.type "type")) (kC : PySem.W.keepIn K (.ref C) = true)
    (noX : PySem.W.findIn K (.ref C) x = some none) (tI : PySem.W.typeIn K (.ref fI) = some (.type "function")) (cd : PySem.W.codeIn K (.ref cda) qual = true) (subC : PySem.W.mroIn K C (.ref C) = some true)
    (opq : PySem.W.nsIn K cStatics "thirdparty.any" = some none) (up : PySem.W.ks_superIn K C C "__init__" = some (some (.builtin "ValueError.__init__"))) (subV : PySem.W.subIn K (.ref C) (.type "ValueError") = some true)
    (ga : PySem.W.findIn K (.ref C) "__getattribute__" = some (some (.builtin "BaseException.__getattribute__"))) (gg : PySem.W.findIn K (.ref C) "__getattr__" = some none) (hdC : PySem.W.hasDictIn K C = true)
    (ha : PySem.W.findIn K (.ref C) "__class__" = some (some (.builtin "object.__class__"))) (hn : PySem.W.specialIn K (.builtin "object.__class__") "__get__" = some (some (.builtin "getset_descriptor.__get__"))) (htk : PySem.W.takesIn K (.builtin "object.__class__") = some true) (hm : PySem.W.mroIn K C (.type "object") = some true)
    (tyQ : PySem.W.typeIn K (.ref QE) = some (.type "type"))
    (v2 : vs[2]? = some (.str file tf)) (fl : ((P.main.file : Str) == file) = true) (tl : txt.length ≤ 1000) (ev : SupEv x txt j p0 p1 p2 p3 p4 p5 p6 p7) (top : (P.main.scope.names.lookup ("super" : Str)).isSome = false) (nx : NmOk x)
    (bd : ∀ us : List Value, us.length = 2 → bindArgs (PySem.W.ksFn "__init__" qual (eArgs x r1 r2) (eBody x txt j p0 p1 p2 p3 p4 p5 p6 p7 p8 q1 q2 q3 q4) (eScope x mr) .none .none doc pm an (.ref cda) ct cc) ⟨us, []⟩ = pure ([("self" : Str), x].zip us)) :
    ∃ C fI cc fd, RaisC P K mg n x C fI cc fd ∧ XfC K C := by
  subst b0 b1
  have hcl : PySem.W.clsIn K C = some { name := nm, bases := bs, mro := .ref C :: [.ref QE, .type "ValueError", .type "Exception", .type "BaseException", .type "object"], ns := N, qualname := q, hasDict := true, slotNames := sn, subclasses := sub, abstract := ab, collection := col, hasDel := false } := by unfold PySem.W.clsIn; rw [l1] <;> rfl
  have bdd : Binds K (PySem.W.ksFn "__init__" qual (eArgs x r1 r2) (eBody x txt j p0 p1 p2 p3 p4 p5 p6 p7 p8 q1 q2 q3 q4) (eScope x mr) .none .none doc pm an (.ref cda) ct cc) ["self", x] [] := .all bd
  have mC := PySem.W.mg_of X G a1
  refine ⟨C, fI, cc, _, ⟨nx, ?_, bdd⟩, ⟨ga, gg, exC, hdC⟩⟩
  exact ⟨mC, ⟨⟨_, _, _, _, _, _, _, _, _, _, _, _, _, _, _, l1, by rfl⟩, sa, exC, tyC, kC⟩, noX, iC, tI, ⟨_, _, _, _, _, _, _, _, _, _, _, _, _, _, _, _, _, _, _, _, _, _, _, _, _, _, _, rfl, lf, cd, tl, ev, _, _, _, _, _, _, lc, v2, fl⟩, ⟨_, _, _, lcc⟩, ⟨_, hcl⟩, subC, PySem.W.mg_none_of X G a3, top, opq, up, subV⟩
/-! ### what the top has written -/
structure FunIn (K : PySem.W.Frag) (mg : Str → Option Value) (x : Str) (st : Stmt) (f : Addr) (fd : FuncData) : Prop where
  F : Fun K x x st f fd
  m : mg x = some (.ref f)
theorem fun_in {K : PySem.W.Frag} {h : Heap} {mg : Str → Option Value} {x : Str} {st : Stmt} {f : Addr} {oc : Value} {od an : Option Addr} {osl : Array (Option Value)} {kV doc pm cdv ct : Value} (X : K.In h) (G : h.Ns mainGlobals mg)
    (a : PySem.W.nsIn K mainGlobals x = some (some (.ref f))) (l : K.lookup f = some ⟨oc, od, .func (PySem.W.fnOf x x (defArgs st) (defBody st) (defScope st) .none kV doc pm an cdv ct), osl⟩)
    (c : PySem.W.codeIn K cdv x = true) (k : PySem.W.keepIn K (.ref f) = true) : ∃ f fd, FunIn K mg x st f fd :=
  ⟨f, _, fun_mk l c k, PySem.W.mg_of X G a⟩
theorem bts_in {K : PySem.W.Frag} {h : Heap} {mg : Str → Option Value} (X : K.In h) (G : h.Ns mainGlobals mg) (z1 : PySem.W.nsIn K mainGlobals "isinstance" = some none) (z2 : PySem.W.nsIn K mainGlobals "bool" = some none) (z3 : PySem.W.nsIn K mainGlobals "str" = some none)
    (z4 : PySem.W.nsIn K mainGlobals "int" = some none) (z5 : PySem.W.nsIn K mainGlobals "list" = some none) (z6 : PySem.W.nsIn K mainGlobals "tuple" = some none) (z7 : PySem.W.nsIn K mainGlobals "len" = some none) (z8 : PySem.W.nsIn K mainGlobals "range" = some none) : Bts mg :=
  ⟨PySem.W.mg_none_of X G z1, PySem.W.mg_none_of X G z2, PySem.W.mg_none_of X G z3, PySem.W.mg_none_of X G z4, PySem.W.mg_none_of X G z5, PySem.W.mg_none_of X G z6, PySem.W.mg_none_of X G z7, PySem.W.mg_none_of X G z8⟩
theorem subs_in {K : PySem.W.Frag} {h : Heap} {mg : Str → Option Value} {A B D : Addr} (X : K.In h) (G : h.Ns mainGlobals mg) (a : PySem.W.nsIn K mainGlobals "BadName" = some (some (.ref A))) (b : PySem.W.nsIn K mainGlobals "Twice" = some (some (.ref B))) (c : PySem.W.nsIn K mainGlobals "TooMany" = some (some (.ref D)))
    (n1 : PySem.W.subIn K (.ref B) (.ref A) = some false) (n2 : PySem.W.subIn K (.ref D) (.ref A) = some false) (n3 : PySem.W.subIn K (.ref D) (.ref B) = some false) :
    ∃ A B D, mg "BadName" = some (.ref A) ∧ mg "Twice" = some (.ref B) ∧ mg "TooMany" = some (.ref D) ∧ PySem.W.subIn K (.ref B) (.ref A) = some false ∧ PySem.W.subIn K (.ref D) (.ref A) = some false ∧ PySem.W.subIn K (.ref D) (.ref B) = some false :=
  ⟨A, B, D, PySem.W.mg_of X G a, PySem.W.mg_of X G b, PySem.W.mg_of X G c, n1, n2, n3⟩
end Qp
open PySem PySem.W PyProof.Rows
set_option maxRecDepth 100000 in
set_option maxHeartbeats 0 in
theorem PySem.Challenge.cw_quietprobes_k02_tables_and_their_keys_holds : PySem.Challenge.rw_quietprobes_k02_tables_and_their_keys.Holds := by
  w_on; o_law; k_head; (case hw => w_witness2)
  k_fill
  refine L2.walk_of (l := PySem.Challenge.rw_quietprobes_k02_tables_and_their_keys) (n := 63) (k := 9) (x := "script") (CX := fun _ => L2.CX0) (sp := fun w => Qp.spLaw _) rfl (by decide) rfl ⟨rfl, by decide, by decide⟩ (fun w h Y => PySem.W.kIn_of Y) ?F (fun _ _ a ns hl _ hS => ⟨a, ns, rfl, hS, hl, fun _ => rfl⟩) (fun _ _ _ _ _ h => h)
  case F =>
    intro w mg fa h KX G hmg
    obtain ⟨f1, fd1, F1⟩ : ∃ f fd, Qp.FunIn _ mg "_law_pool" Qp.sPool f fd := by
      refine' Qp.fun_in KX G ?a ?l ?c ?k
      (case a => k_is); (case l => k_is); (case c => k_is); (case k => k_is)
    obtain ⟨f2, fd2, F2⟩ : ∃ f fd, Qp.FunIn _ mg "_law_draw" Qp.sDraw f fd := by
      refine' Qp.fun_in KX G ?a ?l ?c ?k
      (case a => k_is); (case l => k_is); (case c => k_is); (case k => k_is)
    obtain ⟨f3, fd3, F3⟩ : ∃ f fd, Qp.FunIn _ mg "_law_word" Qp.sWord f fd := by
      refine' Qp.fun_in KX G ?a ?l ?c ?k
      (case a => k_is); (case l => k_is); (case c => k_is); (case k => k_is)
    obtain ⟨f4, fd4, F4⟩ : ∃ f fd, Qp.FunIn _ mg "_law_object" Qp.sObj f fd := by
      refine' Qp.fun_in KX G ?a ?l ?c ?k
      (case a => k_is); (case l => k_is); (case c => k_is); (case k => k_is)
    obtain ⟨f5, fd5, F5⟩ : ∃ f fd, Qp.FunIn _ mg "_law_same" Qp.sSame f fd := by
      refine' Qp.fun_in KX G ?a ?l ?c ?k
      (case a => k_is); (case l => k_is); (case c => k_is); (case k => k_is)
    obtain ⟨f6, fd6, F6⟩ : ∃ f fd, Qp.FunIn _ mg "is_name" Qp.sIsName f fd := by
      refine' Qp.fun_in KX G ?a ?l ?c ?k
      (case a => k_is); (case l => k_is); (case c => k_is); (case k => k_is)
    obtain ⟨f7, fd7, F7⟩ : ∃ f fd, Qp.FunIn _ mg "check_names" Qp.sNames f fd := by
      refine' Qp.fun_in KX G ?a ?l ?c ?k
      (case a => k_is); (case l => k_is); (case c => k_is); (case k => k_is)
    obtain ⟨f8, fd8, F8⟩ : ∃ f fd, Qp.FunIn _ mg "check_unlike" Qp.sUnlike f fd := by
      refine' Qp.fun_in KX G ?a ?l ?c ?k
      (case a => k_is); (case l => k_is); (case c => k_is); (case k => k_is)
    obtain ⟨f9, fd9, F9⟩ : ∃ f fd, Qp.FunIn _ mg "_law_is_name" Qp.sLIN f fd := by
      refine' Qp.fun_in KX G ?a ?l ?c ?k
      (case a => k_is); (case l => k_is); (case c => k_is); (case k => k_is)
    obtain ⟨f10, fd10, F10⟩ : ∃ f fd, Qp.FunIn _ mg "_law_call" Qp.sCall f fd := by
      refine' Qp.fun_in KX G ?a ?l ?c ?k
      (case a => k_is); (case l => k_is); (case c => k_is); (case k => k_is)
    obtain ⟨f11, fd11, F11⟩ : ∃ f fd, Qp.FunIn _ mg "_law_try" Qp.sTry f fd := by
      refine' Qp.fun_in KX G ?a ?l ?c ?k
      (case a => k_is); (case l => k_is); (case c => k_is); (case k => k_is)
    obtain ⟨f12, fd12, F12⟩ : ∃ f fd, Qp.FunIn _ mg "_law_due" Qp.sDue f fd := by
      refine' Qp.fun_in KX G ?a ?l ?c ?k
      (case a => k_is); (case l => k_is); (case c => k_is); (case k => k_is)
    obtain ⟨f13, fd13, F13⟩ : ∃ f fd, Qp.FunIn _ mg "law" Qp.sLaw f fd := by
      refine' Qp.fun_in KX G ?a ?l ?c ?k
      (case a => k_is); (case l => k_is); (case c => k_is); (case k => k_is)
    have B : Qp.Bts mg := by
      refine' Qp.bts_in KX G ?z1 ?z2 ?z3 ?z4 ?z5 ?z6 ?z7 ?z8
      (case z1 => k_is); (case z2 => k_is); (case z3 => k_is); (case z4 => k_is); (case z5 => k_is); (case z6 => k_is); (case z7 => k_is); (case z8 => k_is)
    obtain ⟨tk1, mL⟩ : ∃ tk, mg "LONGEST_NAME" = some (.int 8 tk) := by
      refine' Qp.mg_int KX G ?zL
      (case zL => k_is)
    have mEn : mg "enumerate" = none := by
      refine' PySem.W.mg_none_of KX G ?zE
      (case zE => k_is)
    obtain ⟨tk2, mM⟩ : ∃ tk, mg "MOST_KEYS" = some (.int 4 tk) := by
      refine' Qp.mg_int KX G ?zM
      (case zM => k_is)
    obtain ⟨C, T⟩ : ∃ C, Qp.ThAll _ mg C := by
      refine' Qp.th_in KX G ?th_a ?th_pg ?th_hd ?th_po ?th_sa ?th_nk ?th_nn ?th_np ?th_rd ?th_ga ?th_ca ?th_cn ?th_ct ?th_cm ?th_mk ?th_kp ?th_ini ?th_m1 ?th_m2 ?th_m3 ?th_m4 ?th_m5 ?th_m6 ?th_m7 ?th_eq ?th_str
      (case th_a => k_is)
      (case th_pg => k_is)
      (case th_hd => k_is)
      (case th_po => k_is)
      (case th_sa => k_is)
      (case th_nk => k_is)
      (case th_nn => k_is)
      (case th_np => k_is)
      (case th_rd => k_is)
      (case th_ga => k_is)
      (case th_ca => k_is)
      (case th_cn => k_is)
      (case th_ct => k_is)
      (case th_cm => k_is)
      (case th_mk => k_is)
      (case th_kp => k_is)
      (case th_ini => (refine' Qp.me_in ?a_tini ?f_tini ?k_tini ?l_tini ?c_tini; (case a_tini => k_is); (case f_tini => k_is); (case k_tini => k_is); (case l_tini => k_is); (case c_tini => k_is)))
      (case th_m1 => (refine' Qp.sm_in ?a_tm1 ?r_tm1 ?k_tm1 ?l_tm1 ?c_tm1; (case a_tm1 => k_is); (case r_tm1 => k_is); (case k_tm1 => k_is); (case l_tm1 => k_is); (case c_tm1 => k_is)))
      (case th_m2 => (refine' Qp.sm_in ?a_tm2 ?r_tm2 ?k_tm2 ?l_tm2 ?c_tm2; (case a_tm2 => k_is); (case r_tm2 => k_is); (case k_tm2 => k_is); (case l_tm2 => k_is); (case c_tm2 => k_is)))
      (case th_m3 => (refine' Qp.sm_in ?a_tm3 ?r_tm3 ?k_tm3 ?l_tm3 ?c_tm3; (case a_tm3 => k_is); (case r_tm3 => k_is); (case k_tm3 => k_is); (case l_tm3 => k_is); (case c_tm3 => k_is)))
      (case th_m4 => (refine' Qp.sm_in ?a_tm4 ?r_tm4 ?k_tm4 ?l_tm4 ?c_tm4; (case a_tm4 => k_is); (case r_tm4 => k_is); (case k_tm4 => k_is); (case l_tm4 => k_is); (case c_tm4 => k_is)))
      (case th_m5 => (refine' Qp.sm_in ?a_tm5 ?r_tm5 ?k_tm5 ?l_tm5 ?c_tm5; (case a_tm5 => k_is); (case r_tm5 => k_is); (case k_tm5 => k_is); (case l_tm5 => k_is); (case c_tm5 => k_is)))
      (case th_m6 => (refine' Qp.sm_in ?a_tm6 ?r_tm6 ?k_tm6 ?l_tm6 ?c_tm6; (case a_tm6 => k_is); (case r_tm6 => k_is); (case k_tm6 => k_is); (case l_tm6 => k_is); (case c_tm6 => k_is)))
      (case th_m7 => (refine' Qp.sm_in ?a_tm7 ?r_tm7 ?k_tm7 ?l_tm7 ?c_tm7; (case a_tm7 => k_is); (case r_tm7 => k_is); (case k_tm7 => k_is); (case l_tm7 => k_is); (case c_tm7 => k_is)))
      (case th_eq => (refine' Qp.me_in ?a_teq ?f_teq ?k_teq ?l_teq ?c_teq; (case a_teq => k_is); (case f_teq => k_is); (case k_teq => k_is); (case l_teq => k_is); (case c_teq => k_is)))
      (case th_str => (refine' Qp.me_in ?a_tstr ?f_tstr ?k_tstr ?l_tstr ?c_tstr; (case a_tstr => k_is); (case f_tstr => k_is); (case k_tstr => k_is); (case l_tstr => k_is); (case c_tstr => k_is)))
    obtain ⟨BN1, fB1, cB1, dB1, RB1, xB1⟩ : ∃ C fI cc fd, Qp.RaisC PySem.Challenge.rw_quietprobes_k02_tables_and_their_keys.prog _ mg "BadName" "name" C fI cc fd ∧ L2.XfC _ C := by
      refine' Qp.rais_in_top KX G ?a1 ?a2 ?a3 ?l1 ?l2 ?b0 ?b1 ?b2 ?iC ?lf ?lc ?lcc ?sa ?exC ?tyC ?kC ?noX ?tI ?cd ?subC ?opq ?up ?subV ?ga ?gg ?hdC ?ha ?hn ?htk ?hm ?tyQ ?v2 ?fl ?tl ?ev ?top ?nx ?bd
      (case a1 => k_is); (case a2 => k_is); (case a3 => k_is); (case l1 => k_is); (case l2 => k_is); (case b0 => exact rfl); (case b1 => exact rfl); (case b2 => exact rfl); (case iC => k_is); (case lf => k_is); (case lc => k_is); (case lcc => k_is)
      (case sa => k_is); (case exC => k_is); (case tyC => k_is); (case kC => k_is); (case noX => k_is); (case tI => k_is); (case cd => k_is); (case subC => k_is); (case opq => k_is); (case up => ks_is); (case subV => k_is); (case ga => k_is); (case gg => k_is); (case hdC => k_is); (case ha => k_is); (case hn => k_is); (case htk => k_is); (case hm => k_is); (case tyQ => k_is)
      (case v2 => exact rfl); (case fl => exact rfl); (case tl => decide +kernel); (case ev => exact fun env => ⟨_, rfl⟩); (case top => exact rfl); (case nx => exact ⟨by decide, by decide, by decide, by decide, by decide⟩); (case bd => exact fun us hl => match us, hl with | [_, _], _ => rfl)
    obtain ⟨BN2, fB2, cB2, dB2, RB2, xB2⟩ : ∃ C fI cc fd, Qp.RaisC PySem.Challenge.rw_quietprobes_k02_tables_and_their_keys.prog _ mg "Twice" "name" C fI cc fd ∧ L2.XfC _ C := by
      refine' Qp.rais_in_top KX G ?a1 ?a2 ?a3 ?l1 ?l2 ?b0 ?b1 ?b2 ?iC ?lf ?lc ?lcc ?sa ?exC ?tyC ?kC ?noX ?tI ?cd ?subC ?opq ?up ?subV ?ga ?gg ?hdC ?ha ?hn ?htk ?hm ?tyQ ?v2 ?fl ?tl ?ev ?top ?nx ?bd
      (case a1 => k_is); (case a2 => k_is); (case a3 => k_is); (case l1 => k_is); (case l2 => k_is); (case b0 => exact rfl); (case b1 => exact rfl); (case b2 => exact rfl); (case iC => k_is); (case lf => k_is); (case lc => k_is); (case lcc => k_is)
      (case sa => k_is); (case exC => k_is); (case tyC => k_is); (case kC => k_is); (case noX => k_is); (case tI => k_is); (case cd => k_is); (case subC => k_is); (case opq => k_is); (case up => ks_is); (case subV => k_is); (case ga => k_is); (case gg => k_is); (case hdC => k_is); (case ha => k_is); (case hn => k_is); (case htk => k_is); (case hm => k_is); (case tyQ => k_is)
      (case v2 => exact rfl); (case fl => exact rfl); (case tl => decide +kernel); (case ev => exact fun env => ⟨_, rfl⟩); (case top => exact rfl); (case nx => exact ⟨by decide, by decide, by decide, by decide, by decide⟩); (case bd => exact fun us hl => match us, hl with | [_, _], _ => rfl)
    obtain ⟨BN3, fB3, cB3, dB3, RB3, xB3⟩ : ∃ C fI cc fd, Qp.RaisC PySem.Challenge.rw_quietprobes_k02_tables_and_their_keys.prog _ mg "TooMany" "limit" C fI cc fd ∧ L2.XfC _ C := by
      refine' Qp.rais_in_top KX G ?a1 ?a2 ?a3 ?l1 ?l2 ?b0 ?b1 ?b2 ?iC ?lf ?lc ?lcc ?sa ?exC ?tyC ?kC ?noX ?tI ?cd ?subC ?opq ?up ?subV ?ga ?gg ?hdC ?ha ?hn ?htk ?hm ?tyQ ?v2 ?fl ?tl ?ev ?top ?nx ?bd
      (case a1 => k_is); (case a2 => k_is); (case a3 => k_is); (case l1 => k_is); (case l2 => k_is); (case b0 => exact rfl); (case b1 => exact rfl); (case b2 => exact rfl); (case iC => k_is); (case lf => k_is); (case lc => k_is); (case lcc => k_is)
      (case sa => k_is); (case exC => k_is); (case tyC => k_is); (case kC => k_is); (case noX => k_is); (case tI => k_is); (case cd => k_is); (case subC => k_is); (case opq => k_is); (case up => ks_is); (case subV => k_is); (case ga => k_is); (case gg => k_is); (case hdC => k_is); (case ha => k_is); (case hn => k_is); (case htk => k_is); (case hm => k_is); (case tyQ => k_is)
      (case v2 => exact rfl); (case fl => exact rfl); (case tl => decide +kernel); (case ev => exact fun env => ⟨_, rfl⟩); (case top => exact rfl); (case nx => exact ⟨by decide, by decide, by decide, by decide, by decide⟩); (case bd => exact fun us hl => match us, hl with | [_, _], _ => rfl)
    obtain ⟨A1, A2, A3, mA1, mA2, mA3, u1, u2, u3⟩ : ∃ A B D, mg "BadName" = some (.ref A) ∧ mg "Twice" = some (.ref B) ∧ mg "TooMany" = some (.ref D) ∧ PySem.W.subIn _ (.ref B) (.ref A) = some false ∧ PySem.W.subIn _ (.ref D) (.ref A) = some false ∧ PySem.W.subIn _ (.ref D) (.ref B) = some false := by
      refine' Qp.subs_in KX G ?s1 ?s2 ?s3 ?s4 ?s5 ?s6
      (case s1 => k_is); (case s2 => k_is); (case s3 => k_is); (case s4 => k_is); (case s5 => k_is); (case s6 => k_is)
    have q1 : BN1 = A1 := Value.ref.inj (Option.some.inj (RB1.T.gC.symm.trans mA1))
    have q2 : BN2 = A2 := Value.ref.inj (Option.some.inj (RB2.T.gC.symm.trans mA2))
    have q3 : BN3 = A3 := Value.ref.inj (Option.some.inj (RB3.T.gC.symm.trans mA3))
    subst q1; subst q2; subst q3
    have bP := F1.F.binds (ps := ["script"]) fun _ _ _ _ _ _ us hl => match us, hl with | [_], _ => rfl
    have bD := F2.F.binds (ps := ["pool", "many"]) fun _ _ _ _ _ _ us hl => match us, hl with | [_, _], _ => rfl
    have bW := F3.F.binds (ps := ["pool"]) fun _ _ _ _ _ _ us hl => match us, hl with | [_], _ => rfl
    have bO := F4.F.binds (ps := ["pool", "depth"]) fun _ _ _ _ _ _ us hl => match us, hl with | [_, _], _ => rfl
    have bS := F5.F.binds (ps := ["actual", "due"]) fun _ _ _ _ _ _ us hl => match us, hl with | [_, _], _ => rfl
    have bI := F6.F.binds (ps := ["thing"]) fun _ _ _ _ _ _ us hl => match us, hl with | [_], _ => rfl
    have bN := F7.F.binds (ps := ["things"]) fun _ _ _ _ _ _ us hl => match us, hl with | [_], _ => rfl
    have bU := F8.F.binds (ps := ["names"]) fun _ _ _ _ _ _ us hl => match us, hl with | [_], _ => rfl
    have bL := F9.F.binds (ps := ["value"]) fun _ _ _ _ _ _ us hl => match us, hl with | [_], _ => rfl
    have bC := F10.F.binds (ps := ["name", "keys"]) fun _ _ _ _ _ _ us hl => match us, hl with | [_, _], _ => rfl
    have bT := F11.F.binds (ps := ["name", "keys"]) fun _ _ _ _ _ _ us hl => match us, hl with | [_, _], _ => rfl
    have bE := F12.F.binds (ps := ["name", "keys"]) fun _ _ _ _ _ _ us hl => match us, hl with | [_, _], _ => rfl
    have e := hmg.symm.trans F13.m
    cases e
    obtain ⟨oc, od, kV, doc, pm, an, cdv, ct, osl, rfl, lk, hcd⟩ := F13.F.ex
    obtain ⟨fI, fdI, aI, nI, FI⟩ := T.ini
    have bIn := FI.binds (ps := ["self", "kind", "name", "parts"]) fun _ _ _ _ _ _ us hl => match us, hl with | [_, _, _, _], _ => rfl
    obtain ⟨pT, gTb, fdTb, sT, FT⟩ := T.table
    refine ⟨_, fun s v => .of_eq rfl, fun base _ _ => Qp.ok_law F13.F ?_ B⟩
    have gD := Qp.ok_draw (P := PySem.Challenge.rw_quietprobes_k02_tables_and_their_keys.prog) (w := w) (base := base) (k := 0) F2.F B.int
    have gW := Qp.ok_word F3.F gD F2.m F2.F.kp bD B.range
    have gO := Qp.ok_obj F4.F F4.m bO gD F2.m F2.F.kp bD gW F3.m F3.F.kp bW B 3
    have gI := Qp.ok_isname (P := PySem.Challenge.rw_quietprobes_k02_tables_and_their_keys.prog) (w := w) (base := base) (k := 0) F6.F B mL
    have gN := Qp.ok_namesX F7.F gI F6.m F6.F.kp bI RB1
    have gU := Qp.ok_unlikeX (P := PySem.Challenge.rw_quietprobes_k02_tables_and_their_keys.prog) (w := w) (base := base) F8.F mEn RB2
    have GI := Qp.ok_initX T.T FI gN F7.m F7.F.kp bN
    have M : L2.Mk _ C fI := ⟨T.mkC, aI, nI, T.kpC⟩
    have gTab := Qp.ok_tableX T.T M FT GI bIn gU F8.m F8.F.kp bU B.len mM RB3
    have gC := Qp.ok_lcall T.T sT gTab F10.F B.len
    have gTr := Qp.ok_ltry T.T F11.F gC F10.m F10.F.kp bC RB1 xB1 RB2 xB2 RB3 xB3 u1 u2 u3 B.isinstance
    have gLi := Qp.ok_lin (P := PySem.Challenge.rw_quietprobes_k02_tables_and_their_keys.prog) (w := w) (base := base) (k := 0) F9.F B
    have gDue := Qp.ok_ldue F12.F gLi F9.m F9.F.kp bL B
    exact ⟨f1, f2, f5, f4, f3, f9, f11, f12, fd1, fd2, fd5, fd4, fd3, fd9, fd11, fd12, Qp.ok_pool F1.F B.list, gD, Qp.ok_same F5.F B F5.m bS 6, gO, gW, gLi, gTr, gDue, bP, bD, bS, bO, bW, bL, bT, bE, F1.m, F2.m, F5.m, F4.m, F3.m, F9.m, F11.m, F12.m, F1.F.kp, F2.F.kp, F5.F.kp, F4.F.kp, F3.F.kp, F9.F.kp, F11.F.kp, F12.F.kp⟩
