import PyProof.Rows.All
import Wide.All
import OpenK.AllK
import Wide.FinOn
import HandS.ForMost
import HandS.EndBits
import HandS.Wide
import HandS.Star
import HandS.IsInst
import HandS.Codes
import HandS.More
import PySem.Challenge.RW_quietprobes_k04_looks_and_quiet_twins
set_option Elab.async false
set_option maxRecDepth 100000
set_option maxHeartbeats 4000000
set_option linter.all false
namespace Qp
open PySem L2
def top (i : Nat) : Stmt := PySem.Challenge.pw_quietprobes_k04_looks_and_quiet_twins.main.body.getD i (.Pass ⟨0, 0, 0, 0⟩)
abbrev sPool : Stmt := top 6
abbrev sDraw : Stmt := top 7
abbrev sWord : Stmt := top 8
abbrev sSame : Stmt := top 9
abbrev sTrace : Stmt := top 2
abbrev sTwin : Stmt := top 3
abbrev sThing : Stmt := top 4
abbrev sLaw : Stmt := top 10
/-! ### the pool of drawn numbers -/
/-- all objects but the two of the pool stay -/
def Keeps (p q : Addr) (H H' : Hp) : Prop := ∀ x o, x ≠ p → x ≠ q → H x = some o → H' x = some o
theorem Keeps.refl (p q : Addr) (H : Hp) : Keeps p q H H := fun _ _ _ _ e => e
theorem Keeps.trans {p q : Addr} {H H1 H2 : Hp} (a : Keeps p q H H1) (b : Keeps p q H1 H2) : Keeps p q H H2 := fun x o h1 h2 e => b x o h1 h2 (a x o h1 h2 e)
theorem Keeps.of_same {p q : Addr} {H H1 : Hp} (a : Same H H1) : Keeps p q H H1 := fun x o _ _ e => a x o e
theorem Keeps.upd_p {p q : Addr} {H : Hp} {o : HO} : Keeps p q H (upd H p o) := fun x u h1 _ e => by
  rw [upd_ne h1]; exact e
theorem Keeps.upd_q {p q : Addr} {H : Hp} {o : HO} : Keeps p q H (upd H q o) := fun x u _ h2 e => by
  rw [upd_ne h2]; exact e
theorem Keeps.upd_new {p q a : Addr} {H : Hp} {o : HO} (n : H a = none) : Keeps p q H (upd H a o) := fun x u _ _ e => by
  rw [upd_ne (ne_of_none e n)]; exact e
theorem Keeps.free {p q a : Addr} {H H1 : Hp} (k : Keeps p q H H1) (n : H1 a = none) (hp : a ≠ p) (hq : a ≠ q) : H a = none := by
  cases e : H a with
  | none => rfl
  | some o => rw [k a o hp hq e] at n; cases n
/-- the pool's two lists: how many numbers were drawn is n -/
structure PoolAt (H : Hp) (p q : Addr) (n : Nat) : Prop where
  ne : p ≠ q
  ex : ∃ (cs : List Int) (b c : Int), H p = some (.lst [.ref q, .int b, .int (n : Int), .int c]) ∧ H q = some (.lst (cs.map V.int)) ∧ cs.length ≤ 1000 ∧ 0 ≤ b ∧ 0 ≤ c ∧ c < 2147483629
theorem PoolAt.p_some {H : Hp} {p q : Addr} {n : Nat} (h : PoolAt H p q n) : ∃ o, H p = some o := let ⟨_, _, _, e, _⟩ := h.ex; ⟨_, e⟩
theorem PoolAt.q_some {H : Hp} {p q : Addr} {n : Nat} (h : PoolAt H p q n) : ∃ o, H q = some o := let ⟨_, _, _, _, e, _⟩ := h.ex; ⟨_, e⟩
theorem PoolAt.same {H H' : Hp} {p q : Addr} {n : Nat} (h : PoolAt H p q n) (s : Same H H') : PoolAt H' p q n := by
  obtain ⟨ne, cs, b, c, e1, e2, r⟩ := h
  exact ⟨ne, cs, b, c, s _ _ e1, s _ _ e2, r⟩
theorem PoolAt.new {H : Hp} {p q a : Addr} {n : Nat} {o : HO} (h : PoolAt H p q n) (na : H a = none) : PoolAt (upd H a o) p q n :=
  h.same fun x u e => by rw [upd_ne (ne_of_none e na)]; exact e
section
variable {X : Cx}
theorem get_list : PGet X (rIxL X.K) := by
  intro pins s σ H o i ov iv Q I ro ri h
  obtain ⟨p, xs, k, z, rfl, rfl, hq, he, q⟩ := h
  cases ro
  obtain ⟨t, rfl⟩ := ri
  obtain ⟨its, r, pl, hz⟩ := I.list hq
  obtain ⟨j, h1, h2, h3, h4, h5⟩ := atI_get he
  obtain ⟨w, ew, rw'⟩ := r.get h2
  have hl := r.length
  have hn := line63
  have fin : EP X pins σ Q w s := ⟨z, H, I, rw', q⟩
  by_cases h0 : 0 ≤ k
  · have hj : k.toNat = j := by
      rw [seqIndex_of h0 h5] at h1
      exact Option.some.inj h1
    exact wpAny_getItem_list pl.isList h0 (by omega) (by rw [hj]; simpa using ew) fin
  · have hj : (k + (its.toArray.size : Int)).toNat = j := by
      rw [seqIndex_neg (by omega) h4] at h1
      rw [List.size_toArray, ← hl]
      exact Option.some.inj h1
    exact wpAny_getItem_list_neg pl.isList (by omega) (by rw [List.size_toArray] <;> omega) (by omega) (by rw [hj]; simpa using ew) fin
end
theorem div_many {b m : Int} (h0 : 0 < m) (h1 : m ≤ 10 ^ 40) : CDivW b m := by
  refine wide_div (b := 200) h0 ?_ (by decide) (by decide)
  have h : m.natAbs ≤ 10 ^ 40 := by omega
  exact Nat.lt_of_le_of_lt h (by decide)
def spDraw : Sp := fun vs H Q _ => ∃ (p q : Addr) (n : Nat) (m : Int), vs = [.ref p, .int m] ∧ PoolAt H p q n ∧ n < 1000000 ∧ 0 < m ∧ m ≤ 10 ^ 40 ∧
  ∀ (d : Int) (H' : Hp), 0 ≤ d → d < m → PoolAt H' p q (n + 1) → Keeps p q H H' → Q (.int d) H'
section
variable {P : Program} {w : World} {K : PySem.W.Frag} {mg : Str → Option Value} {base : Heap}
theorem scD : FnScope ["pool", "many", "cell", "code", "digit", "far", "mixed"] ["pool", "many"] (defScope sDraw) := ⟨rfl, rfl, rfl, by decide +kernel, rfl, by decide +kernel, by decide +kernel⟩
theorem ok_draw {f : Addr} {fd : FuncData} {k : Nat} (F : Fun K "_law_draw" "_law_draw" sDraw f fd) (mi : mg "int" = none) : FnOk P w K mg base CX0 (k + 1) f fd ["pool", "many"] spDraw := by
  refine F.ok scD (fun vs H Q E h => ?_) (fun cdv A outer s H vs Q E hr h => ?_)
  · obtain ⟨p, q, n, m, rfl, _⟩ := h
    rfl
  · obtain ⟨p, q, n, m, rfl, ⟨npq, cs, b, c, hp, hq, hcs, hb, hc0, hc1⟩, hn, hm0, hm1, kk⟩ := h
    refine ⟨_,
      pss_cons (ps_augS (pv 0) pe_int get_list pe_int ip_add set_list)
      (C8.pss_cut (ps_if (PW.pt (pw_and (pt_cmpR op_eq (pe_ix ix_list (pv 0) pe_int (fun _ _ => rfl)) pe_int (nomark _)) (pw_and1 (pt_truth (pe_ix ix_list (pv 0) pe_int (fun _ _ => rfl)) (by intro _; rfl)))))
        (pss_cons (ps_set (i := 2) scD.nd rfl (.inl rfl) (pe_callTy call_int1 (by rfl) mi (by decide +kernel) (pa_cons (pe_bm PySem.F.plainAttrs_list PySem.F.slot_list_pop PySem.F.type_list_pop mt_popAt (pe_ix ix_list (pv 0) pe_int (fun _ _ => rfl)) (pa_cons pe_int pa_nil)) pa_nil)))
        (C8.pss_cut (ps_set (i := 3) scD.nd rfl (.inl rfl) (pe_ifExp (pt_cmpR op_ge (pv 2) pe_int (nomark _)) (pe_op op_mul pe_int (pv 2)) (pe_op op_sub (pe_un un_neg pe_int) (pe_op op_mul pe_int (pv 2)))))
        (pss_one (ps_if (pt_cmpR op_ge (pv 3) (pe_op op_pow pe_int pe_int) (nomark _))
          (pss_one (ps_asg (pv 3) (pg_sub (pv 0) pe_int set_list)))
          (pss_one (ps_asg (pe_op op_mod (pe_callTy call_int1 (by rfl) mi (by decide +kernel) (pa_cons (pe_op op_add (pe_op op_add (pe_op op_mul (pe_ix ix_list (pv 0) pe_int (fun _ _ => rfl)) pe_int) (pe_op op_mul (pv 3) pe_int)) pe_int) pa_nil)) pe_int) (pg_sub (pv 0) pe_int set_list)))))))
        pss_nil)
      (pss_cons (ps_if (pt_cmpR op_gt (pe_ix ix_list (pv 0) pe_int (fun _ _ => rfl)) pe_int (nomark _))
        (pss_cons (ps_set (i := 4) scD.nd rfl (.inl rfl) (pe_op op_mod (pe_callTy call_int1 (by rfl) mi (by decide +kernel) (pa_cons (pe_ix ix_list (pv 0) pe_int (fun _ _ => rfl)) pa_nil)) (pv 1)))
        (pss_cons (ps_asg (pe_op op_fdivW (pe_ix ix_list (pv 0) pe_int (fun _ _ => rfl)) (pv 1)) (pg_sub (pv 0) pe_int set_list))
        (pss_one (ps_ret (pv 4)))))
        pss_nil)
      (pss_cons (ps_if (pt_cmpR op_eq (pe_ix ix_list (pv 0) pe_int (fun _ _ => rfl)) pe_int (nomark _)) (pss_one (ps_ret pe_int)) pss_nil)
      (pss_cons (ps_set (i := 5) scD.nd rfl (.inl rfl) (pe_op op_add (pe_op op_mul (pe_ix ix_list (pv 0) pe_int (fun _ _ => rfl)) pe_int) (pe_op op_mul (pe_op op_mul (pe_ix ix_list (pv 0) pe_int (fun _ _ => rfl)) (pe_ix ix_list (pv 0) pe_int (fun _ _ => rfl))) pe_int)))
      (pss_cons (ps_set (i := 6) scD.nd rfl (.inl rfl) (pe_op op_mod (pe_callTy call_int1 (by rfl) mi (by decide +kernel) (pa_cons (pe_op op_add (pe_op op_mul (pe_ix ix_list (pv 0) pe_int (fun _ _ => rfl)) pe_int) (pv 5)) pa_nil)) pe_int))
      (pss_one (ps_ret (pe_op op_mod (pe_op op_mod (pe_callTy call_int1 (by rfl) mi (by decide +kernel) (pa_cons (pe_op op_fdiv (pe_op op_mul (pv 6) pe_int) pe_int) pa_nil)) pe_int) (pv 1))))))))), ?_⟩
    -- pool[2] += 1
    have g : ∀ {H : Hp} {x y z t : V}, H p = some (.lst [x, y, z, t]) → SqL K H p [x, y, z, t] := fun e => SqL.of e
    refine ⟨_, rfl, p, _, 2, _, rfl, rfl, g hp, atI_nat (j := 2) rfl, n, 1, rfl, rfl, p, _, 2, 2, rfl, rfl, hp, rfl, ?_⟩
    have K1 : Keeps p q H (upd H p (.lst [.ref q, .int b, .int ((n : Int) + 1), .int c])) := Keeps.upd_p
    have hp1 : (upd H p (.lst [.ref q, .int b, .int ((n : Int) + 1), .int c])) p = some (.lst [.ref q, .int b, .int ((n : Int) + 1), .int c]) := upd_same
    have hq1 : (upd H p (.lst [.ref q, .int b, .int ((n : Int) + 1), .int c])) q = some (.lst (cs.map V.int)) := by rw [upd_ne npq.symm]; exact hq
    refine ⟨fun σ H1 => ∃ (cs b c : _) (y2 y3 : Option V), σ = [some (.ref p), some (.int m), y2, y3, none, none, none] ∧ Keeps p q H H1 ∧
      H1 p = some (.lst [.ref q, .int b, .int ((n : Int) + 1), .int c]) ∧ H1 q = some (.lst (List.map V.int cs)) ∧ cs.length ≤ 1000 ∧ 0 ≤ b ∧ 0 ≤ c ∧ c < 2147483629, ?_, ?_⟩
    · -- if pool[1] == 0 and pool[0]
      refine ⟨_, rfl, p, _, 1, _, rfl, rfl, g hp1, atI_nat (j := 1) rfl, rfl, _, rfl, ?_⟩
      refine ite2 (fun _ => ?_) (fun _ => ?_)
      · refine ⟨_, rfl, p, _, 0, _, rfl, rfl, g hp1, atI_nat (j := 0) rfl, _, .inl ⟨_, SqL.of hq1, rfl⟩, ?_⟩
        cases cs with
        | nil =>
          refine iteF ?_
          exact ⟨[], b, c, none, none, rfl, K1, hp1, hq1, Nat.zero_le _, hb, hc0, hc1⟩
        | cons z r =>
          refine iteT ?_
          -- cell = int(pool[0].pop(0))
          refine ⟨_, rfl, p, _, 0, _, rfl, rfl, g hp1, atI_nat (j := 0) rfl, .inl ⟨rfl, _, SqL.of hq1⟩, q, _, 0, 0, _, rfl, rfl, hq1, by decide, by decide, seqIndex_of (by decide) (by simp), rfl, ?_⟩
          have hq2 : (upd (upd H p (.lst [.ref q, .int b, .int ((n : Int) + 1), .int c])) q (.lst (r.map V.int))) q = some (.lst (r.map V.int)) := upd_same
          have hp2 : (upd (upd H p (.lst [.ref q, .int b, .int ((n : Int) + 1), .int c])) q (.lst (r.map V.int))) p = some (.lst [.ref q, .int b, .int ((n : Int) + 1), .int c]) := by
            rw [upd_ne npq, hp1]
          have K2 : Keeps p q H (upd (upd H p (.lst [.ref q, .int b, .int ((n : Int) + 1), .int c])) q (.lst (r.map V.int))) := K1.trans .upd_q
          refine .inl ⟨z, rfl, ?_⟩
          have hr1 : r.length ≤ 1000 := Nat.le_of_succ_le hcs
          -- code
          refine ⟨fun σ H1 => ∃ code : Int, σ = [some (.ref p), some (.int m), some (.int z), some (.int code), none, none, none] ∧ 0 ≤ code ∧ H1 = upd (upd H p (.lst [.ref q, .int b, .int ((n : Int) + 1), .int c])) q (.lst (r.map V.int)), ?_, ?_⟩
          · refine ⟨_, rfl, _, _, rfl, rfl, _, rfl, ?_⟩
            refine ite2 (fun hz => ?_) (fun hz => ?_)
            · have hz' : 0 ≤ z := of_decide_eq_true hz
              exact ⟨_, rfl, _, _, rfl, rfl, .inl (by decide), 2 * z, rfl, by omega, rfl⟩
            · have hz' : ¬ 0 ≤ z := fun e => hz (decide_eq_true e)
              exact ⟨_, rfl, _, rfl, _, _, rfl, rfl, .inl (by decide), _, _, rfl, rfl, -1 - 2 * z, rfl, by omega, rfl⟩
          · rintro σ H1 ⟨code, rfl, hcode, rfl⟩
            refine ⟨_, rfl, _, _, rfl, rfl, ⟨by decide, by decide, by decide⟩, _, _, rfl, rfl, _, rfl, ?_⟩
            refine ite2 (fun hz => ?_) (fun hz => ?_)
            · refine ⟨_, rfl, _, rfl, p, _, 1, 1, rfl, rfl, hp2, rfl, ?_⟩
              exact ⟨r, code, c, _, _, rfl, K2.trans .upd_p, upd_same, by rw [upd_ne npq.symm]; exact hq2, hr1, hcode, hc0, hc1⟩
            · have hz' : ¬ ((10 : Int) ^ (18 : Int).toNat ≤ code) := fun e => hz (decide_eq_true e)
              refine ⟨_, rfl, p, _, 3, _, rfl, rfl, g hp2, atI_nat (j := 3) rfl, _, _, rfl, rfl, .inl ⟨by omega, by omega⟩, _, rfl, _, _, rfl, rfl, .inr (by decide), _, _, rfl, rfl, _, _, rfl, rfl, .inl ⟨_, rfl, _, _, rfl, rfl, (by show (0 : Int) < 2147483629; decide), _, rfl, p, _, 3, 3, rfl, rfl, hp2, rfl, ?_⟩⟩
              refine ⟨r, b, _, _, _, rfl, K2.trans .upd_p, upd_same, by rw [upd_ne npq.symm]; exact hq2, hr1, hb, Int.emod_nonneg _ (by decide), Int.emod_lt_of_pos _ (by decide)⟩
      · exact ⟨cs, b, c, none, none, rfl, K1, hp1, hq1, hcs, hb, hc0, hc1⟩
    · rintro σ H1 ⟨cs, b, c, y2, y3, rfl, K1, hp1, hq1, hcs, hb, hc0, hc1⟩
      have en : ((n : Int) + 1) = ((n + 1 : Nat) : Int) := by omega
      rw [en] at hp1
      -- if pool[1] > 0
      refine ⟨_, rfl, p, _, 1, _, rfl, rfl, g hp1, atI_nat (j := 1) rfl, _, _, rfl, rfl, _, rfl, ?_⟩
      refine ite2 (fun h1 => ?_) (fun h1 => ?_)
      · have hdm : (0 : Int) < m := hm0
        refine ⟨_, rfl, p, _, 1, _, rfl, rfl, g hp1, atI_nat (j := 1) rfl, .inl ⟨_, rfl, _, rfl, _, _, rfl, rfl, hm0, ?_⟩⟩
        refine ⟨_, rfl, p, _, 1, _, rfl, rfl, g hp1, atI_nat (j := 1) rfl, _, rfl, _, _, rfl, rfl, div_many hm0 hm1, ?_⟩
        refine ⟨_, rfl, p, _, 1, 1, rfl, rfl, hp1, rfl, ?_⟩
        refine ⟨_, rfl, ?_⟩
        exact kk _ _ (Int.emod_nonneg _ (by omega)) (Int.emod_lt_of_pos _ hm0) ⟨npq, cs, b / m, c, upd_same, by rw [upd_ne npq.symm]; exact hq1, hcs, Int.ediv_nonneg hb (by omega), hc0, hc1⟩ (K1.trans .upd_p)
      · -- if pool[3] == 0
        refine ⟨_, rfl, p, _, 3, _, rfl, rfl, g hp1, atI_nat (j := 3) rfl, rfl, _, rfl, ?_⟩
        refine ite2 (fun h3 => ?_) (fun h3 => ?_)
        · exact kk 0 _ (by decide) hm0 ⟨npq, cs, b, c, hp1, hq1, hcs, hb, hc0, hc1⟩ K1
        · refine ⟨_, rfl, p, _, 2, _, rfl, rfl, g hp1, atI_nat (j := 2) rfl, _, _, rfl, rfl, .inr (by decide), _, rfl, p, _, 2, _, rfl, rfl, g hp1, atI_nat (j := 2) rfl, _, rfl, p, _, 2, _, rfl, rfl, g hp1, atI_nat (j := 2) rfl, _, _, rfl, rfl, .inl ⟨by omega, by omega⟩, _, _, rfl, rfl, .inr (by decide), _, _, rfl, rfl, ?_⟩
          refine ⟨_, rfl, p, _, 3, _, rfl, rfl, g hp1, atI_nat (j := 3) rfl, _, _, rfl, rfl, .inl ⟨by omega, by omega⟩, _, rfl, _, _, rfl, rfl, .inl ⟨_, rfl, _, _, rfl, rfl, (by show (0 : Int) < 2147483647; decide), ?_⟩⟩
          refine ⟨_, rfl, _, _, rfl, rfl, .inr (by decide), _, _, rfl, rfl, ⟨by decide, by decide⟩, .inl ⟨_, rfl, _, _, rfl, rfl, (by show (0 : Int) < 2147483629; decide), _, rfl, _, _, rfl, rfl, hm0, ?_⟩⟩
          exact kk _ _ (Int.emod_nonneg _ (by omega)) (Int.emod_lt_of_pos _ hm0) ⟨npq, cs, b, c, hp1, hq1, hcs, hb, hc0, hc1⟩ K1
end
/-! ### the pool made, a word drawn -/
theorem cut_take (xs : List V) (k : Nat) : cutV xs none (some (k : Int)) = xs.take k := by
  unfold cutV
  rw [HT.sIx_nat, HT.sIx_none]
  show (xs.drop 0).take (min k xs.length - 0) = xs.take k
  rw [List.drop_zero, Nat.sub_zero]
  by_cases h : k ≤ xs.length
  · rw [Nat.min_eq_left h]
  · rw [Nat.min_eq_right (by omega), List.take_of_length_le (Nat.le_refl _), List.take_of_length_le (by omega)]
def spPool (K : PySem.W.Frag) : Sp := fun vs H Q _ => ∃ (a : Addr) (ns : List Int), vs = [.ref a] ∧ SqL K H a (ns.map V.int) ∧ ns.length ≤ 63 ∧ ∀ (p q : Addr) (H' : Hp), H p = none → H q = none → PoolAt H' p q 0 → Same H H' → Q (.ref p) H'
/-- one to eight letters -/
def IsWord (z : Str) : Prop := 1 ≤ z.length ∧ z.length ≤ 8 ∧ ∀ c ∈ z.cps.toList, 97 ≤ c ∧ c ≤ 122
def spWord : Sp := fun vs H Q _ => ∃ (p q : Addr) (n : Nat), vs = [.ref p] ∧ PoolAt H p q n ∧ n < 900000 ∧
  ∀ (z : Str) (n' : Nat) (H' : Hp), IsWord z → n ≤ n' → n' ≤ n + 9 → PoolAt H' p q n' → Keeps p q H H' → Q (.str z) H'
theorem sum_ones : ∀ ys : List Str, (∀ y ∈ ys, y.length = 1) → (ys.map (·.length)).sum = ys.length
  | [], _ => rfl
  | x :: r, h => by
    rw [List.map_cons, List.sum_cons, h x List.mem_cons_self, sum_ones r fun y hy => h y (List.mem_cons_of_mem _ hy), List.length_cons]
    omega
theorem join_letters {sep : Str} (hs : sep.cps.toList = []) : ∀ ys : List Str, (∀ y ∈ ys, ∃ c, y = ⟨#[c]⟩ ∧ 97 ≤ c ∧ c ≤ 122) → (Str.join sep ys).length = ys.length ∧ ∀ c ∈ (Str.join sep ys).cps.toList, 97 ≤ c ∧ c ≤ 122
  | [], _ => ⟨rfl, fun c h => by cases h⟩
  | [x], h => by
    obtain ⟨c, rfl, h1, h2⟩ := h x List.mem_cons_self
    exact ⟨rfl, fun d hd => by
      have e : d = c := List.mem_singleton.mp hd
      rw [e]; exact ⟨h1, h2⟩⟩
  | x :: y :: r, h => by
    obtain ⟨c, rfl, h1, h2⟩ := h x List.mem_cons_self
    obtain ⟨i1, i2⟩ := join_letters hs (y :: r) fun z hz => h z (List.mem_cons_of_mem _ hz)
    have sl : sep.length = 0 := by
      show sep.cps.size = 0
      rw [← Array.length_toList, hs]; rfl
    have e : (Str.join sep ((⟨#[c]⟩ : Str) :: y :: r)) = (⟨#[c]⟩ : Str) ++ sep ++ Str.join sep (y :: r) := rfl
    rw [e]
    refine ⟨?_, fun d hd => ?_⟩
    · rw [strLen_append, strLen_append, i1, sl]
      show 1 + 0 + (y :: r).length = _
      simp only [List.length_cons]; omega
    · rcases PyProof.Rows.mem_cps_append.mp hd with hd | hd
      · rcases PyProof.Rows.mem_cps_append.mp hd with hd | hd
        · have e : d = c := List.mem_singleton.mp hd
          rw [e]; exact ⟨h1, h2⟩
        · rw [hs] at hd; cases hd
      · exact i2 d hd
def abc : Str := "abcdefghijklmnopqrstuvwxyz"
theorem abc_len : abc.length = 26 := by decide +kernel
theorem abc_at (d : Int) (h0 : 0 ≤ d) (h1 : d < 26) : ∃ c, atI abc.cps.toList d = some c ∧ 97 ≤ c ∧ c ≤ 122 := by
  obtain ⟨k, rfl⟩ : ∃ k : Nat, d = (k : Int) := ⟨d.toNat, by omega⟩
  have hk : k < 26 := by omega
  have all : ∀ k : Fin 26, ∃ c, abc.cps.toList[k.val]? = some c ∧ 97 ≤ c ∧ c ≤ 122 := by
    have h : ∀ k : Fin 26, (match abc.cps.toList[k.val]? with | some c => decide (97 ≤ c ∧ c ≤ 122) | none => false) = true := by decide +kernel
    intro k
    have := h k
    cases e : abc.cps.toList[k.val]? with
    | none => rw [e] at this; cases this
    | some c =>
      rw [e] at this
      exact ⟨c, rfl, of_decide_eq_true this⟩
  obtain ⟨c, e, r⟩ := all ⟨k, hk⟩
  exact ⟨c, atI_nat e, r⟩
section
variable {P : Program} {w : World} {K : PySem.W.Frag} {mg : Str → Option Value} {base : Heap}
theorem scP : FnScope ["script"] ["script"] (defScope sPool) := ⟨rfl, rfl, rfl, by decide +kernel, rfl, by decide +kernel, by decide +kernel⟩
theorem ok_pool {f : Addr} {fd : FuncData} {k : Nat} (F : Fun K "_law_pool" "_law_pool" sPool f fd) (ml : mg "list" = none) : FnOk P w K mg base CX0 (k + 1) f fd ["script"] (spPool K) := by
  refine F.ok scP (fun vs H Q E h => ?_) (fun cdv A outer s H vs Q E hr h => ?_)
  · obtain ⟨a, ns, rfl, _⟩ := h
    rfl
  · obtain ⟨a, ns, rfl, hS, hl, kk⟩ := h
    refine ⟨_, pss_one (ps_ret (pe_lst (pa_cons (pe_callTy call_list_of (by rfl) ml (by decide +kernel) (pa_cons (pe_slice sl_list (pv 0) po_none (po_some pe_int)) pa_nil)) (pa_cons pe_int (pa_cons pe_int (pa_cons pe_int pa_nil)))))), ?_⟩
    refine ⟨.ref a, rfl, 63, rfl, a, _, rfl, hS, fun c nc => ?_⟩
    have e : cutV (ns.map V.int) none (some 63) = (ns.take 63).map V.int := by
      rw [List.map_take]; exact cut_take _ 63
    rw [e]
    refine ⟨c, _, rfl, .inl (SqL.of upd_same), fun q nq => ?_⟩
    refine ⟨by show 4 ≤ sizeLine; decide, fun p np => ?_⟩
    have hc : (upd H c (.lst ((ns.take 63).map V.int))) c = some (.lst ((ns.take 63).map V.int)) := upd_same
    have s1 : Same H (upd H c (.lst ((ns.take 63).map V.int))) := fun b o z => by rw [upd_ne (ne_of_none z nc)]; exact z
    have s2 : Same (upd H c (.lst ((ns.take 63).map V.int))) (upd (upd H c (.lst ((ns.take 63).map V.int))) q (.lst ((ns.take 63).map V.int))) := fun b o z => by rw [upd_ne (ne_of_none z nq)]; exact z
    have hq : (upd (upd H c (.lst ((ns.take 63).map V.int))) q (.lst ((ns.take 63).map V.int))) q = some (.lst ((ns.take 63).map V.int)) := upd_same
    have s3 := fun o => (fun b u z => by rw [upd_ne (ne_of_none z np)]; exact z : Same (upd (upd H c (.lst ((ns.take 63).map V.int))) q (.lst ((ns.take 63).map V.int))) (upd _ p o))
    refine kk p q _ ((s1.trans s2).free np) (s1.free nq) ⟨(ne_of_none hq np).symm, ns.take 63, 0, 0, upd_same, s3 _ _ _ hq, by rw [List.length_take]; omega, by decide, by decide, by decide⟩ ((s1.trans s2).trans (s3 _))
theorem scW : FnScope ["pool", "letters", "k"] ["pool"] (defScope sWord) := ⟨rfl, rfl, rfl, by decide +kernel, rfl, by decide +kernel, by decide +kernel⟩
theorem ok_word {f fD : Addr} {fd fdD : FuncData} (F : Fun K "_law_word" "_law_word" sWord f fd) (GD : FnOk P w K mg base CX0 1 fD fdD ["pool", "many"] spDraw) (mD : mg "_law_draw" = some (.ref fD)) (kD : PySem.W.keepIn K (.ref fD) = true)
    (bD : Binds K fdD ["pool", "many"] []) (mr : mg "range" = none) : FnOk P w K mg base CX0 2 f fd ["pool"] spWord := by
  refine F.ok scW (fun vs H Q E h => ?_) (fun cdv A outer s H vs Q E hr h => ?_)
  · obtain ⟨p, q, n, rfl, _⟩ := h
    rfl
  · obtain ⟨p, q, n, rfl, hP, hn, kk⟩ := h
    refine ⟨_, pss_cons (ps_set (i := 1) scW.nd rfl (.inr rfl) pe_str)
      (pss_one (ps_ret (pe_join pe_str (pe_lc (own := [("k", 2)]) (g := gName 2) (tt := tYes) rfl scW.nd
        (pi_range1 (by rfl) mr (pa_cons (pe_op op_add pe_int (pe_call GD hr (by rfl) mD kD bD .nil pass0 (pa_cons (pv 0) (pa_cons pe_int pa_nil)))) pa_nil))
        (blkOk_by (N := ["pool", "letters", "k"]) (sc := defScope sWord) (by decide +kernel))
        (fun _ _ _ _ _ => pg_name (i := 2) scW.nd rfl (.inl rfl)) (fun _ _ _ _ _ => pts_nil)
        (fun _ _ _ _ _ => pe_ix ix_str (pv 1) (pe_call GD hr (by rfl) mD kD bD .nil pass0 (pa_cons (pv 0) (pa_cons pe_int pa_nil))) (fun _ _ => rfl)))))), ?_⟩
    refine ⟨⟨_, rfl⟩, .ref p, rfl, p, q, n, 8, rfl, hP, by omega, by decide, by decide, fun d H1 h0 h1 P1 K1 => ?_⟩
    refine ⟨1, d, rfl, rfl, 1 + d, rfl, (by omega), (by omega), fun D nD => ?_⟩
    obtain ⟨op, ep⟩ := P1.p_some
    obtain ⟨oq, eq⟩ := P1.q_some
    have nDp : D ≠ p := (ne_of_none ep nD).symm
    have nDq : D ≠ q := (ne_of_none eq nD).symm
    have em : (1 + d).toNat ≤ 8 := by omega
    refine lc_range (lo := 0) (n := (1 + d).toNat) (fun i H2 => ∃ ys : List Str, H2 D = some (.lst (ys.map V.str)) ∧ ys.length = i ∧ (∀ y ∈ ys, ∃ c, y = ⟨#[c]⟩ ∧ 97 ≤ c ∧ c ≤ 122) ∧ PoolAt H2 p q (n + 1 + i) ∧ Keeps p q H H2)
      ⟨[], upd_same, rfl, fun y hy => (by cases hy), P1.new nD, K1.trans (.upd_new nD)⟩ (fun i H2 hi hI => ?_) (fun H2 hI => ?_)
    · obtain ⟨ys, eD, el, hy, P2, K2⟩ := hI
      refine ⟨rfl, ?_⟩
      refine ⟨_, rfl, _, rfl, p, q, n + 1 + i, 26, rfl, P2, by omega, by decide, by decide, fun d2 H3 h02 h12 P3 K3 => ?_⟩
      obtain ⟨c, ec, hc1, hc2⟩ := abc_at d2 h02 h12
      have eD3 : H3 D = some (.lst (ys.map V.str)) := K3 D _ nDp nDq eD
      refine ⟨abc, d2, c, rfl, rfl, by rw [abc_len]; decide, ec, _, eD3, small1000 (by rw [List.length_map]; omega), ys ++ [⟨#[c]⟩], ?_, by simp [el], fun y hm => ?_, ?_, ?_⟩
      · rw [upd_same, List.map_append]; rfl
      · rcases List.mem_append.mp hm with hm | hm
        · exact hy y hm
        · exact ⟨c, List.mem_singleton.mp hm, hc1, hc2⟩
      · have e : n + 1 + (i + 1) = n + 1 + i + 1 := by omega
        rw [e]
        obtain ⟨npq, cs, b, c0, e1, e2, r⟩ := P3
        exact ⟨npq, cs, b, c0, by rw [upd_ne nDp.symm]; exact e1, by rw [upd_ne nDq.symm]; exact e2, r⟩
      · intro x o hx1 hx2 nH
        have ex := K3 x o hx1 hx2 (K2 x o hx1 hx2 nH)
        by_cases hxD : x = D
        · subst hxD
          rw [K1.free nD nDp nDq] at nH
          cases nH
        · rw [upd_ne hxD]; exact ex
    · obtain ⟨ys, eD, el, hy, P2, K2⟩ := hI
      obtain ⟨j1, j2⟩ := join_letters (sep := "") (by decide +kernel) ys hy
      have e1 : ∀ y ∈ ys, y.length = 1 := fun y hm => by
        obtain ⟨c, rfl, _⟩ := hy y hm
        rfl
      have e2 : (ys.map (·.length)).sum = ys.length := sum_ones _ e1
      refine ⟨_, D, ys, rfl, rfl, .inl (SqL.of eD), ?_, ?_⟩
      · rw [e2, show (Str.ofString "").length = 0 by decide +kernel]; omega
      · rw [show Txt.join _ ys = Str.join _ ys from StrLaws.glued_eq_join _ _]
        exact kk _ (n + 1 + (1 + d).toNat) H2 ⟨by rw [j1]; omega, by rw [j1]; omega, j2⟩ (by omega) (by omega) P2 K2
end
/-! ### two data are the same -/
/-- no deeper than that -/
def dp : Nat → PyData → Prop
  | 0, _ => False
  | _ + 1, .none => True
  | _ + 1, .bool _ => True
  | _ + 1, .int _ => True
  | _ + 1, .str _ => True
  | m + 1, .list xs => xs.length ≤ 1000000 ∧ ∀ x ∈ xs, dp m x
  | m + 1, .tuple xs => xs.length ≤ 1000000 ∧ ∀ x ∈ xs, dp m x
  | _ + 1, .dict _ => False
theorem dp_mono : ∀ {m n : Nat} {d : PyData}, m ≤ n → dp m d → dp n d
  | 0, _, _, _, h => by simp [dp] at h
  | m + 1, 0, _, h, _ => by omega
  | m + 1, n + 1, d, h, hd => by
    cases d with
    | none => simp [dp]
    | bool b => simp [dp]
    | int i => simp [dp]
    | str s => simp [dp]
    | list xs =>
      simp only [dp] at hd ⊢
      exact ⟨hd.1, fun x hx => dp_mono (Nat.le_of_succ_le_succ h) (hd.2 x hx)⟩
    | tuple xs =>
      simp only [dp] at hd ⊢
      exact ⟨hd.1, fun x hx => dp_mono (Nat.le_of_succ_le_succ h) (hd.2 x hx)⟩
    | dict xs => simp [dp] at hd
def tyName : PyData → String
  | .none => "NoneType"
  | .bool _ => "bool"
  | .int _ => "int"
  | .str _ => "str"
  | .list _ => "list"
  | .tuple _ => "tuple"
  | .dict _ => "dict"
theorem ty_of {K : PySem.W.Frag} {H : Hp} {v : V} {d : PyData} (h : Dp K H v d) : TyX K H v (.type (tyName d)) := by
  cases h with
  | non => exact .base .non
  | bl b => exact .base (.bl b)
  | int i => exact .base (.int i)
  | str x => exact .base (.str x)
  | lst hs _ =>
    rcases hs with (h | ⟨o, h⟩) | ⟨o, its, n, hk, hc, _⟩
    · exact .base (.lst h)
    · exact .base (.frz h)
    · exact .kList hk hc
  | tup hs _ =>
    rcases hs with (h | ⟨o, h⟩) | ⟨o, its, n, hk, hc, _⟩
    · exact .base (.tup h)
    · exact .fTuple h
    · exact .kTuple hk hc
theorem isi {K : PySem.W.Frag} {H : Hp} {v : V} {d : PyData} {T : String} {b : Bool} {Q : VK} (h : Dp K H v d) (e : kitB (tyName d) T = some b) (q : Q (.bl b) H) : rIsi K [v, .ty T] H Q :=
  ⟨v, .ty T, _, _, b, rfl, ClsV.ty T, ty_of h, kit_ty e, q⟩
theorem dpAll_len {K : PySem.W.Frag} {H : Hp} : ∀ {vs : List V} {ds : List PyData}, DpAll K H vs ds → vs.length = ds.length
  | _, _, .nil => rfl
  | _, _, .cons _ t => by rw [List.length_cons, List.length_cons, dpAll_len t]
theorem dpAll_get {K : PySem.W.Frag} {H : Hp} : ∀ {vs : List V} {ds : List PyData} {i : Nat} {d : PyData}, DpAll K H vs ds → ds[i]? = some d → ∃ v, vs[i]? = some v ∧ Dp K H v d
  | _, _, _, _, .nil, e => by simp at e
  | _, _, 0, _, .cons h _, e => by
    have e' := Option.some.inj e
    subst e'
    exact ⟨_, rfl, h⟩
  | _, _, i + 1, _, .cons _ t, e => dpAll_get (i := i) t e
def spSame (K : PySem.W.Frag) (m : Nat) : Sp := fun vs H Q _ => ∃ (v u : V) (d : PyData), vs = [v, u] ∧ Dp K H v d ∧ Dp K H u d ∧ dp m d ∧ Q (.bl true) H
/-- what the names of classes and of len, range stand for -/
structure Bts (mg : Str → Option Value) : Prop where
  isinstance : mg "isinstance" = none
  bool : mg "bool" = none
  str : mg "str" = none
  int : mg "int" = none
  list : mg "list" = none
  tuple : mg "tuple" = none
  len : mg "len" = none
  range : mg "range" = none
section
variable {P : Program} {w : World} {K : PySem.W.Frag} {mg : Str → Option Value} {base : Heap}
theorem fn_never {f : Addr} {fd : FuncData} {ps : List Str} : FnOk P w K mg base CX0 0 f fd ps (fun _ _ _ _ => False) :=
  ⟨fun _ _ _ _ h => h.elim, fun _ _ _ _ _ _ _ _ _ _ _ _ _ h => h.elim⟩
theorem scS : FnScope ["actual", "due", "k"] ["actual", "due"] (defScope sSame) := ⟨rfl, rfl, rfl, by decide +kernel, rfl, by decide +kernel, by decide +kernel⟩
theorem ok_same {f : Addr} {fd : FuncData} (F : Fun K "_law_same" "_law_same" sSame f fd) (B : Bts mg) (mS : mg "_law_same" = some (.ref f)) (bS : Binds K fd ["actual", "due"] []) : ∀ m : Nat, FnOk P w K mg base CX0 m f fd ["actual", "due"] (spSame K m)
  | 0 => fn_never.imp fun vs H Q E h => by
    obtain ⟨v, u, d, _, _, _, h, _⟩ := h
    simp [dp] at h
  | m + 1 => by
    have IH := ok_same F B mS bS m
    refine F.ok scS (fun vs H Q E h => ?_) (fun cdv A outer s H vs Q E hr h => ?_)
    · obtain ⟨v, u, d, rfl, _⟩ := h
      rfl
    · obtain ⟨v, u, d, rfl, hv, hu, hd, kk⟩ := h
      refine ⟨_,
        pss_cons (ps_if (pt_cmpR op_isN (pv 1) pe_non (nomark _)) (pss_one (ps_ret (pe_cmp (pc_isN (pv 0)) rfl))) pss_nil)
        (pss_cons (ps_if (PW.pt (pw_or (pt_val (pe_callB call_isi (by rfl) B.isinstance (by decide +kernel) (pa_cons (pv 1) (pa_cons (pe_bltn (v := .ty "bool") (by rfl) B.bool (by decide +kernel) rfl) pa_nil))))
              (pw_or1 (pt_val (pe_callB call_isi (by rfl) B.isinstance (by decide +kernel) (pa_cons (pv 1) (pa_cons (pe_bltn (v := .ty "str") (by rfl) B.str (by decide +kernel) rfl) pa_nil)))))))
            (pss_cons (ps_if (PW.pt (pw_or
                (pt_cmpR op_ne (pe_callB call_isi (by rfl) B.isinstance (by decide +kernel) (pa_cons (pv 0) (pa_cons (pe_bltn (v := .ty "bool") (by rfl) B.bool (by decide +kernel) rfl) pa_nil)))
                  (pe_callB call_isi (by rfl) B.isinstance (by decide +kernel) (pa_cons (pv 1) (pa_cons (pe_bltn (v := .ty "bool") (by rfl) B.bool (by decide +kernel) rfl) pa_nil))) (nomark _))
                (pw_or1 (pt_cmpR op_ne (pe_callB call_isi (by rfl) B.isinstance (by decide +kernel) (pa_cons (pv 0) (pa_cons (pe_bltn (v := .ty "str") (by rfl) B.str (by decide +kernel) rfl) pa_nil)))
                  (pe_callB call_isi (by rfl) B.isinstance (by decide +kernel) (pa_cons (pv 1) (pa_cons (pe_bltn (v := .ty "str") (by rfl) B.str (by decide +kernel) rfl) pa_nil))) (nomark _)))))
                (pss_one (ps_ret pe_bl)) pss_nil)
              (pss_one (ps_ret (pe_cmpR op_eq (pv 0) (pv 1) (nomark _)))))
            pss_nil)
        (pss_cons (ps_if (pt_val (pe_callB call_isi (by rfl) B.isinstance (by decide +kernel) (pa_cons (pv 1) (pa_cons (pe_bltn (v := .ty "int") (by rfl) B.int (by decide +kernel) rfl) pa_nil))))
            (pss_one (ps_ret (pe_and (pe_callB call_isi (by rfl) B.isinstance (by decide +kernel) (pa_cons (pv 0) (pa_cons (pe_bltn (v := .ty "int") (by rfl) B.int (by decide +kernel) rfl) pa_nil)))
              (pe_and (pe_not (pe_callB call_isi (by rfl) B.isinstance (by decide +kernel) (pa_cons (pv 0) (pa_cons (pe_bltn (v := .ty "bool") (by rfl) B.bool (by decide +kernel) rfl) pa_nil))))
                (pe_one (pe_cmpR op_eq (pv 0) (pv 1) (nomark _)))))))
            pss_nil)
        (pss_cons (ps_if (PW.pt (pw_and (pt_val (pe_callB call_isi (by rfl) B.isinstance (by decide +kernel) (pa_cons (pv 1) (pa_cons (pe_bltn (v := .ty "list") (by rfl) B.list (by decide +kernel) rfl) pa_nil))))
              (pw_and1 (pt_not (pt_val (pe_callB call_isi (by rfl) B.isinstance (by decide +kernel) (pa_cons (pv 0) (pa_cons (pe_bltn (v := .ty "list") (by rfl) B.list (by decide +kernel) rfl) pa_nil))))))))
            (pss_one (ps_ret pe_bl)) pss_nil)
        (pss_cons (ps_if (PW.pt (pw_and (pt_val (pe_callB call_isi (by rfl) B.isinstance (by decide +kernel) (pa_cons (pv 1) (pa_cons (pe_bltn (v := .ty "tuple") (by rfl) B.tuple (by decide +kernel) rfl) pa_nil))))
              (pw_and1 (pt_not (pt_val (pe_callB call_isi (by rfl) B.isinstance (by decide +kernel) (pa_cons (pv 0) (pa_cons (pe_bltn (v := .ty "tuple") (by rfl) B.tuple (by decide +kernel) rfl) pa_nil))))))))
            (pss_one (ps_ret pe_bl)) pss_nil)
        (pss_cons (ps_if (pt_cmpR op_ne (pe_callB call_len_seq (by rfl) B.len PySem.boot_len (pa_cons (pv 0) pa_nil)) (pe_callB call_len_seq (by rfl) B.len PySem.boot_len (pa_cons (pv 1) pa_nil)) (nomark _)) (pss_one (ps_ret pe_bl)) pss_nil)
        (pss_cons (ps_for PassesOwn.never rfl (pi_range1 rfl B.range (pa_cons (pe_callB call_len_seq (by rfl) B.len PySem.boot_len (pa_cons (pv 1) pa_nil)) pa_nil)) (pg_name (i := 2) scS.nd rfl (.inl rfl))
            (pss_one (ps_if (pt_not (pt_val (pe_call IH hr (by rfl) mS F.kp bS .nil pass0 (pa_cons (pe_ix ix_seq (pv 0) (pv 2) (fun _ _ => rfl)) (pa_cons (pe_ix ix_seq (pv 1) (pv 2) (fun _ _ => rfl)) pa_nil))))) (pss_one (ps_ret pe_bl)) pss_nil)))
        (pss_one (ps_ret pe_bl)))))))), ?_⟩
      cases d with
      | none =>
        cases hu; cases hv
        exact ⟨_, rfl, rfl, _, rfl, iteT ⟨_, rfl, kk⟩⟩
      | bool b =>
        cases hu; cases hv
        refine ⟨_, rfl, rfl, _, rfl, iteF ?_⟩
        refine ⟨_, rfl, _, _, _, _, true, rfl, .ty _, TyX.base (TyOf.bl b), kit_ty (by decide +kernel), _, rfl, iteT (iteT ?_)⟩
        refine ⟨_, rfl, _, _, _, _, true, rfl, .ty _, TyX.base (TyOf.bl b), kit_ty (by decide +kernel), _, rfl, _, _, _, _, true, rfl, .ty _, TyX.base (TyOf.bl b), kit_ty (by decide +kernel), rfl, _, rfl, ?_⟩
        refine iteF ⟨_, rfl, _, _, _, _, false, rfl, .ty _, TyX.base (TyOf.bl b), kit_ty (by decide +kernel), _, rfl, _, _, _, _, false, rfl, .ty _, TyX.base (TyOf.bl b), kit_ty (by decide +kernel), rfl, _, rfl, ?_⟩
        refine iteF ⟨_, rfl, _, rfl, rfl, ?_⟩
        rw [decide_eq_true rfl]
        exact kk
      | str x =>
        cases hu; cases hv
        refine ⟨_, rfl, rfl, _, rfl, iteF ?_⟩
        refine ⟨_, rfl, _, _, _, _, false, rfl, .ty _, TyX.base (TyOf.str x), kit_ty (by decide +kernel), _, rfl, iteF ?_⟩
        refine ⟨_, rfl, _, _, _, _, true, rfl, .ty _, TyX.base (TyOf.str x), kit_ty (by decide +kernel), _, rfl, iteT ?_⟩
        refine ⟨_, rfl, _, _, _, _, false, rfl, .ty _, TyX.base (TyOf.str x), kit_ty (by decide +kernel), _, rfl, _, _, _, _, false, rfl, .ty _, TyX.base (TyOf.str x), kit_ty (by decide +kernel), rfl, _, rfl, ?_⟩
        refine iteF ⟨_, rfl, _, _, _, _, true, rfl, .ty _, TyX.base (TyOf.str x), kit_ty (by decide +kernel), _, rfl, _, _, _, _, true, rfl, .ty _, TyX.base (TyOf.str x), kit_ty (by decide +kernel), rfl, _, rfl, ?_⟩
        refine iteF ⟨_, rfl, _, rfl, rfl, ?_⟩
        rw [decide_eq_true rfl]
        exact kk
      | int i =>
        cases hu; cases hv
        refine ⟨_, rfl, rfl, _, rfl, iteF ?_⟩
        refine ⟨_, rfl, _, _, _, _, false, rfl, .ty _, TyX.base (TyOf.int i), kit_ty (by decide +kernel), _, rfl, iteF ?_⟩
        refine ⟨_, rfl, _, _, _, _, false, rfl, .ty _, TyX.base (TyOf.int i), kit_ty (by decide +kernel), _, rfl, iteF ?_⟩
        refine ⟨_, rfl, _, _, _, _, true, rfl, .ty _, TyX.base (TyOf.int i), kit_ty (by decide +kernel), _, rfl, iteT ?_⟩
        refine ⟨_, rfl, _, _, _, _, true, rfl, .ty _, TyX.base (TyOf.int i), kit_ty (by decide +kernel), _, rfl, iteT ?_⟩
        refine ⟨_, rfl, _, _, _, _, false, rfl, .ty _, TyX.base (TyOf.int i), kit_ty (by decide +kernel), _, rfl, _, rfl, iteT ?_⟩
        refine ⟨_, rfl, _, rfl, rfl, ?_⟩
        rw [decide_eq_true rfl]
        exact kk
      | list ds =>
        obtain ⟨a2, xs2, rfl, hs2, ha2⟩ : ∃ a xs, u = .ref a ∧ SqL K H a xs ∧ DpAll K H xs ds := by
          cases hu with
          | lst h1 h2 => exact ⟨_, _, rfl, h1, h2⟩
        obtain ⟨a1, xs1, rfl, hs1, ha1⟩ : ∃ a xs, v = .ref a ∧ SqL K H a xs ∧ DpAll K H xs ds := by
          cases hv with
          | lst h1 h2 => exact ⟨_, _, rfl, h1, h2⟩
        have tyU : TyX K H (.ref a2) (.type "list") := ty_of (.lst hs2 ha2)
        have tyV : TyX K H (.ref a1) (.type "list") := ty_of (.lst hs1 ha1)
        have e1 := dpAll_len ha1
        have e2 := dpAll_len ha2
        refine ⟨_, rfl, rfl, _, rfl, iteF ?_⟩
        refine ⟨_, rfl, _, _, _, _, false, rfl, .ty _, tyU, kit_ty (by decide +kernel), _, rfl, iteF ?_⟩
        refine ⟨_, rfl, _, _, _, _, false, rfl, .ty _, tyU, kit_ty (by decide +kernel), _, rfl, iteF ?_⟩
        refine ⟨_, rfl, _, _, _, _, false, rfl, .ty _, tyU, kit_ty (by decide +kernel), _, rfl, iteF ?_⟩
        refine ⟨_, rfl, _, _, _, _, true, rfl, .ty _, tyU, kit_ty (by decide +kernel), _, rfl, iteT ?_⟩
        refine ⟨_, rfl, _, _, _, _, true, rfl, .ty _, tyV, kit_ty (by decide +kernel), _, rfl, iteF ?_⟩
        refine ⟨_, rfl, _, _, _, _, false, rfl, .ty _, tyU, kit_ty (by decide +kernel), _, rfl, iteF (iteF ?_)⟩
        refine ⟨_, rfl, a1, xs1, rfl, .inl hs1, _, rfl, a2, xs2, rfl, .inl hs2, rfl, _, rfl, iteNS (by rw [e1, e2]) ?_⟩
        simp only [dp] at hd
        have hz2 : (xs2.length : Int) < 2 ^ 62 := by have := hd.1; omega
        refine ⟨_, rfl, a2, xs2, rfl, .inl hs2, _, rfl, (by omega), hz2, ?_⟩
        refine for_range (lo := 0) (n := (xs2.length : Int).toNat) (fun i σ H2 => ∃ y, σ = [some (.ref a1), some (.ref a2), y] ∧ H2 = H) ⟨none, rfl, rfl⟩ ?_ ?_
        · rintro i σ H2 hi ⟨y, rfl, rfl⟩
          have hi2 : i < ds.length := by omega
          obtain ⟨x1, g1, d1⟩ := dpAll_get ha1 (List.getElem?_eq_getElem hi2)
          obtain ⟨x2, g2, d2⟩ := dpAll_get ha2 (List.getElem?_eq_getElem hi2)
          have ei : (0 : Int) + (i : Int) = ((i : Nat) : Int) := by omega
          rw [ei]
          refine ⟨_, rfl, _, rfl, .inl ⟨_, _, _, _, rfl, rfl, hs1, atI_nat g1, _, rfl, _, rfl, .inl ⟨_, _, _, _, rfl, rfl, hs2, atI_nat g2, ?_⟩⟩⟩
          refine ⟨x1, x2, _, rfl, d1, d2, hd.2 _ (List.getElem_mem hi2), _, rfl, iteF ?_⟩
          exact ⟨_, rfl, rfl⟩
        · rintro σ H2 ⟨y, rfl, rfl⟩
          exact kk
      | tuple ds =>
        obtain ⟨a2, xs2, rfl, hs2, ha2⟩ : ∃ a xs, u = .ref a ∧ SqT K H a xs ∧ DpAll K H xs ds := by
          cases hu with
          | tup h1 h2 => exact ⟨_, _, rfl, h1, h2⟩
        obtain ⟨a1, xs1, rfl, hs1, ha1⟩ : ∃ a xs, v = .ref a ∧ SqT K H a xs ∧ DpAll K H xs ds := by
          cases hv with
          | tup h1 h2 => exact ⟨_, _, rfl, h1, h2⟩
        have tyU : TyX K H (.ref a2) (.type "tuple") := ty_of (.tup hs2 ha2)
        have tyV : TyX K H (.ref a1) (.type "tuple") := ty_of (.tup hs1 ha1)
        have e1 := dpAll_len ha1
        have e2 := dpAll_len ha2
        refine ⟨_, rfl, rfl, _, rfl, iteF ?_⟩
        refine ⟨_, rfl, _, _, _, _, false, rfl, .ty _, tyU, kit_ty (by decide +kernel), _, rfl, iteF ?_⟩
        refine ⟨_, rfl, _, _, _, _, false, rfl, .ty _, tyU, kit_ty (by decide +kernel), _, rfl, iteF ?_⟩
        refine ⟨_, rfl, _, _, _, _, false, rfl, .ty _, tyU, kit_ty (by decide +kernel), _, rfl, iteF ?_⟩
        refine ⟨_, rfl, _, _, _, _, false, rfl, .ty _, tyU, kit_ty (by decide +kernel), _, rfl, iteF (iteF ?_)⟩
        refine ⟨_, rfl, _, _, _, _, true, rfl, .ty _, tyU, kit_ty (by decide +kernel), _, rfl, iteT ?_⟩
        refine ⟨_, rfl, _, _, _, _, true, rfl, .ty _, tyV, kit_ty (by decide +kernel), _, rfl, iteF ?_⟩
        refine ⟨_, rfl, a1, xs1, rfl, .inr hs1, _, rfl, a2, xs2, rfl, .inr hs2, rfl, _, rfl, iteNS (by rw [e1, e2]) ?_⟩
        simp only [dp] at hd
        have hz2 : (xs2.length : Int) < 2 ^ 62 := by have := hd.1; omega
        refine ⟨_, rfl, a2, xs2, rfl, .inr hs2, _, rfl, (by omega), hz2, ?_⟩
        refine for_range (lo := 0) (n := (xs2.length : Int).toNat) (fun i σ H2 => ∃ y, σ = [some (.ref a1), some (.ref a2), y] ∧ H2 = H) ⟨none, rfl, rfl⟩ ?_ ?_
        · rintro i σ H2 hi ⟨y, rfl, rfl⟩
          have hi2 : i < ds.length := by omega
          obtain ⟨x1, g1, d1⟩ := dpAll_get ha1 (List.getElem?_eq_getElem hi2)
          obtain ⟨x2, g2, d2⟩ := dpAll_get ha2 (List.getElem?_eq_getElem hi2)
          have ei : (0 : Int) + (i : Int) = ((i : Nat) : Int) := by omega
          rw [ei]
          refine ⟨_, rfl, _, rfl, .inr (.inl ⟨_, _, _, _, rfl, rfl, hs1, atI_nat g1, _, rfl, _, rfl, .inr (.inl ⟨_, _, _, _, rfl, rfl, hs2, atI_nat g2, ?_⟩)⟩)⟩
          refine ⟨x1, x2, _, rfl, d1, d2, hd.2 _ (List.getElem_mem hi2), _, rfl, iteF ?_⟩
          exact ⟨_, rfl, rfl⟩
        · rintro σ H2 ⟨y, rfl, rfl⟩
          exact kk
      | dict ds => simp [dp] at hd
end
/-! ### data in the heap, and displays of data -/
theorem Same.seqT {K : PySem.W.Frag} {H H' : Hp} {a : Addr} {xs : List V} (e : Same H H') (h : SqT K H a xs) : SqT K H' a xs := by
  rcases h with h1 | h3
  · rcases h1 with h1 | h2
    · exact .inl (.inl (e _ _ h1))
    · obtain ⟨o, h2⟩ := h2
      exact .inl (.inr ⟨o, e _ _ h2⟩)
  · exact .inr h3
mutual
theorem dp_same {K : PySem.W.Frag} {H H' : Hp} (s : Same H H') : ∀ (d : PyData) (v : V), Dp K H v d → Dp K H' v d
  | .none, _, h => by cases h; exact .non
  | .bool b, _, h => by cases h; exact .bl b
  | .int i, _, h => by cases h; exact .int i
  | .str x, _, h => by cases h; exact .str x
  | .list ds, _, h => by
    cases h with
    | lst h1 h2 => exact .lst (s.seq h1) (dpAll_same s ds _ h2)
  | .tuple ds, _, h => by
    cases h with
    | tup h1 h2 => exact .tup (Same.seqT s h1) (dpAll_same s ds _ h2)
  | .dict kvs, _, h => by cases h
theorem dpAll_same {K : PySem.W.Frag} {H H' : Hp} (s : Same H H') : ∀ (ds : List PyData) (vs : List V), DpAll K H vs ds → DpAll K H' vs ds
  | [], _, h => by cases h; exact .nil
  | d :: ds, _, h => by
    cases h with
    | cons h1 h2 => exact .cons (dp_same s d _ h1) (dpAll_same s ds _ h2)
end
theorem same_new {H : Hp} {p : Addr} {o : HO} (n : H p = none) : Same H (upd H p o) := fun b x e => by
  rw [upd_ne (ne_of_none e n)]; exact e
/-- the heap without some objects -/
def mask (l : List Addr) (H : Hp) : Hp := fun a => if a ∈ l then none else H a
theorem mask_in {l : List Addr} {H : Hp} {a : Addr} (h : a ∈ l) : mask l H a = none := if_pos h
theorem mask_out {l : List Addr} {H : Hp} {a : Addr} (h : a ∉ l) : mask l H a = H a := if_neg h
theorem mask_sub (l : List Addr) (H : Hp) : Same (mask l H) H := fun a o e => by
  by_cases h : a ∈ l
  · rw [mask_in h] at e; cases e
  · rw [mask_out h] at e; exact e
theorem mask_same {l : List Addr} {H H' : Hp} (s : Same H H') : Same (mask l H) (mask l H') := fun a o e => by
  by_cases h : a ∈ l
  · rw [mask_in h] at e; cases e
  · rw [mask_out h] at e ⊢; exact s a o e
theorem mask_nil (H : Hp) : mask [] H = H := rfl
/-- what stands in H is there -/
abbrev Alive (l : List Addr) (H : Hp) : Prop := ∀ a ∈ l, ∃ o, H a = some o
theorem Alive.same {l : List Addr} {H H' : Hp} (h : Alive l H) (s : Same H H') : Alive l H' := fun a m => let ⟨o, e⟩ := h a m; ⟨o, s a o e⟩
theorem Alive.not {l : List Addr} {H : Hp} {p : Addr} (h : Alive l H) (n : H p = none) : p ∉ l := fun m => by
  obtain ⟨o, e⟩ := h p m
  rw [n] at e; cases e
theorem alive_nil {H : Hp} : Alive [] H := fun _ m => nomatch m
theorem mask_upd {l : List Addr} {H : Hp} {p : Addr} {o : HO} (h : p ∉ l) : mask l (upd H p o) p = some o := by
  rw [mask_out h, upd_same]
theorem Keeps.mask {p q : Addr} {H H' : Hp} (k : Keeps p q H H') : Same (mask [p, q] H) (mask [p, q] H') := fun a o e => by
  by_cases h : a ∈ [p, q]
  · rw [mask_in h] at e; cases e
  · rw [mask_out h] at e ⊢
    refine k a o (fun z => h ?_) (fun z => h ?_) e
    · rw [z]; exact List.mem_cons_self
    · rw [z]; exact List.mem_cons_of_mem _ List.mem_cons_self
theorem PoolAt.alive {H : Hp} {p q : Addr} {n : Nat} (h : PoolAt H p q n) : Alive [p, q] H := fun a m => by
  rcases List.mem_cons.mp m with rfl | m
  · exact h.p_some
  · rw [List.mem_singleton.mp m]; exact h.q_some
/-- which data an expression gives; it stays so when objects are added -/
abbrev DS := St → Hp → PyData → Prop
abbrev DSs := St → Hp → List PyData → Prop
def tDat (K : PySem.W.Frag) (D : DS) : TE := fun σ H Q => ∃ (l : List Addr) (d : PyData), Alive l H ∧ D σ (mask l H) d ∧ ∀ v H', Same H H' → Dp K (mask l H') v d → Q v H'
def tDats (K : PySem.W.Frag) (D : DSs) : TA := fun σ H Q => ∃ (l : List Addr) (ds : List PyData), Alive l H ∧ D σ (mask l H) ds ∧ ∀ vs H', Same H H' → DpAll K (mask l H') vs ds → Q vs H'
structure DE (X : Cx) (e : Expr) (D : DS) : Prop where
  pe : PE X e (tDat X.K D)
  mono : ∀ σ H H' d, Same H H' → D σ H d → D σ H' d
structure DA (X : Cx) (es : List Expr) (D : DSs) : Prop where
  pa : PA X es (tDats X.K D)
  mono : ∀ σ H H' ds, Same H H' → D σ H ds → D σ H' ds
def dNil : DSs := fun _ _ ds => ds = []
def dCons (D : DS) (Ds : DSs) : DSs := fun σ H ds => ∃ d r, ds = d :: r ∧ D σ H d ∧ Ds σ H r
def dTup (Ds : DSs) : DS := fun σ H d => ∃ ds, d = .tuple ds ∧ ds.length ≤ 1000 ∧ Ds σ H ds
def dLst (Ds : DSs) : DS := fun σ H d => ∃ ds, d = .list ds ∧ ds.length ≤ 1000 ∧ Ds σ H ds
def dVar (K : PySem.W.Frag) (i : Nat) : DS := fun σ H d => ∃ v, σ[i]? = some (some v) ∧ Dp K H v d
def dIs (d0 : PyData) : DS := fun _ _ d => d = d0
section
variable {X : Cx} {e : Expr} {es : List Expr} {t : TE} {D : DS} {Ds : DSs} {pos : Pos}
theorem de_of (h : PE X e t) (w : ∀ σ H Q, tDat X.K D σ H Q → t σ H Q) (m : ∀ σ H H' d, Same H H' → D σ H d → D σ H' d) : DE X e D :=
  ⟨⟨fun pins s σ H Q I q => h.run pins s σ H Q I (w σ H Q q)⟩, m⟩
theorem de_str {x : Str} {j} : DE X (.Constant (.str x) j pos) (dIs (.str x)) :=
  de_of pe_str (fun _ H _ ⟨_, _, _, e, q⟩ => by cases e; exact q _ H (Same.refl H) (.str x)) fun _ _ _ _ _ h => h
theorem de_int {i : Int} {j} : DE X (.Constant (.int i) j pos) (dIs (.int i)) :=
  de_of pe_int (fun _ H _ ⟨_, _, _, e, q⟩ => by cases e; exact q _ H (Same.refl H) (.int i)) fun _ _ _ _ _ h => h
theorem de_bl {b : Bool} {j} : DE X (.Constant (.bool b) j pos) (dIs (.bool b)) :=
  de_of pe_bl (fun _ H _ ⟨_, _, _, e, q⟩ => by cases e; exact q _ H (Same.refl H) (.bl b)) fun _ _ _ _ _ h => h
theorem de_non {j} : DE X (.Constant .none j pos) (dIs .none) :=
  de_of pe_non (fun _ H _ ⟨_, _, _, e, q⟩ => by cases e; exact q _ H (Same.refl H) .non) fun _ _ _ _ _ h => h
theorem dv (i : Nat) {x : Str} (h : PE X (.Name x pos) (tVar i)) : DE X (.Name x pos) (dVar X.K i) :=
  de_of h (fun _ H _ ⟨_, _, _, ⟨v, e, hd⟩, q⟩ => ⟨v, e, q v H (Same.refl H) hd⟩) fun _ _ _ d s ⟨v, e, hd⟩ => ⟨v, e, dp_same s d v hd⟩
theorem da_nil : DA X [] dNil :=
  ⟨⟨fun pos pins s σ H Q I h => by
    obtain ⟨l, ds, _, e, q⟩ := h
    cases e
    exact pa_nil.run pos pins s σ H Q I (q [] H (Same.refl H) .nil)⟩, fun _ _ _ _ _ h => h⟩
theorem da_cons (h : DE X e D) (r : DA X es Ds) (hs : starEach (e :: es) X.env = (false, eval e X.env) :: starEach es X.env := by rfl) : DA X (e :: es) (dCons D Ds) :=
  ⟨⟨fun pos pins s σ H Q I hq => by
    obtain ⟨l, _, al, ⟨d, ds, rfl, h1, h2⟩, q⟩ := hq
    refine (pa_cons h.pe r.pa hs).run pos pins s σ H Q I ⟨l, d, al, h1, fun v H1 s1 hv => ⟨l, ds, al.same s1, r.mono _ _ _ _ (mask_same s1) h2, fun vs H2 s2 hvs => ?_⟩⟩
    exact q _ H2 (s1.trans s2) (.cons (dp_same (mask_same s2) d v hv) hvs)⟩,
   fun σ H H' ds s ⟨d, r', e, h1, h2⟩ => ⟨d, r', e, h.mono _ _ _ _ s h1, r.mono _ _ _ _ s h2⟩⟩
theorem len1000 {n : Nat} (h : n ≤ 1000) : n ≤ sizeLine := Nat.le_of_lt (small1000 h)
theorem de_tup {k} (h : DA X es Ds) : DE X (.Tuple es k pos) (dTup Ds) :=
  ⟨⟨fun pins s σ H Q I hq => by
    obtain ⟨l, _, al, ⟨ds, rfl, hl, h1⟩, q⟩ := hq
    refine (pe_tup h.pa).run pins s σ H Q I ⟨l, ds, al, h1, fun vs H1 s1 hv => ⟨by rw [dpAll_len hv]; exact len1000 hl, fun p np => ?_⟩⟩
    exact q _ _ (s1.trans (same_new np)) (.tup (SqT.of (mask_upd ((al.same s1).not np))) (dpAll_same (mask_same (same_new np)) _ _ hv))⟩,
   fun σ H H' d s ⟨ds, e, hl, h1⟩ => ⟨ds, e, hl, h.mono _ _ _ _ s h1⟩⟩
theorem de_lst (h : DA X es Ds) : DE X (.List es pos) (dLst Ds) :=
  ⟨⟨fun pins s σ H Q I hq => by
    obtain ⟨l, _, al, ⟨ds, rfl, hl, h1⟩, q⟩ := hq
    refine (pe_lst h.pa).run pins s σ H Q I ⟨l, ds, al, h1, fun vs H1 s1 hv => ⟨by rw [dpAll_len hv]; exact len1000 hl, fun p np => ?_⟩⟩
    exact q _ _ (s1.trans (same_new np)) (.lst (SqL.of (mask_upd ((al.same s1).not np))) (dpAll_same (mask_same (same_new np)) _ _ hv))⟩,
   fun σ H H' d s ⟨ds, e, hl, h1⟩ => ⟨ds, e, hl, h.mono _ _ _ _ s h1⟩⟩
end
theorem mask_new {l : List Addr} {H : Hp} {D : Addr} (n : H D = none) : Same (mask l H) (mask (D :: l) H) := fun a o e => by
  by_cases h : a ∈ D :: l
  · rcases List.mem_cons.mp h with rfl | h
    · have := mask_sub l H _ _ e
      rw [n] at this; cases this
    · rw [mask_in h] at e; cases e
  · rw [mask_out h]
    exact mask_sub l H _ _ e
theorem mask_less {l : List Addr} {H : Hp} {D : Addr} : Same (mask (D :: l) H) (mask l H) := fun a o e => by
  by_cases h : a ∈ D :: l
  · rw [mask_in h] at e; cases e
  · rw [mask_out h] at e
    rw [mask_out fun z => h (List.mem_cons_of_mem _ z)]
    exact e
theorem mask_at {l : List Addr} {H : Hp} {D : Addr} {o : HO} (m : D ∈ l) : Same (mask l H) (mask l (upd H D o)) := fun a u e => by
  by_cases h : a ∈ l
  · rw [mask_in h] at e; cases e
  · rw [mask_out h] at e ⊢
    rw [upd_ne fun z => h (by rw [z]; exact m)]
    exact e
theorem dpAll_app {K : PySem.W.Frag} {H : Hp} : ∀ {vs ws : List V} {ds es : List PyData}, DpAll K H vs ds → DpAll K H ws es → DpAll K H (vs ++ ws) (ds ++ es)
  | _, _, _, _, .nil, h => h
  | _, _, _, _, .cons h t, r => .cons h (dpAll_app t r)
theorem dpAll_drop {K : PySem.W.Frag} {H : Hp} : ∀ (n : Nat) {vs : List V} {ds : List PyData}, DpAll K H vs ds → DpAll K H (vs.drop n) (ds.drop n)
  | 0, _, _, h => h
  | n + 1, _, _, .nil => .nil
  | n + 1, _, _, .cons _ t => dpAll_drop n t
theorem dpAll_take {K : PySem.W.Frag} {H : Hp} : ∀ (n : Nat) {vs : List V} {ds : List PyData}, DpAll K H vs ds → DpAll K H (vs.take n) (ds.take n)
  | 0, _, _, _ => .nil
  | n + 1, _, _, .nil => .nil
  | n + 1, _, _, .cons h t => .cons h (dpAll_take n t)
theorem dpAll_at {K : PySem.W.Frag} {H : Hp} : ∀ {vs : List V} {ds : List PyData} {i : Nat} {v : V}, DpAll K H vs ds → vs[i]? = some v → ∃ d, ds[i]? = some d ∧ Dp K H v d
  | _, _, _, _, .nil, e => by simp at e
  | _, _, 0, _, .cons h _, e => by
    obtain rfl := Option.some.inj e
    exact ⟨_, rfl, h⟩
  | _, _, i + 1, _, .cons _ t, e => dpAll_at (i := i) t e
theorem dp_tup {K : PySem.W.Frag} {H : Hp} {v : V} {ds : List PyData} (h : Dp K H v (.tuple ds)) : ∃ a xs, v = .ref a ∧ SqT K H a xs ∧ DpAll K H xs ds := by
  cases h with
  | tup h1 h2 => exact ⟨_, _, rfl, h1, h2⟩
theorem dp_lst {K : PySem.W.Frag} {H : Hp} {v : V} {ds : List PyData} (h : Dp K H v (.list ds)) : ∃ a xs, v = .ref a ∧ SqL K H a xs ∧ DpAll K H xs ds := by
  cases h with
  | lst h1 h2 => exact ⟨_, _, rfl, h1, h2⟩
theorem dpAll_cons {K : PySem.W.Frag} {H : Hp} {vs : List V} {d : PyData} {ds : List PyData} (h : DpAll K H vs (d :: ds)) : ∃ v r, vs = v :: r ∧ Dp K H v d ∧ DpAll K H r ds := by
  cases h with
  | cons h1 h2 => exact ⟨_, _, rfl, h1, h2⟩
theorem dpAll_nil {K : PySem.W.Frag} {H : Hp} {vs : List V} (h : DpAll K H vs []) : vs = [] := by
  cases h; rfl
theorem dp_str {K : PySem.W.Frag} {H : Hp} {v : V} {x : Str} (h : Dp K H v (.str x)) : v = .str x := by
  cases h; rfl
theorem cut_tail {x : V} {r : List V} : cutV (x :: r) (some 1) none = r := by
  unfold cutV
  rw [show HT.sIx (x :: r).length 0 (some 1) = min 1 (x :: r).length from HT.sIx_nat _ 0 1, HT.sIx_none, List.length_cons, Nat.min_eq_left (by omega)]
  show List.take (r.length + 1 - 1) r = r
  rw [Nat.add_sub_cancel, List.take_length]
theorem cut_drop (xs : List V) (k : Nat) : cutV xs (some (k : Int)) none = xs.drop k := by
  unfold cutV
  rw [HT.sIx_nat, HT.sIx_none]
  by_cases h : k ≤ xs.length
  · rw [Nat.min_eq_left h]
    exact List.take_of_length_le (by rw [List.length_drop]; omega)
  · rw [Nat.min_eq_right (by omega), List.drop_of_length_le (Nat.le_refl _), List.drop_of_length_le (by omega)]; simp
/-! ### a written dict's get with a default -/
section
variable {X : Cx} {o e f : Expr} {apos cpos : Pos} {td ty tx : TE} {d : Addr} {es : Array DictEntry} {n : Nat}
def tKGet (K : PySem.W.Frag) (d : Addr) (td ty tx : TE) : TE := fun σ H Q => td σ H fun x H1 => x = .ref d ∧ ty σ H1 fun y H2 => tx σ H2 fun df H3 =>
  ∃ (z : Str) (r : Option Value), y = .str z ∧ PySem.W.nsIn K d z = some r ∧ (r = none → Q df H3) ∧ ∀ u0, r = some u0 → ∃ v0, RelV v0 u0 ∧ Q v0 H3
theorem pe_kget2 (D : KDict X.K X.w d es n) (ho : PE X o td) (he : PE X e ty) (hf : PE X f tx) (m : M2 X o "get" apos e f cpos) : PE X (.Call (.Attribute o "get" apos) [e, f] [] cpos) (tKGet X.K d td ty tx) := by
  refine ⟨fun pins s σ H Q I h => ?_⟩
  refine wpAny_Call_method m.base m.few m.line PySem.F.plainAttrs_dict PySem.F.slot_dict_get PySem.F.type_dict_get (thn (ho.run pins s σ H _ I h) fun u s1 hx => ?_)
  obtain ⟨x, H1, I1, rx, ex, q1⟩ := hx
  subst ex
  obtain rfl : u = Value.ref d := rx
  refine ⟨kd_type D I1, fun a ea => ?_, ?_⟩
  · cases ea
    exact ⟨_, I1.kIn _ _ D.at_, rfl⟩
  rw [m.trees]
  refine Calls.callWith_builtin rfl (Calls.evalArgs_plain (Calls.spliced_cons (thn (he.run pins s1 σ H1 _ I1 q1) fun iv s2 hy => ?_)))
  obtain ⟨y, H2, I2, ry, q2⟩ := hy
  refine Calls.spliced_cons (thn (hf.run pins s2 σ H2 _ I2 q2) fun fv s3 hz => Calls.spliced_nil ?_)
  obtain ⟨df, H3, I3, rz, z, r, ey, er, qn, qs⟩ := hz
  subst ey
  obtain ⟨t, rfl⟩ := ry
  refine call_meetsIn PySem.F.slot_dict_get (kd_type D I3) PySem.F.entry_dict_get (PySem.F.args_dict_get_3 _ _ _) (meets_dict_get_default (strKind X.prog X.w) d (PySem.strKind_is X.prog X.w z t) D.low _) ⟨_, PySem.W.mapOf_K (prog := X.prog) I3.kIn D.at_ D.lit, ?_⟩
  rw [PySem.W.find_K D.at_ er]
  cases r with
  | none => exact ⟨df, H3, I3.tok _, rz, qn rfl⟩
  | some u0 =>
    obtain ⟨v0, r0, q0⟩ := qs u0 rfl
    exact ⟨v0, H3, I3.tok _, r0, q0⟩
end
/-! ### looks -/
/-- the words of looks, each with the word of its quiet twin where it leaves a trace -/
def words : List (Str × Option Str) :=
  [("take", some "spy"), ("drain", some "spy"), ("roll", some "spy"), ("get", some "peek"), ("drop", some "has"), ("look", some "glance"), ("renew", some "glance"), ("read", some "watch"), ("mark", some "bound"),
   ("peek", none), ("has", none), ("size", none), ("keys", none), ("glance", none), ("watch", none), ("tell", none), ("bound", none), ("spy", none)]
/-- what the written dict says of them -/
structure Quiet (K : PySem.W.Frag) (w : World) (d : Addr) : Prop where
  kd : ∃ es n, KDict K w d es n
  says : ∀ p ∈ words, ∃ u : Option Value, PySem.W.nsIn K d p.1 = some u ∧ (p.2 = none → u = none) ∧ ∀ z, p.2 = some z → ∃ t, u = some (.str z t)
def spTrace (K : PySem.W.Frag) : Sp := fun vs H Q _ => ∃ (v : V) (p : Str × Option Str) (rest : List PyData), vs = [v] ∧ Dp K H v (.tuple (.str p.1 :: rest)) ∧ p ∈ words ∧ Q (.bl p.2.isSome) H
def spTwin (K : PySem.W.Frag) : Sp := fun vs H Q _ => ∃ (v : V) (p : Str × Option Str) (x : PyData) (rest : List PyData) (l : List Addr), vs = [v] ∧ Dp K (mask l H) v (.tuple (.str p.1 :: x :: rest)) ∧ rest.length ≤ 10 ∧ p ∈ words ∧ Alive l H ∧
  ∀ (u : V) (H' : Hp), Same H H' → Dp K (mask l H') u (.tuple (.str (p.2.getD p.1) :: x :: rest)) → Q u H'
def spThing (K : PySem.W.Frag) : Sp := fun vs H Q _ => ∃ (v : V) (d : PyData) (x : Str) (rest : List PyData), vs = [v] ∧ Dp K H v (.tuple (d :: .str x :: rest)) ∧ Q (.str x) H
section
variable {P : Program} {w : World} {K : PySem.W.Frag} {mg : Str → Option Value} {base : Heap}
theorem scT : FnScope ["look"] ["look"] (defScope sTrace) := ⟨rfl, rfl, rfl, by decide +kernel, rfl, by decide +kernel, by decide +kernel⟩
theorem ok_trace {f d : Addr} {fd : FuncData} {k : Nat} (F : Fun K "leaves_trace" "leaves_trace" sTrace f fd) (mq : mg "QUIET_WORDS" = some (.ref d)) (W : Quiet K w d) : FnOk P w K mg base CX0 (k + 1) f fd ["look"] (spTrace K) := by
  refine F.ok scT (fun vs H Q E h => ?_) (fun cdv A outer s H vs Q E hr h => ?_)
  · obtain ⟨v, p, rest, rfl, _⟩ := h
    rfl
  · obtain ⟨v, p, rest, rfl, hv, hp, kk⟩ := h
    obtain ⟨⟨es, n, D⟩, says⟩ := W
    refine ⟨_, pss_one (ps_ret (pe_cmpR (op_in_kd D) (pe_ix ix_tup (pv 0) pe_int (fun _ _ => rfl)) (pe_glob (v := .ref d) rfl mq rfl) rfl)), ?_⟩
    obtain ⟨a, xs, rfl, hs, ha⟩ := dp_tup hv
    obtain ⟨x, r, rfl, hx, _⟩ := dpAll_cons ha
    obtain rfl := dp_str hx
    obtain ⟨u, e, h0, h1⟩ := says p hp
    refine ⟨_, rfl, a, _, 0, _, rfl, rfl, hs, atI_nat (j := 0) rfl, p.1, u, rfl, rfl, e, ?_⟩
    have e2 : u.isSome = p.2.isSome := by
      cases q : p.2 with
      | none => rw [h0 q]; rfl
      | some z =>
        obtain ⟨t, e3⟩ := h1 z q
        rw [e3]; rfl
    rw [e2]
    exact kk
theorem scTw : FnScope ["look", "word"] ["look"] (defScope sTwin) := ⟨rfl, rfl, rfl, by decide +kernel, rfl, by decide +kernel, by decide +kernel⟩
theorem ok_twin {f d : Addr} {fd : FuncData} {k : Nat} (F : Fun K "quiet_twin" "quiet_twin" sTwin f fd) (mq : mg "QUIET_WORDS" = some (.ref d)) (W : Quiet K w d) : FnOk P w K mg base CX0 (k + 1) f fd ["look"] (spTwin K) := by
  refine F.ok scTw (fun vs H Q E h => ?_) (fun cdv A outer s H vs Q E hr h => ?_)
  · obtain ⟨v, p, x, rest, l, rfl, _⟩ := h
    rfl
  · obtain ⟨v, p, x, rest, l, rfl, hv, hl, hp, al, kk⟩ := h
    obtain ⟨⟨es, n, D⟩, says⟩ := W
    refine ⟨_, C8.pss_cut (ps_set (i := 1) scTw.nd rfl (.inl rfl) (pe_kget2 D (pe_glob (v := .ref d) rfl mq rfl) (pe_ix ix_tup (pv 0) pe_int (fun _ _ => rfl)) (pe_ix ix_tup (pv 0) pe_int (fun _ _ => rfl)) ⟨rfl, rfl, rfl, rfl⟩))
      (pss_one (ps_ret (pe_tup (pa_cons (pv 1) (StX.pa_star (pe_slice sl_tup (pv 0) (po_some pe_int) po_none) pa_nil))))), ?_⟩
    obtain ⟨a, xs, rfl, hs, ha⟩ := dp_tup hv
    obtain ⟨y, r, rfl, hy, hr1⟩ := dpAll_cons ha
    obtain rfl := dp_str hy
    obtain ⟨u, e, h0, h1⟩ := says p hp
    have hsH : SqT K H a (.str p.1 :: r) := Same.seqT (mask_sub l H) hs
    refine ⟨fun σ H1 => σ = [some (.ref a), some (.str (p.2.getD p.1))] ∧ H1 = H, ?_, ?_⟩
    · refine ⟨rfl, _, rfl, a, _, 0, _, rfl, rfl, hsH, atI_nat (j := 0) rfl, _, rfl, a, _, 0, _, rfl, rfl, hsH, atI_nat (j := 0) rfl, p.1, u, rfl, e, fun e0 => ?_, fun u0 eu => ?_⟩
      · cases q : p.2 with
        | none => exact ⟨rfl, rfl⟩
        | some z =>
          obtain ⟨t, e3⟩ := h1 z q
          rw [e3] at e0; cases e0
      · cases q : p.2 with
        | none => rw [h0 q] at eu; cases eu
        | some z =>
          obtain ⟨t, e3⟩ := h1 z q
          rw [e3] at eu
          cases eu
          exact ⟨.str z, ⟨t, rfl⟩, rfl, rfl⟩
    · rintro σ H1 ⟨rfl, rfl⟩
      refine ⟨_, rfl, _, rfl, 1, rfl, a, _, rfl, hsH, fun z => ?_, fun p1 n1 => ?_⟩
      · have z1 := z.1
        rw [show HT.sIx (V.str p.1 :: r).length 0 (some 1) = min 1 (V.str p.1 :: r).length from HT.sIx_nat _ 0 1, List.length_cons] at z1
        omega
      · rw [cut_tail]
        have er := dpAll_len hr1
        have al1 : Alive l (upd H1 p1 (.tup r)) := al.same (same_new n1)
        refine ⟨p1, r, rfl, .inl (SqT.of upd_same), ?_⟩
        refine ⟨by rw [List.append_nil, List.length_cons, er, List.length_cons]; exact len1000 (by omega), fun p2 n2 => ?_⟩
        have s2 : Same H1 (upd (upd H1 p1 (.tup r)) p2 (.tup (.str (p.2.getD p.1) :: (r ++ [])))) := (same_new n1).trans (same_new n2)
        refine kk _ _ s2 (.tup (SqT.of (mask_upd (al1.not n2))) ?_)
        simp only [List.append_nil] at s2 ⊢
        exact .cons (.str _) (dpAll_same (mask_same s2) _ _ hr1)
end

section
variable {P : Program} {w : World} {K : PySem.W.Frag} {mg : Str → Option Value} {base : Heap}
theorem scTh : FnScope ["look"] ["look"] (defScope sThing) := ⟨rfl, rfl, rfl, by decide +kernel, rfl, by decide +kernel, by decide +kernel⟩
theorem ok_thing {f : Addr} {fd : FuncData} {k : Nat} (F : Fun K "thing_of" "thing_of" sThing f fd) : FnOk P w K mg base CX0 (k + 1) f fd ["look"] (spThing K) := by
  refine F.ok scTh (fun vs H Q E h => ?_) (fun cdv A outer s H vs Q E hr h => ?_)
  · obtain ⟨v, d, x, rest, rfl, _⟩ := h
    rfl
  · obtain ⟨v, d, x, rest, rfl, hv, kk⟩ := h
    refine ⟨_, pss_one (ps_ret (pe_ix ix_tup (pv 0) pe_int (fun _ _ => rfl))), ?_⟩
    obtain ⟨a, xs, rfl, hs, ha⟩ := dp_tup hv
    obtain ⟨y, r, rfl, hy, hr1⟩ := dpAll_cons ha
    obtain ⟨z, r2, rfl, hz, _⟩ := dpAll_cons hr1
    obtain rfl := dp_str hz
    exact ⟨_, rfl, a, _, 1, _, rfl, rfl, hs, atI_nat (j := 1) rfl, kk⟩
end
/-! ### the law -/
def rowD (a : Str × Option Str) (args : List PyData) : PyData := .tuple [.tuple (.str a.1 :: args), .tuple (.str (a.2.getD a.1) :: args)]
def one (w : Str) (x : Str) : PyData := .tuple [.str w, .str x]
def two (w : Str) (x key : Str) : PyData := .tuple [.str w, .str x, .str key]
def twinsD (x key : Str) : List PyData := [.tuple [one "take" x, one "spy" x], .tuple [one "drain" x, one "spy" x], .tuple [one "roll" x, one "spy" x],
  .tuple [two "get" x key, two "peek" x key], .tuple [two "drop" x key, two "has" x key], .tuple [one "look" x, one "glance" x], .tuple [one "renew" x, one "glance" x], .tuple [one "read" x, one "watch" x], .tuple [one "mark" x, one "bound" x]]
def stillD (x key : Str) : List PyData := [two "peek" x key, two "has" x key, one "size" x, one "keys" x, one "glance" x, one "watch" x, one "tell" x, one "bound" x, one "spy" x]
/-- one of the eighteen rows -/
def RowOk (x key : Str) (d : PyData) : Prop := ∃ a ∈ words, ((a.2.getD a.1, none) ∈ words ∧ (a.2 = none ∨ a.2.getD a.1 ≠ a.1)) ∧ ∃ rest, (rest = [] ∨ rest = [.str key]) ∧ d = rowD a (.str x :: rest)
theorem words_ok : ∀ a ∈ words, (a.2.getD a.1, none) ∈ words ∧ (a.2 = none ∨ a.2.getD a.1 ≠ a.1) := by decide +kernel
theorem twins_ok (x key : Str) : ∀ d ∈ twinsD x key, RowOk x key d := by
  have one' : ∀ a b : Str, (a, some b) ∈ words → RowOk x key (.tuple [one a x, one b x]) := fun a b h => ⟨_, h, words_ok _ h, [], .inl rfl, rfl⟩
  have two' : ∀ a b : Str, (a, some b) ∈ words → RowOk x key (.tuple [two a x key, two b x key]) := fun a b h => ⟨_, h, words_ok _ h, [.str key], .inr rfl, rfl⟩
  intro d hd
  simp only [twinsD, List.mem_cons, List.not_mem_nil, or_false] at hd
  rcases hd with rfl | rfl | rfl | rfl | rfl | rfl | rfl | rfl | rfl
  · exact one' _ _ (by decide +kernel)
  · exact one' _ _ (by decide +kernel)
  · exact one' _ _ (by decide +kernel)
  · exact two' _ _ (by decide +kernel)
  · exact two' _ _ (by decide +kernel)
  · exact one' _ _ (by decide +kernel)
  · exact one' _ _ (by decide +kernel)
  · exact one' _ _ (by decide +kernel)
  · exact one' _ _ (by decide +kernel)
theorem still_ok (x key : Str) : ∀ d ∈ stillD x key, RowOk x key (.tuple [d, d]) := by
  have one' : ∀ a : Str, (a, none) ∈ words → RowOk x key (.tuple [one a x, one a x]) := fun a h => ⟨_, h, words_ok _ h, [], .inl rfl, rfl⟩
  have two' : ∀ a : Str, (a, none) ∈ words → RowOk x key (.tuple [two a x key, two a x key]) := fun a h => ⟨_, h, words_ok _ h, [.str key], .inr rfl, rfl⟩
  intro d hd
  simp only [stillD, List.mem_cons, List.not_mem_nil, or_false] at hd
  rcases hd with rfl | rfl | rfl | rfl | rfl | rfl | rfl | rfl | rfl
  · exact two' _ (by decide +kernel)
  · exact two' _ (by decide +kernel)
  · exact one' _ (by decide +kernel)
  · exact one' _ (by decide +kernel)
  · exact one' _ (by decide +kernel)
  · exact one' _ (by decide +kernel)
  · exact one' _ (by decide +kernel)
  · exact one' _ (by decide +kernel)
  · exact one' _ (by decide +kernel)
theorem words_str : ∀ a ∈ words, PyData.strOk a.1 = true ∧ PyData.strOk (a.2.getD a.1) = true := by decide +kernel
theorem word_str {x : Str} (h : IsWord x) : PyData.strOk x = true := by
  unfold PyData.strOk
  rw [Array.all_eq_true_iff_forall_mem]
  intro c hc
  have := (h.2.2 c (Array.mem_toList_iff.mpr hc)).2
  exact decide_eq_true (by omega)
theorem look_shaped {a x key : Str} {rest : List PyData} (ha : PyData.strOk a = true) (hx : PyData.strOk x = true) (hk : PyData.strOk key = true) (h : rest = [] ∨ rest = [.str key]) : SeqAt.shaped (.tuple (.str a :: .str x :: rest)) = true := by
  rcases h with rfl | rfl <;> simp [SeqAt.shaped, PyData.canLay0, PyData.canLayAll0, PyData.depth, PyData.depthAll, ha, hx, hk]
theorem look_dp (a x : Str) {key : Str} {rest : List PyData} (h : rest = [] ∨ rest = [.str key]) : dp 3 (.tuple (.str a :: .str x :: rest)) := by
  rcases h with rfl | rfl <;> simp [dp]
theorem list_dp (x : Str) : dp 3 (.list [.str x, .str x]) := by simp [dp]
theorem look_ne {w0 : Str × Option Str} (x : Str) {key : Str} {rest : List PyData} (h : rest = [] ∨ rest = [.str key]) (hw : w0.2 = none ∨ w0.2.getD w0.1 ≠ w0.1) (hx : PyData.strOk x = true) (hk : PyData.strOk key = true) :
    (!PyData.eqv (.tuple (.str w0.1 :: .str x :: rest)) (.tuple (.str (w0.2.getD w0.1) :: .str x :: rest))) = w0.2.isSome := by
  obtain ⟨a, b⟩ := w0
  cases b with
  | none => rcases h with rfl | rfl <;> simp [PyData.eqv, PyData.eqvAll]
  | some z =>
    have hz : ¬ a = z := fun e => by
      rcases hw with e2 | e2
      · cases e2
      · exact e2 e.symm
    rcases h with rfl | rfl <;> simp [PyData.eqv, PyData.eqvAll, hz]
def spLaw (K : PySem.W.Frag) : Sp := fun vs H Q _ => ∃ (a : Addr) (ns : List Int), vs = [.ref a] ∧ SqL K H a (ns.map V.int) ∧ ns.length ≤ 63 ∧ ∀ H', Q (.bl true) H'
section
variable {P : Program} {w : World} {K : PySem.W.Frag} {mg : Str → Option Value} {base : Heap}
theorem scL : FnScope ["script", "pool", "turn", "x", "key", "twins", "still", "look", "rows", "begin", "twin"] ["script"] (defScope sLaw) := ⟨rfl, rfl, rfl, by decide +kernel, rfl, by decide +kernel, by decide +kernel⟩
/-- the defs that the law calls -/
structure Defs (P : Program) (w : World) (K : PySem.W.Frag) (mg : Str → Option Value) (base : Heap) where
  (fP fD fW fS fT fTw fTh : Addr)
  (dP dD dW dS dT dTw dTh : FuncData)
  gP : FnOk P w K mg base CX0 1 fP dP ["script"] (spPool K)
  gD : FnOk P w K mg base CX0 1 fD dD ["pool", "many"] spDraw
  gW : FnOk P w K mg base CX0 2 fW dW ["pool"] spWord
  gS : FnOk P w K mg base CX0 3 fS dS ["actual", "due"] (spSame K 3)
  gT : FnOk P w K mg base CX0 1 fT dT ["look"] (spTrace K)
  gTw : FnOk P w K mg base CX0 1 fTw dTw ["look"] (spTwin K)
  gTh : FnOk P w K mg base CX0 1 fTh dTh ["look"] (spThing K)
  bP : Binds K dP ["script"] []
  bD : Binds K dD ["pool", "many"] []
  bW : Binds K dW ["pool"] []
  bS : Binds K dS ["actual", "due"] []
  bT : Binds K dT ["look"] []
  bTw : Binds K dTw ["look"] []
  bTh : Binds K dTh ["look"] []
  mP : mg "_law_pool" = some (.ref fP)
  mD : mg "_law_draw" = some (.ref fD)
  mW : mg "_law_word" = some (.ref fW)
  mS : mg "_law_same" = some (.ref fS)
  mT : mg "leaves_trace" = some (.ref fT)
  mTw : mg "quiet_twin" = some (.ref fTw)
  mTh : mg "thing_of" = some (.ref fTh)
  kP : PySem.W.keepIn K (.ref fP) = true
  kD : PySem.W.keepIn K (.ref fD) = true
  kW : PySem.W.keepIn K (.ref fW) = true
  kS : PySem.W.keepIn K (.ref fS) = true
  kT : PySem.W.keepIn K (.ref fT) = true
  kTw : PySem.W.keepIn K (.ref fTw) = true
  kTh : PySem.W.keepIn K (.ref fTh) = true
theorem ok_law {f : Addr} {fd : FuncData} (F : Fun K "law" "law" sLaw f fd) (G : Defs P w K mg base) (B : Bts mg) : FnOk P w K mg base CX0 4 f fd ["script"] (spLaw K) := by
  refine F.ok scL (fun vs H Q E h => ?_) (fun cdv A outer s H vs Q E hr h => ?_)
  · obtain ⟨a, ns, rfl, _⟩ := h
    rfl
  · obtain ⟨a, ns, rfl, hS, hlen, kk⟩ := h
    have hr1 : Room 1 _ := hr.mono (by decide)
    have hr2 : Room 2 _ := hr.mono (by decide)
    refine ⟨_, pss_cons (ps_set (i := 1) scL.nd rfl (.inl rfl) (pe_call G.gP hr1 (by rfl) G.mP G.kP G.bP .nil pass0 (pa_cons (pv 0) pa_nil)))
      (pss_cons (ps_for PassesOwn.never rfl (pi_range1 rfl B.range (pa_cons pe_int pa_nil)) (pg_name (i := 2) scL.nd rfl (.inl rfl))
        (pss_cons (ps_set (i := 3) scL.nd rfl (.inl rfl) (pe_call G.gW hr2 (by rfl) G.mW G.kW G.bW .nil pass0 (pa_cons (pv 1) pa_nil)))
        (pss_cons (ps_set (i := 4) scL.nd rfl (.inl rfl) (pe_call G.gW hr2 (by rfl) G.mW G.kW G.bW .nil pass0 (pa_cons (pv 1) pa_nil)))
        (pss_cons (ps_set (i := 5) scL.nd rfl (.inl rfl) (pe_lst (DA.pa (da_cons (de_tup (da_cons (de_tup (da_cons de_str (da_cons (dv 3 (pv 3)) da_nil))) (da_cons (de_tup (da_cons de_str (da_cons (dv 3 (pv 3)) da_nil))) da_nil)))
            (da_cons (de_tup (da_cons (de_tup (da_cons de_str (da_cons (dv 3 (pv 3)) da_nil))) (da_cons (de_tup (da_cons de_str (da_cons (dv 3 (pv 3)) da_nil))) da_nil)))
            (da_cons (de_tup (da_cons (de_tup (da_cons de_str (da_cons (dv 3 (pv 3)) da_nil))) (da_cons (de_tup (da_cons de_str (da_cons (dv 3 (pv 3)) da_nil))) da_nil)))
            (da_cons (de_tup (da_cons (de_tup (da_cons de_str (da_cons (dv 3 (pv 3)) (da_cons (dv 4 (pv 4)) da_nil)))) (da_cons (de_tup (da_cons de_str (da_cons (dv 3 (pv 3)) (da_cons (dv 4 (pv 4)) da_nil)))) da_nil)))
            (da_cons (de_tup (da_cons (de_tup (da_cons de_str (da_cons (dv 3 (pv 3)) (da_cons (dv 4 (pv 4)) da_nil)))) (da_cons (de_tup (da_cons de_str (da_cons (dv 3 (pv 3)) (da_cons (dv 4 (pv 4)) da_nil)))) da_nil)))
            (da_cons (de_tup (da_cons (de_tup (da_cons de_str (da_cons (dv 3 (pv 3)) da_nil))) (da_cons (de_tup (da_cons de_str (da_cons (dv 3 (pv 3)) da_nil))) da_nil)))
            (da_cons (de_tup (da_cons (de_tup (da_cons de_str (da_cons (dv 3 (pv 3)) da_nil))) (da_cons (de_tup (da_cons de_str (da_cons (dv 3 (pv 3)) da_nil))) da_nil)))
            (da_cons (de_tup (da_cons (de_tup (da_cons de_str (da_cons (dv 3 (pv 3)) da_nil))) (da_cons (de_tup (da_cons de_str (da_cons (dv 3 (pv 3)) da_nil))) da_nil)))
            (da_cons (de_tup (da_cons (de_tup (da_cons de_str (da_cons (dv 3 (pv 3)) da_nil))) (da_cons (de_tup (da_cons de_str (da_cons (dv 3 (pv 3)) da_nil))) da_nil)))
            da_nil))))))))))))
        (pss_cons (ps_set (i := 6) scL.nd rfl (.inl rfl) (pe_lst (DA.pa (da_cons (de_tup (da_cons de_str (da_cons (dv 3 (pv 3)) (da_cons (dv 4 (pv 4)) da_nil))))
            (da_cons (de_tup (da_cons de_str (da_cons (dv 3 (pv 3)) (da_cons (dv 4 (pv 4)) da_nil))))
            (da_cons (de_tup (da_cons de_str (da_cons (dv 3 (pv 3)) da_nil)))
            (da_cons (de_tup (da_cons de_str (da_cons (dv 3 (pv 3)) da_nil)))
            (da_cons (de_tup (da_cons de_str (da_cons (dv 3 (pv 3)) da_nil)))
            (da_cons (de_tup (da_cons de_str (da_cons (dv 3 (pv 3)) da_nil)))
            (da_cons (de_tup (da_cons de_str (da_cons (dv 3 (pv 3)) da_nil)))
            (da_cons (de_tup (da_cons de_str (da_cons (dv 3 (pv 3)) da_nil)))
            (da_cons (de_tup (da_cons de_str (da_cons (dv 3 (pv 3)) da_nil))) da_nil))))))))))))
        (pss_cons (ps_set (i := 8) scL.nd rfl (.inl rfl) (pe_op op_cat (pv 5) (pe_lc (own := [("look", 7)]) (g := gName 7) (tt := tYes) rfl scL.nd (pi_list (pv 6)) (blkOk_by (N := ["script", "pool", "turn", "x", "key", "twins", "still", "look", "rows", "begin", "twin"]) (sc := defScope sLaw) (by decide +kernel))
            (fun _ _ _ _ _ => pg_name (i := 7) scL.nd rfl (.inl rfl)) (fun _ _ _ _ _ => pts_nil) (fun _ _ _ _ _ => pe_tup (pa_cons (pv 7) (pa_cons (pv 7) pa_nil))))))
        (pss_cons (ps_set (i := 9) scL.nd rfl (.inl rfl) (pe_call G.gD hr1 (by rfl) G.mD G.kD G.bD .nil pass0 (pa_cons (pv 1) (pa_cons pe_int pa_nil))))
        (pss_one (ps_for PassesOwn.never rfl (pi_list (pe_op op_cat (pe_slice sl_list (pv 8) (po_some (pv 9)) po_none) (pe_slice sl_list (pv 8) po_none (po_some (pv 9)))))
            (pg_tup rfl (pgs_cons (pg_name (i := 7) scL.nd rfl (.inl rfl)) (pgs_cons (pg_name (i := 10) scL.nd rfl (.inl rfl)) pgs_nil)))
          (pss_cons (ps_if (PW.pt (pw_or (pt_not (pt_val (pe_call G.gS hr (by rfl) G.mS G.kS G.bS .nil pass0 (pa_cons (pe_call G.gT hr1 (by rfl) G.mT G.kT G.bT .nil pass0 (pa_cons (pv 7) pa_nil)) (pa_cons (pe_cmpR (op_neD hr.units) (pv 7) (pv 10) (nomark _)) pa_nil)))))
              (pw_or1 (pt_not (pt_val (pe_call G.gS hr (by rfl) G.mS G.kS G.bS .nil pass0 (pa_cons (pe_call G.gTw hr1 (by rfl) G.mTw G.kTw G.bTw .nil pass0 (pa_cons (pv 7) pa_nil)) (pa_cons (pv 10) pa_nil))))))))
            (pss_one (ps_ret pe_bl)) pss_nil)
          (pss_cons (ps_if (pt_not (pt_val (pe_call G.gS hr (by rfl) G.mS G.kS G.bS .nil pass0 (pa_cons (pe_lst (pa_cons (pe_call G.gTh hr1 (by rfl) G.mTh G.kTh G.bTh .nil pass0 (pa_cons (pv 7) pa_nil)) (pa_cons (pe_call G.gTh hr1 (by rfl) G.mTh G.kTh G.bTh .nil pass0 (pa_cons (pv 10) pa_nil)) pa_nil)))
              (pa_cons (DE.pe (de_lst (da_cons (dv 3 (pv 3)) (da_cons (dv 3 (pv 3)) da_nil)))) pa_nil))))) (pss_one (ps_ret pe_bl)) pss_nil)
          (pss_one (ps_if (PW.pt (pw_or (pt_not (pt_val (pe_call G.gS hr (by rfl) G.mS G.kS G.bS .nil pass0 (pa_cons (pe_call G.gTw hr1 (by rfl) G.mTw G.kTw G.bTw .nil pass0 (pa_cons (pv 10) pa_nil)) (pa_cons (pv 10) pa_nil)))))
              (pw_or1 (pt_not (pt_val (pe_call G.gS hr (by rfl) G.mS G.kS G.bS .nil pass0 (pa_cons (pe_call G.gT hr1 (by rfl) G.mT G.kT G.bT .nil pass0 (pa_cons (pv 10) pa_nil)) (pa_cons pe_bl pa_nil))))))))
            (pss_one (ps_ret pe_bl)) pss_nil)))))))))))))
      (pss_one (ps_ret pe_bl))), ?_⟩
    refine ⟨.ref a, rfl, a, ns, rfl, hS, hlen, fun p q H1 np nq P1 s1 => ?_⟩
    refine ⟨4, rfl, by decide, by decide, for_range (lo := 0) (n := 4) (fun i σ H2 => ∃ (n : Nat) (y2 y3 y4 y5 y6 y7 y8 y9 y10 : Option V), σ = [some (.ref a), some (.ref p), y2, y3, y4, y5, y6, y7, y8, y9, y10] ∧ n ≤ 100 * i ∧ PoolAt H2 p q n)
      ⟨0, none, none, none, none, none, none, none, none, none, rfl, by omega, P1⟩ ?_ ?_⟩
    · rintro i σ H2 hi ⟨n, y2, y3, y4, y5, y6, y7, y8, y9, y10, rfl, hn, P2⟩
      refine ⟨_, rfl, p, q, n, rfl, P2, by omega, fun x n3 H3 hx h31 h32 P3 K3 => ?_⟩
      refine ⟨_, rfl, p, q, n3, rfl, P3, by omega, fun key n4 H4 hkey h41 h42 P4 K4 => ?_⟩
      refine ⟨[p, q], twinsD x key, P4.alive, ?_, fun vs5 H5 s5 hv5 => ⟨by rw [dpAll_len hv5]; exact len1000 (by show 9 ≤ 1000; decide), fun r5 n5 => ?_⟩⟩
      · repeat' first | exact rfl | exact ⟨_, rfl, .str _⟩ | refine ⟨_, _, rfl, ?_, ?_⟩ | refine ⟨_, rfl, Nat.le_of_ble_eq_true rfl, ?_⟩
      have hA5 : Alive [p, q] H5 := P4.alive.same s5
      refine ⟨[p, q], stillD x key, hA5.same (same_new n5), ?_, fun vs6 H6 s6 hv6 => ⟨by rw [dpAll_len hv6]; exact len1000 (by show 9 ≤ 1000; decide), fun r6 n6 => ?_⟩⟩
      · repeat' first | exact rfl | exact ⟨_, rfl, .str _⟩ | refine ⟨_, _, rfl, ?_, ?_⟩ | refine ⟨_, rfl, Nat.le_of_ble_eq_true rfl, ?_⟩
      -- rows = twins + [(look, look) for look in still]
      have e5 : (upd H5 r5 (.lst vs5)) r5 = some (.lst vs5) := upd_same
      have hv5' : DpAll K (mask [p, q] (upd H5 r5 (.lst vs5))) vs5 (twinsD x key) := dpAll_same (mask_same (same_new n5)) _ _ hv5
      have P5 : PoolAt (upd H5 r5 (.lst vs5)) p q n4 := (P4.same s5).same (same_new n5)
      generalize upd H5 r5 (.lst vs5) = H5' at *
      have e6 : (upd H6 r6 (.lst vs6)) r6 = some (.lst vs6) := upd_same
      have hv6' : DpAll K (mask [p, q] (upd H6 r6 (.lst vs6))) vs6 (stillD x key) := dpAll_same (mask_same (same_new n6)) _ _ hv6
      have e65 : (upd H6 r6 (.lst vs6)) r5 = some (.lst vs5) := same_new n6 _ _ (s6 _ _ e5)
      have hv56 : DpAll K (mask [p, q] (upd H6 r6 (.lst vs6))) vs5 (twinsD x key) := dpAll_same (mask_same (s6.trans (same_new n6))) _ _ hv5'
      have P6 : PoolAt (upd H6 r6 (.lst vs6)) p q n4 := (P5.same s6).same (same_new n6)
      have l6 : vs6.length = 9 := dpAll_len hv6
      have l5 : vs5.length = 9 := dpAll_len hv5
      generalize upd H6 r6 (.lst vs6) = H6' at *
      refine ⟨_, rfl, _, rfl, r6, rfl, ⟨_, SqL.of e6⟩, fun D nD => ?_⟩
      have nDl : D ∉ [p, q] := P6.alive.not nD
      refine lc_list (K := K) (a := r6) (xs := vs6) (fun i H => ∃ acc : List V, H D = some (.lst acc) ∧ acc.length = i ∧ DpAll K (mask [D, p, q] H) acc (((stillD x key).take i).map fun d => .tuple [d, d]) ∧ Same H6' H)
        ⟨[], upd_same, rfl, .nil, same_new nD⟩ (fun i H _ ⟨_, _, _, _, s⟩ => s.seq (SqL.of e6)) (fun i y H7 hy hI => ?_) (fun H7 hI => ?_)
      · obtain ⟨acc, eD, el, ha, s7⟩ := hI
        obtain ⟨d, ed, hd⟩ := dpAll_at hv6' hy
        refine ⟨rfl, ?_⟩
        refine ⟨_, rfl, _, rfl, by show 2 ≤ sizeLine; decide, fun t nt => ?_⟩
        have htD : t ≠ D := (ne_of_none eD nt).symm
        have hi9 : i < 9 := by
          have := (List.getElem?_eq_some_iff.mp hy).1
          omega
        refine ⟨acc, by rw [upd_ne htD.symm]; exact eD, small1000 (by omega), acc ++ [.ref t], upd_same, by rw [List.length_append, el]; rfl, ?_, ?_⟩
        · have sA : Same (mask [D, p, q] H7) (mask [D, p, q] (upd (upd H7 t (.tup [y, y])) D (.lst (acc ++ [.ref t])))) := (mask_same (same_new nt)).trans (mask_at List.mem_cons_self)
          have hd7 : Dp K (mask [D, p, q] (upd (upd H7 t (.tup [y, y])) D (.lst (acc ++ [.ref t])))) y d := dp_same (((mask_new nD).trans (mask_same s7)).trans sA) _ _ hd
          rw [List.take_add_one, ed, List.map_append]
          refine dpAll_app (dpAll_same sA _ _ ha) (.cons (.tup (SqT.of (xs := [y, y]) ?_) (.cons hd7 (.cons hd7 .nil))) .nil)
          have ntl : t ∉ [D, p, q] := fun m => by
            rcases List.mem_cons.mp m with z | z
            · exact htD z
            · exact (P6.same s7).alive.not nt z
          rw [mask_out ntl, upd_ne htD, upd_same]
        · intro b o e
          have nb : b ≠ D := ne_of_none e nD
          rw [upd_ne nb]
          exact same_new nt _ _ (s7 b o e)
      · obtain ⟨acc, eD, el, ha, s7⟩ := hI
        have h9 : (stillD x key).take vs6.length = stillD x key := by rw [l6]; rfl
        rw [h9] at ha
        refine ⟨r5, D, vs5, acc, rfl, rfl, s7 _ _ e65, eD, by rw [l5, el, l6]; exact len1000 (by decide), fun r8 n8 => ?_⟩
        have P7 : PoolAt H7 p q n4 := P6.same s7
        have P8 : PoolAt (upd H7 r8 (.lst (vs5 ++ acc))) p q n4 := P7.same (same_new n8)
        have nr8 : r8 ∉ [p, q] := P7.alive.not n8
        have hv8 : DpAll K (mask [p, q] (upd H7 r8 (.lst (vs5 ++ acc)))) (vs5 ++ acc) (twinsD x key ++ (stillD x key).map fun d => .tuple [d, d]) :=
          dpAll_app (dpAll_same (mask_same (s7.trans (same_new n8))) _ _ hv56) (dpAll_same ((mask_less (l := [p, q]) (D := D)).trans (mask_same (same_new n8))) _ _ ha)
        have e8 : (mask [p, q] (upd H7 r8 (.lst (vs5 ++ acc)))) r8 = some (.lst (vs5 ++ acc)) := mask_upd nr8
        have ok8 : ∀ d ∈ (twinsD x key ++ (stillD x key).map fun d => .tuple [d, d]), RowOk x key d := by
          intro d hd
          rcases List.mem_append.mp hd with hd | hd
          · exact twins_ok x key d hd
          · obtain ⟨d', h1, rfl⟩ := List.mem_map.mp hd
            exact still_ok x key d' h1
        have l8 : (vs5 ++ acc).length = 18 := by rw [List.length_append, l5, el, l6]
        generalize (twinsD x key ++ (stillD x key).map fun d => .tuple [d, d]) = ds8 at *
        generalize vs5 ++ acc = vs8 at *
        generalize upd H7 r8 (.lst vs8) = H8 at *
        -- begin
        refine ⟨_, rfl, p, q, n4, 18, rfl, P8, by omega, by decide, by decide, fun b H9 hb0 hb1 P9 K9 => ?_⟩
        have hv9 := dpAll_same K9.mask _ _ hv8
        have e9 : H9 r8 = some (.lst vs8) := mask_sub _ _ _ _ (K9.mask _ _ e8)
        obtain ⟨m, rfl⟩ : ∃ m : Nat, b = (m : Int) := ⟨b.toNat, by omega⟩
        -- for look, twin in rows[begin:] + rows[:begin]
        refine ⟨_, rfl, _, rfl, m, rfl, r8, vs8, rfl, SqL.of e9, fun r10 n10 => ?_⟩
        rw [cut_drop]
        refine ⟨_, rfl, _, rfl, m, rfl, r8, vs8, rfl, SqL.of (same_new n10 _ _ e9), fun r11 n11 => ?_⟩
        rw [cut_take]
        have e10 : (upd H9 r10 (.lst (vs8.drop m))) r10 = some (.lst (vs8.drop m)) := upd_same
        refine ⟨r10, r11, vs8.drop m, vs8.take m, rfl, rfl, same_new n11 _ _ e10, upd_same, by rw [List.length_drop, List.length_take]; exact len1000 (by omega), fun r12 n12 => ?_⟩
        have s12 : Same H9 (upd (upd (upd H9 r10 (.lst (vs8.drop m))) r11 (.lst (vs8.take m))) r12 (.lst (vs8.drop m ++ vs8.take m))) := ((same_new n10).trans (same_new n11)).trans (same_new n12)
        have e12 : (upd (upd (upd H9 r10 (.lst (vs8.drop m))) r11 (.lst (vs8.take m))) r12 (.lst (vs8.drop m ++ vs8.take m))) r12 = some (.lst (vs8.drop m ++ vs8.take m)) := upd_same
        have hv12 := dpAll_app (dpAll_drop m (dpAll_same (mask_same (l := [p, q]) s12) _ _ hv9)) (dpAll_take m (dpAll_same (mask_same (l := [p, q]) s12) _ _ hv9))
        have P12 := P9.same s12
        have ok12 : ∀ d ∈ ds8.drop m ++ ds8.take m, RowOk x key d := fun d hd => by
          rcases List.mem_append.mp hd with hd | hd
          · exact ok8 d (List.mem_of_mem_drop hd)
          · exact ok8 d (List.mem_of_mem_take hd)
        generalize ds8.drop m ++ ds8.take m = ds12 at *
        generalize vs8.drop m ++ vs8.take m = vs12 at *
        generalize upd (upd (upd H9 r10 (.lst (vs8.drop m))) r11 (.lst (vs8.take m))) r12 (.lst vs12) = H12 at *
        refine ⟨r12, rfl, ⟨_, SqL.of e12⟩, for_list (K := K) (a := r12) (xs := vs12) (fun j σ H => ∃ z7 z10 : Option V, σ = [some (.ref a), some (.ref p), some (.int (0 + (i : Int))), some (.str x), some (.str key), some (.ref r5), some (.ref r6), z7, some (.ref r8), some (.int (m : Int)), z10] ∧ Same H12 H)
          ⟨_, _, rfl, Same.refl _⟩ (fun _ _ H _ ⟨_, _, _, s⟩ => s.seq (SqL.of e12)) ?_ ?_⟩
        · rintro j v σ H hv ⟨z7, z10, rfl, s13⟩
          obtain ⟨d, ed, hd⟩ := dpAll_at hv12 hv
          obtain ⟨w0, hw0, ⟨hw1, hw2⟩, rest, hrest, rfl⟩ := ok12 d (List.mem_of_getElem? ed)
          obtain ⟨t, xs, rfl, ht, hxs⟩ := dp_tup (dp_same ((mask_same s13).trans (mask_sub _ _)) _ _ hd)
          obtain ⟨v1, r1, rfl, hd1, hxs⟩ := dpAll_cons hxs
          obtain ⟨v2, r2, rfl, hd2, hxs⟩ := dpAll_cons hxs
          obtain rfl := dpAll_nil hxs
          obtain ⟨so1, so2⟩ := words_str w0 hw0
          have sox := word_str hx
          have sok := word_str hkey
          have sh1 := look_shaped so1 sox sok hrest
          have sh2 := look_shaped so2 sox sok hrest
          have dp1 := look_dp w0.1 x hrest
          have dp2 := look_dp (w0.2.getD w0.1) x hrest
          have hr10 : rest.length ≤ 10 := by rcases hrest with rfl | rfl <;> exact Nat.le_of_ble_eq_true rfl
          have hne := look_ne x hrest hw2 sox sok
          refine ⟨t, [v1, v2], rfl, ht, rfl, v1, [v2], rfl, v2, [], rfl, rfl, ?_⟩
          -- leaves_trace(look), look != twin
          refine ⟨_, rfl, v1, w0, _, rfl, hd1, hw0, _, rfl, _, rfl, _, _, hd1, hd2, sh1, sh2, _, _, .bool w0.2.isSome, rfl, .bl _, (by rw [hne]; exact .bl _), trivial, _, rfl, iteF ?_⟩
          -- quiet_twin(look), twin
          refine ⟨_, rfl, v1, w0, .str x, rest, [], rfl, hd1, hr10, hw0, alive_nil, fun u H14 s14 hu14 => ⟨_, rfl, u, v2, _, rfl, hu14, dp_same s14 _ _ hd2, dp2, _, rfl, iteF ?_⟩⟩
          have hd1' := dp_same s14 _ _ hd1
          have hd2' := dp_same s14 _ _ hd2
          -- [thing_of(look), thing_of(twin)], [x, x]
          refine ⟨_, rfl, v1, _, x, rest, rfl, hd1', _, rfl, v2, _, x, rest, rfl, hd2', by show 2 ≤ sizeLine; decide, fun a1 na1 => ?_⟩
          refine ⟨[], .list [.str x, .str x], alive_nil, ⟨_, rfl, Nat.le_of_ble_eq_true rfl, _, _, rfl, ⟨_, rfl, .str _⟩, _, _, rfl, ⟨_, rfl, .str _⟩, rfl⟩, fun v3 H15 s15 hv15 => ?_⟩
          refine ⟨.ref a1, v3, .list [.str x, .str x], rfl, .lst (SqL.of (s15 _ _ upd_same)) (.cons (.str x) (.cons (.str x) .nil)), hv15, list_dp x, _, rfl, iteF ?_⟩
          have hd2'' := dp_same ((same_new na1).trans s15) _ _ hd2'
          -- quiet_twin(twin), twin
          refine ⟨_, rfl, v2, (w0.2.getD w0.1, none), .str x, rest, [], rfl, hd2'', hr10, hw1, alive_nil, fun u2 H16 s16 hu16 => ⟨_, rfl, u2, v2, _, rfl, hu16, dp_same s16 _ _ hd2'', dp2, _, rfl, iteF ?_⟩⟩
          -- leaves_trace(twin), False
          refine ⟨_, rfl, v2, (w0.2.getD w0.1, none), _, rfl, dp_same s16 _ _ hd2'', hw1, .bl false, .bl false, .bool false, rfl, .bl _, .bl _, trivial, _, rfl, iteF ?_⟩
          exact ⟨_, _, rfl, (s13.trans s14).trans (((same_new na1).trans s15).trans s16)⟩
        · rintro σ H ⟨z7, z10, rfl, s13⟩
          exact ⟨n4 + 1, _, _, _, _, _, _, _, _, _, rfl, by omega, P12.same s13⟩
    · rintro σ H2 _
      exact kk H2
end
/-! ### what the top has written -/
structure FunIn (K : PySem.W.Frag) (mg : Str → Option Value) (x : Str) (st : Stmt) (f : Addr) (fd : FuncData) : Prop where
  F : Fun K x x st f fd
  m : mg x = some (.ref f)
theorem fun_in {K : PySem.W.Frag} {h : Heap} {mg : Str → Option Value} {x : Str} {st : Stmt} {f : Addr} {oc : Value} {od an : Option Addr} {osl : Array (Option Value)} {kV doc pm cdv ct : Value} (X : K.In h) (G : h.Ns mainGlobals mg)
    (a : PySem.W.nsIn K mainGlobals x = some (some (.ref f))) (l : K.lookup f = some ⟨oc, od, .func (PySem.W.fnOf x x (defArgs st) (defBody st) (defScope st) .none kV doc pm an cdv ct), osl⟩)
    (c : PySem.W.codeIn K cdv x = true) (k : PySem.W.keepIn K (.ref f) = true) : ∃ f fd, FunIn K mg x st f fd :=
  ⟨f, _, fun_mk l c k, PySem.W.mg_of X G a⟩
theorem bts_in {K : PySem.W.Frag} {h : Heap} {mg : Str → Option Value} (X : K.In h) (G : h.Ns mainGlobals mg) (z1 : PySem.W.nsIn K mainGlobals "isinstance" = some none) (z2 : PySem.W.nsIn K mainGlobals "bool" = some none) (z3 : PySem.W.nsIn K mainGlobals "str" = some none)
    (z4 : PySem.W.nsIn K mainGlobals "int" = some none) (z5 : PySem.W.nsIn K mainGlobals "list" = some none) (z6 : PySem.W.nsIn K mainGlobals "tuple" = some none) (z7 : PySem.W.nsIn K mainGlobals "len" = some none) (z8 : PySem.W.nsIn K mainGlobals "range" = some none) : Bts mg :=
  ⟨PySem.W.mg_none_of X G z1, PySem.W.mg_none_of X G z2, PySem.W.mg_none_of X G z3, PySem.W.mg_none_of X G z4, PySem.W.mg_none_of X G z5, PySem.W.mg_none_of X G z6, PySem.W.mg_none_of X G z7, PySem.W.mg_none_of X G z8⟩
theorem quiet_in {K : PySem.W.Frag} {h : Heap} {mg : Str → Option Value} {w : World} {d : Addr} {es : Array DictEntry} {n : Nat} {t1 t2 t3 t4 t5 t6 t7 t8 t9 : Tok} (X : K.In h) (G : h.Ns mainGlobals mg) (mq0 : PySem.W.nsIn K mainGlobals "QUIET_WORDS" = some (some (.ref d))) (l : K.lookup d = some ⟨.type "dict", none, .dict es n, #[]⟩) (k : PySem.W.KeysLit w.params es.toList) (z : (d == sysModules) = false)
    (a1 : PySem.W.nsIn K d "take" = some (some (.str "spy" t1))) (a2 : PySem.W.nsIn K d "drain" = some (some (.str "spy" t2))) (a3 : PySem.W.nsIn K d "roll" = some (some (.str "spy" t3)))
    (a4 : PySem.W.nsIn K d "get" = some (some (.str "peek" t4))) (a5 : PySem.W.nsIn K d "drop" = some (some (.str "has" t5))) (a6 : PySem.W.nsIn K d "look" = some (some (.str "glance" t6)))
    (a7 : PySem.W.nsIn K d "renew" = some (some (.str "glance" t7))) (a8 : PySem.W.nsIn K d "read" = some (some (.str "watch" t8))) (a9 : PySem.W.nsIn K d "mark" = some (some (.str "bound" t9)))
    (b1 : PySem.W.nsIn K d "peek" = some none) (b2 : PySem.W.nsIn K d "has" = some none) (b3 : PySem.W.nsIn K d "size" = some none) (b4 : PySem.W.nsIn K d "keys" = some none) (b5 : PySem.W.nsIn K d "glance" = some none)
    (b6 : PySem.W.nsIn K d "watch" = some none) (b7 : PySem.W.nsIn K d "tell" = some none) (b8 : PySem.W.nsIn K d "bound" = some none) (b9 : PySem.W.nsIn K d "spy" = some none) : ∃ d, mg "QUIET_WORDS" = some (.ref d) ∧ Quiet K w d := by
  have y : ∀ (a b : Str) (t : Tok), PySem.W.nsIn K d a = some (some (.str b t)) → ∃ u : Option Value, PySem.W.nsIn K d ((a, some b) : Str × Option Str).1 = some u ∧ (((a, some b) : Str × Option Str).2 = none → u = none) ∧ ∀ z, ((a, some b) : Str × Option Str).2 = some z → ∃ t, u = some (.str z t) :=
    fun a b t e => ⟨_, e, fun h => by (cases h), fun z h => by
      obtain rfl := Option.some.inj h
      exact ⟨t, rfl⟩⟩
  have x : ∀ a : Str, PySem.W.nsIn K d a = some none → ∃ u : Option Value, PySem.W.nsIn K d ((a, none) : Str × Option Str).1 = some u ∧ (((a, none) : Str × Option Str).2 = none → u = none) ∧ ∀ z, ((a, none) : Str × Option Str).2 = some z → ∃ t, u = some (.str z t) :=
    fun a e => ⟨_, e, fun _ => rfl, fun z h => by cases h⟩
  refine ⟨d, PySem.W.mg_of X G mq0, ⟨es, n, l, k, z⟩, fun p hp => ?_⟩
  simp only [words, List.mem_cons, List.not_mem_nil, or_false] at hp
  rcases hp with rfl | rfl | rfl | rfl | rfl | rfl | rfl | rfl | rfl | rfl | rfl | rfl | rfl | rfl | rfl | rfl | rfl | rfl
  · exact y _ _ _ a1
  · exact y _ _ _ a2
  · exact y _ _ _ a3
  · exact y _ _ _ a4
  · exact y _ _ _ a5
  · exact y _ _ _ a6
  · exact y _ _ _ a7
  · exact y _ _ _ a8
  · exact y _ _ _ a9
  · exact x _ b1
  · exact x _ b2
  · exact x _ b3
  · exact x _ b4
  · exact x _ b5
  · exact x _ b6
  · exact x _ b7
  · exact x _ b8
  · exact x _ b9
end Qp
open PySem PySem.W PyProof.Rows
set_option maxRecDepth 100000 in
set_option maxHeartbeats 0 in
theorem PySem.Challenge.cw_quietprobes_k04_looks_and_quiet_twins_holds : PySem.Challenge.rw_quietprobes_k04_looks_and_quiet_twins.Holds := by
  w_on; o_law; k_head; (case hw => w_witness2)
  k_fill
  refine L2.walk_of (l := PySem.Challenge.rw_quietprobes_k04_looks_and_quiet_twins) (n := 63) (k := 4) (x := "script") (CX := fun _ => L2.CX0) (sp := fun w => Qp.spLaw _) rfl (by decide) rfl ⟨rfl, by decide, by decide⟩ (fun w h Y => PySem.W.kIn_of Y) ?F (fun _ _ a ns hl _ hS => ⟨a, ns, rfl, hS, hl, fun _ => rfl⟩) (fun _ _ _ _ _ h => h)
  case F =>
    intro w mg fa h KX G hmg
    obtain ⟨f1, fd1, F1⟩ : ∃ f fd, Qp.FunIn _ mg "_law_pool" Qp.sPool f fd := by
      refine' Qp.fun_in KX G ?a ?l ?c ?k
      (case a => k_is); (case l => k_is); (case c => k_is); (case k => k_is)
    obtain ⟨f2, fd2, F2⟩ : ∃ f fd, Qp.FunIn _ mg "_law_draw" Qp.sDraw f fd := by
      refine' Qp.fun_in KX G ?a ?l ?c ?k
      (case a => k_is); (case l => k_is); (case c => k_is); (case k => k_is)
    obtain ⟨f3, fd3, F3⟩ : ∃ f fd, Qp.FunIn _ mg "_law_word" Qp.sWord f fd := by
      refine' Qp.fun_in KX G ?a ?l ?c ?k
      (case a => k_is); (case l => k_is); (case c => k_is); (case k => k_is)
    obtain ⟨f4, fd4, F4⟩ : ∃ f fd, Qp.FunIn _ mg "_law_same" Qp.sSame f fd := by
      refine' Qp.fun_in KX G ?a ?l ?c ?k
      (case a => k_is); (case l => k_is); (case c => k_is); (case k => k_is)
    obtain ⟨f5, fd5, F5⟩ : ∃ f fd, Qp.FunIn _ mg "leaves_trace" Qp.sTrace f fd := by
      refine' Qp.fun_in KX G ?a ?l ?c ?k
      (case a => k_is); (case l => k_is); (case c => k_is); (case k => k_is)
    obtain ⟨f6, fd6, F6⟩ : ∃ f fd, Qp.FunIn _ mg "quiet_twin" Qp.sTwin f fd := by
      refine' Qp.fun_in KX G ?a ?l ?c ?k
      (case a => k_is); (case l => k_is); (case c => k_is); (case k => k_is)
    obtain ⟨f7, fd7, F7⟩ : ∃ f fd, Qp.FunIn _ mg "thing_of" Qp.sThing f fd := by
      refine' Qp.fun_in KX G ?a ?l ?c ?k
      (case a => k_is); (case l => k_is); (case c => k_is); (case k => k_is)
    obtain ⟨f8, fd8, F8⟩ : ∃ f fd, Qp.FunIn _ mg "law" Qp.sLaw f fd := by
      refine' Qp.fun_in KX G ?a ?l ?c ?k
      (case a => k_is); (case l => k_is); (case c => k_is); (case k => k_is)
    have B : Qp.Bts mg := by
      refine' Qp.bts_in KX G ?z1 ?z2 ?z3 ?z4 ?z5 ?z6 ?z7 ?z8
      (case z1 => k_is); (case z2 => k_is); (case z3 => k_is); (case z4 => k_is); (case z5 => k_is); (case z6 => k_is); (case z7 => k_is); (case z8 => k_is)
    obtain ⟨d, mq, W⟩ : ∃ d, mg "QUIET_WORDS" = some (.ref d) ∧ Qp.Quiet _ w d := by
      refine' Qp.quiet_in KX G ?mq0 ?l ?kk ?z ?a1 ?a2 ?a3 ?a4 ?a5 ?a6 ?a7 ?a8 ?a9 ?b1 ?b2 ?b3 ?b4 ?b5 ?b6 ?b7 ?b8 ?b9
      (case mq0 => k_is); (case l => k_is)
      (case kk => repeat (first | exact trivial | refine ⟨⟨_, _, rfl, rfl⟩, ?_⟩))
      (case z => decide)
      (case a1 => k_is); (case a2 => k_is); (case a3 => k_is); (case a4 => k_is); (case a5 => k_is); (case a6 => k_is); (case a7 => k_is); (case a8 => k_is); (case a9 => k_is)
      (case b1 => k_is); (case b2 => k_is); (case b3 => k_is); (case b4 => k_is); (case b5 => k_is); (case b6 => k_is); (case b7 => k_is); (case b8 => k_is); (case b9 => k_is)
    have bP := F1.F.binds (ps := ["script"]) fun _ _ _ _ _ _ us hl => match us, hl with | [_], _ => rfl
    have bD := F2.F.binds (ps := ["pool", "many"]) fun _ _ _ _ _ _ us hl => match us, hl with | [_, _], _ => rfl
    have bW := F3.F.binds (ps := ["pool"]) fun _ _ _ _ _ _ us hl => match us, hl with | [_], _ => rfl
    have bS := F4.F.binds (ps := ["actual", "due"]) fun _ _ _ _ _ _ us hl => match us, hl with | [_, _], _ => rfl
    have bT := F5.F.binds (ps := ["look"]) fun _ _ _ _ _ _ us hl => match us, hl with | [_], _ => rfl
    have bTw := F6.F.binds (ps := ["look"]) fun _ _ _ _ _ _ us hl => match us, hl with | [_], _ => rfl
    have bTh := F7.F.binds (ps := ["look"]) fun _ _ _ _ _ _ us hl => match us, hl with | [_], _ => rfl
    have e := hmg.symm.trans F8.m
    cases e
    obtain ⟨oc, od, kV, doc, pm, an, cdv, ct, osl, rfl, lk, hcd⟩ := F8.F.ex
    refine ⟨_, fun s v => .of_eq rfl, fun base _ _ => Qp.ok_law F8.F ?_ B⟩
    have gD := Qp.ok_draw (P := PySem.Challenge.rw_quietprobes_k04_looks_and_quiet_twins.prog) (w := w) (base := base) (k := 0) F2.F B.int
    exact ⟨f1, f2, f3, f4, f5, f6, f7, fd1, fd2, fd3, fd4, fd5, fd6, fd7, Qp.ok_pool F1.F B.list, gD, Qp.ok_word F3.F gD F2.m F2.F.kp bD B.range, Qp.ok_same F4.F B F4.m bS 3, Qp.ok_trace F5.F mq W, Qp.ok_twin F6.F mq W, Qp.ok_thing F7.F,
      bP, bD, bW, bS, bT, bTw, bTh, F1.m, F2.m, F3.m, F4.m, F5.m, F6.m, F7.m, F1.F.kp, F2.F.kp, F3.F.kp, F4.F.kp, F5.F.kp, F6.F.kp, F7.F.kp⟩
