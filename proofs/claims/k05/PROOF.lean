import PyProof.Rows.All
import Wide.All
import OpenK.AllK
import Wide.FinOn
import KE.KExcSuper
import KE.KExcIs
import KE.RegKSuper
import HandS.ForMost
import HandS.EndBits
import HandS.Wide
import HandS.Star
import HandS.IsInst
import HandS.Codes
import HandS.More
import HandS.FStrTup
import HandS.FStr
import HandS.ExcInit
import HandS.ExcField
import PySem.Challenge.RW_quietprobes_k05_errors_and_their_attribu
set_option Elab.async false
set_option maxRecDepth 100000
set_option maxHeartbeats 4000000
set_option linter.all false
namespace Qp
open PySem L2
def top (i : Nat) : Stmt := PySem.Challenge.pw_quietprobes_k05_errors_and_their_attribu.main.body.getD i (.Pass ⟨0, 0, 0, 0⟩)
abbrev sPool : Stmt := top 24
abbrev sDraw : Stmt := top 25
abbrev sWord : Stmt := top 26
abbrev sObj : Stmt := top 27
abbrev sSame : Stmt := top 28
abbrev sClasses : Stmt := top 29
abbrev sAttrs : Stmt := top 30
abbrev sLaw : Stmt := top 31
/-! ### the pool of drawn numbers -/
/-- all objects but the two of the pool stay -/
def Keeps (p q : Addr) (H H' : Hp) : Prop := ∀ x o, x ≠ p → x ≠ q → H x = some o → H' x = some o
theorem Keeps.refl (p q : Addr) (H : Hp) : Keeps p q H H := fun _ _ _ _ e => e
theorem Keeps.trans {p q : Addr} {H H1 H2 : Hp} (a : Keeps p q H H1) (b : Keeps p q H1 H2) : Keeps p q H H2 := fun x o h1 h2 e => b x o h1 h2 (a x o h1 h2 e)
theorem Keeps.of_same {p q : Addr} {H H1 : Hp} (a : Same H H1) : Keeps p q H H1 := fun x o _ _ e => a x o e
theorem Keeps.upd_p {p q : Addr} {H : Hp} {o : HO} : Keeps p q H (upd H p o) := fun x u h1 _ e => by
  rw [upd_ne h1]; exact e
theorem Keeps.upd_q {p q : Addr} {H : Hp} {o : HO} : Keeps p q H (upd H q o) := fun x u _ h2 e => by
  rw [upd_ne h2]; exact e
theorem Keeps.upd_new {p q a : Addr} {H : Hp} {o : HO} (n : H a = none) : Keeps p q H (upd H a o) := fun x u _ _ e => by
  rw [upd_ne (ne_of_none e n)]; exact e
theorem Keeps.free {p q a : Addr} {H H1 : Hp} (k : Keeps p q H H1) (n : H1 a = none) (hp : a ≠ p) (hq : a ≠ q) : H a = none := by
  cases e : H a with
  | none => rfl
  | some o => rw [k a o hp hq e] at n; cases n
/-- the pool's two lists: how many numbers were drawn is n -/
structure PoolAt (H : Hp) (p q : Addr) (n : Nat) : Prop where
  ne : p ≠ q
  ex : ∃ (cs : List Int) (b c : Int), H p = some (.lst [.ref q, .int b, .int (n : Int), .int c]) ∧ H q = some (.lst (cs.map V.int)) ∧ cs.length ≤ 1000 ∧ 0 ≤ b ∧ 0 ≤ c ∧ c < 2147483629
theorem PoolAt.p_some {H : Hp} {p q : Addr} {n : Nat} (h : PoolAt H p q n) : ∃ o, H p = some o := let ⟨_, _, _, e, _⟩ := h.ex; ⟨_, e⟩
theorem PoolAt.q_some {H : Hp} {p q : Addr} {n : Nat} (h : PoolAt H p q n) : ∃ o, H q = some o := let ⟨_, _, _, _, e, _⟩ := h.ex; ⟨_, e⟩
theorem PoolAt.same {H H' : Hp} {p q : Addr} {n : Nat} (h : PoolAt H p q n) (s : Same H H') : PoolAt H' p q n := by
  obtain ⟨ne, cs, b, c, e1, e2, r⟩ := h
  exact ⟨ne, cs, b, c, s _ _ e1, s _ _ e2, r⟩
theorem PoolAt.new {H : Hp} {p q a : Addr} {n : Nat} {o : HO} (h : PoolAt H p q n) (na : H a = none) : PoolAt (upd H a o) p q n :=
  h.same fun x u e => by rw [upd_ne (ne_of_none e na)]; exact e
section
variable {X : Cx}
theorem get_list : PGet X (rIxL X.K) := by
  intro pins s σ H o i ov iv Q I ro ri h
  obtain ⟨p, xs, k, z, rfl, rfl, hq, he, q⟩ := h
  cases ro
  obtain ⟨t, rfl⟩ := ri
  obtain ⟨its, r, pl, hz⟩ := I.list hq
  obtain ⟨j, h1, h2, h3, h4, h5⟩ := atI_get he
  obtain ⟨w, ew, rw'⟩ := r.get h2
  have hl := r.length
  have hn := line63
  have fin : EP X pins σ Q w s := ⟨z, H, I, rw', q⟩
  by_cases h0 : 0 ≤ k
  · have hj : k.toNat = j := by
      rw [seqIndex_of h0 h5] at h1
      exact Option.some.inj h1
    exact wpAny_getItem_list pl.isList h0 (by omega) (by rw [hj]; simpa using ew) fin
  · have hj : (k + (its.toArray.size : Int)).toNat = j := by
      rw [seqIndex_neg (by omega) h4] at h1
      rw [List.size_toArray, ← hl]
      exact Option.some.inj h1
    exact wpAny_getItem_list_neg pl.isList (by omega) (by rw [List.size_toArray] <;> omega) (by omega) (by rw [hj]; simpa using ew) fin
end
theorem div_many {b m : Int} (h0 : 0 < m) (h1 : m ≤ 10 ^ 40) : CDivW b m := by
  refine wide_div (b := 200) h0 ?_ (by decide) (by decide)
  have h : m.natAbs ≤ 10 ^ 40 := by omega
  exact Nat.lt_of_le_of_lt h (by decide)
def spDraw : Sp := fun vs H Q _ => ∃ (p q : Addr) (n : Nat) (m : Int), vs = [.ref p, .int m] ∧ PoolAt H p q n ∧ n < 1000000 ∧ 0 < m ∧ m ≤ 10 ^ 40 ∧
  ∀ (d : Int) (H' : Hp), 0 ≤ d → d < m → PoolAt H' p q (n + 1) → Keeps p q H H' → Q (.int d) H'
section
variable {P : Program} {w : World} {K : PySem.W.Frag} {mg : Str → Option Value} {base : Heap}
theorem scD : FnScope ["pool", "many", "cell", "code", "digit", "far", "mixed"] ["pool", "many"] (defScope sDraw) := ⟨rfl, rfl, rfl, by decide +kernel, rfl, by decide +kernel, by decide +kernel⟩
theorem ok_draw {f : Addr} {fd : FuncData} {k : Nat} (F : Fun K "_law_draw" "_law_draw" sDraw f fd) (mi : mg "int" = none) : FnOk P w K mg base CX0 (k + 1) f fd ["pool", "many"] spDraw := by
  refine F.ok scD (fun vs H Q E h => ?_) (fun cdv A outer s H vs Q E hr h => ?_)
  · obtain ⟨p, q, n, m, rfl, _⟩ := h
    rfl
  · obtain ⟨p, q, n, m, rfl, ⟨npq, cs, b, c, hp, hq, hcs, hb, hc0, hc1⟩, hn, hm0, hm1, kk⟩ := h
    refine ⟨_,
      pss_cons (ps_augS (pv 0) pe_int get_list pe_int ip_add set_list)
      (C8.pss_cut (ps_if (PW.pt (pw_and (pt_cmpR op_eq (pe_ix ix_list (pv 0) pe_int (fun _ _ => rfl)) pe_int (nomark _)) (pw_and1 (pt_truth (pe_ix ix_list (pv 0) pe_int (fun _ _ => rfl)) (by intro _; rfl)))))
        (pss_cons (ps_set (i := 2) scD.nd rfl (.inl rfl) (pe_callTy call_int1 (by rfl) mi (by decide +kernel) (pa_cons (pe_bm PySem.F.plainAttrs_list PySem.F.slot_list_pop PySem.F.type_list_pop mt_popAt (pe_ix ix_list (pv 0) pe_int (fun _ _ => rfl)) (pa_cons pe_int pa_nil)) pa_nil)))
        (C8.pss_cut (ps_set (i := 3) scD.nd rfl (.inl rfl) (pe_ifExp (pt_cmpR op_ge (pv 2) pe_int (nomark _)) (pe_op op_mul pe_int (pv 2)) (pe_op op_sub (pe_un un_neg pe_int) (pe_op op_mul pe_int (pv 2)))))
        (pss_one (ps_if (pt_cmpR op_ge (pv 3) (pe_op op_pow pe_int pe_int) (nomark _))
          (pss_one (ps_asg (pv 3) (pg_sub (pv 0) pe_int set_list)))
          (pss_one (ps_asg (pe_op op_mod (pe_callTy call_int1 (by rfl) mi (by decide +kernel) (pa_cons (pe_op op_add (pe_op op_add (pe_op op_mul (pe_ix ix_list (pv 0) pe_int (fun _ _ => rfl)) pe_int) (pe_op op_mul (pv 3) pe_int)) pe_int) pa_nil)) pe_int) (pg_sub (pv 0) pe_int set_list)))))))
        pss_nil)
      (pss_cons (ps_if (pt_cmpR op_gt (pe_ix ix_list (pv 0) pe_int (fun _ _ => rfl)) pe_int (nomark _))
        (pss_cons (ps_set (i := 4) scD.nd rfl (.inl rfl) (pe_op op_mod (pe_callTy call_int1 (by rfl) mi (by decide +kernel) (pa_cons (pe_ix ix_list (pv 0) pe_int (fun _ _ => rfl)) pa_nil)) (pv 1)))
        (pss_cons (ps_asg (pe_op op_fdivW (pe_ix ix_list (pv 0) pe_int (fun _ _ => rfl)) (pv 1)) (pg_sub (pv 0) pe_int set_list))
        (pss_one (ps_ret (pv 4)))))
        pss_nil)
      (pss_cons (ps_if (pt_cmpR op_eq (pe_ix ix_list (pv 0) pe_int (fun _ _ => rfl)) pe_int (nomark _)) (pss_one (ps_ret pe_int)) pss_nil)
      (pss_cons (ps_set (i := 5) scD.nd rfl (.inl rfl) (pe_op op_add (pe_op op_mul (pe_ix ix_list (pv 0) pe_int (fun _ _ => rfl)) pe_int) (pe_op op_mul (pe_op op_mul (pe_ix ix_list (pv 0) pe_int (fun _ _ => rfl)) (pe_ix ix_list (pv 0) pe_int (fun _ _ => rfl))) pe_int)))
      (pss_cons (ps_set (i := 6) scD.nd rfl (.inl rfl) (pe_op op_mod (pe_callTy call_int1 (by rfl) mi (by decide +kernel) (pa_cons (pe_op op_add (pe_op op_mul (pe_ix ix_list (pv 0) pe_int (fun _ _ => rfl)) pe_int) (pv 5)) pa_nil)) pe_int))
      (pss_one (ps_ret (pe_op op_mod (pe_op op_mod (pe_callTy call_int1 (by rfl) mi (by decide +kernel) (pa_cons (pe_op op_fdiv (pe_op op_mul (pv 6) pe_int) pe_int) pa_nil)) pe_int) (pv 1))))))))), ?_⟩
    -- pool[2] += 1
    have g : ∀ {H : Hp} {x y z t : V}, H p = some (.lst [x, y, z, t]) → SqL K H p [x, y, z, t] := fun e => SqL.of e
    refine ⟨_, rfl, p, _, 2, _, rfl, rfl, g hp, atI_nat (j := 2) rfl, n, 1, rfl, rfl, p, _, 2, 2, rfl, rfl, hp, rfl, ?_⟩
    have K1 : Keeps p q H (upd H p (.lst [.ref q, .int b, .int ((n : Int) + 1), .int c])) := Keeps.upd_p
    have hp1 : (upd H p (.lst [.ref q, .int b, .int ((n : Int) + 1), .int c])) p = some (.lst [.ref q, .int b, .int ((n : Int) + 1), .int c]) := upd_same
    have hq1 : (upd H p (.lst [.ref q, .int b, .int ((n : Int) + 1), .int c])) q = some (.lst (cs.map V.int)) := by rw [upd_ne npq.symm]; exact hq
    refine ⟨fun σ H1 => ∃ (cs b c : _) (y2 y3 : Option V), σ = [some (.ref p), some (.int m), y2, y3, none, none, none] ∧ Keeps p q H H1 ∧
      H1 p = some (.lst [.ref q, .int b, .int ((n : Int) + 1), .int c]) ∧ H1 q = some (.lst (List.map V.int cs)) ∧ cs.length ≤ 1000 ∧ 0 ≤ b ∧ 0 ≤ c ∧ c < 2147483629, ?_, ?_⟩
    · -- if pool[1] == 0 and pool[0]
      refine ⟨_, rfl, p, _, 1, _, rfl, rfl, g hp1, atI_nat (j := 1) rfl, rfl, _, rfl, ?_⟩
      refine ite2 (fun _ => ?_) (fun _ => ?_)
      · refine ⟨_, rfl, p, _, 0, _, rfl, rfl, g hp1, atI_nat (j := 0) rfl, _, .inl ⟨_, SqL.of hq1, rfl⟩, ?_⟩
        cases cs with
        | nil =>
          refine iteF ?_
          exact ⟨[], b, c, none, none, rfl, K1, hp1, hq1, Nat.zero_le _, hb, hc0, hc1⟩
        | cons z r =>
          refine iteT ?_
          -- cell = int(pool[0].pop(0))
          refine ⟨_, rfl, p, _, 0, _, rfl, rfl, g hp1, atI_nat (j := 0) rfl, .inl ⟨rfl, _, SqL.of hq1⟩, q, _, 0, 0, _, rfl, rfl, hq1, by decide, by decide, seqIndex_of (by decide) (by simp), rfl, ?_⟩
          have hq2 : (upd (upd H p (.lst [.ref q, .int b, .int ((n : Int) + 1), .int c])) q (.lst (r.map V.int))) q = some (.lst (r.map V.int)) := upd_same
          have hp2 : (upd (upd H p (.lst [.ref q, .int b, .int ((n : Int) + 1), .int c])) q (.lst (r.map V.int))) p = some (.lst [.ref q, .int b, .int ((n : Int) + 1), .int c]) := by
            rw [upd_ne npq, hp1]
          have K2 : Keeps p q H (upd (upd H p (.lst [.ref q, .int b, .int ((n : Int) + 1), .int c])) q (.lst (r.map V.int))) := K1.trans .upd_q
          refine .inl ⟨z, rfl, ?_⟩
          have hr1 : r.length ≤ 1000 := Nat.le_of_succ_le hcs
          -- code
          refine ⟨fun σ H1 => ∃ code : Int, σ = [some (.ref p), some (.int m), some (.int z), some (.int code), none, none, none] ∧ 0 ≤ code ∧ H1 = upd (upd H p (.lst [.ref q, .int b, .int ((n : Int) + 1), .int c])) q (.lst (r.map V.int)), ?_, ?_⟩
          · refine ⟨_, rfl, _, _, rfl, rfl, _, rfl, ?_⟩
            refine ite2 (fun hz => ?_) (fun hz => ?_)
            · have hz' : 0 ≤ z := of_decide_eq_true hz
              exact ⟨_, rfl, _, _, rfl, rfl, .inl (by decide), 2 * z, rfl, by omega, rfl⟩
            · have hz' : ¬ 0 ≤ z := fun e => hz (decide_eq_true e)
              exact ⟨_, rfl, _, rfl, _, _, rfl, rfl, .inl (by decide), _, _, rfl, rfl, -1 - 2 * z, rfl, by omega, rfl⟩
          · rintro σ H1 ⟨code, rfl, hcode, rfl⟩
            refine ⟨_, rfl, _, _, rfl, rfl, ⟨by decide, by decide, by decide⟩, _, _, rfl, rfl, _, rfl, ?_⟩
            refine ite2 (fun hz => ?_) (fun hz => ?_)
            · refine ⟨_, rfl, _, rfl, p, _, 1, 1, rfl, rfl, hp2, rfl, ?_⟩
              exact ⟨r, code, c, _, _, rfl, K2.trans .upd_p, upd_same, by rw [upd_ne npq.symm]; exact hq2, hr1, hcode, hc0, hc1⟩
            · have hz' : ¬ ((10 : Int) ^ (18 : Int).toNat ≤ code) := fun e => hz (decide_eq_true e)
              refine ⟨_, rfl, p, _, 3, _, rfl, rfl, g hp2, atI_nat (j := 3) rfl, _, _, rfl, rfl, .inl ⟨by omega, by omega⟩, _, rfl, _, _, rfl, rfl, .inr (by decide), _, _, rfl, rfl, _, _, rfl, rfl, .inl ⟨_, rfl, _, _, rfl, rfl, (by show (0 : Int) < 2147483629; decide), _, rfl, p, _, 3, 3, rfl, rfl, hp2, rfl, ?_⟩⟩
              refine ⟨r, b, _, _, _, rfl, K2.trans .upd_p, upd_same, by rw [upd_ne npq.symm]; exact hq2, hr1, hb, Int.emod_nonneg _ (by decide), Int.emod_lt_of_pos _ (by decide)⟩
      · exact ⟨cs, b, c, none, none, rfl, K1, hp1, hq1, hcs, hb, hc0, hc1⟩
    · rintro σ H1 ⟨cs, b, c, y2, y3, rfl, K1, hp1, hq1, hcs, hb, hc0, hc1⟩
      have en : ((n : Int) + 1) = ((n + 1 : Nat) : Int) := by omega
      rw [en] at hp1
      -- if pool[1] > 0
      refine ⟨_, rfl, p, _, 1, _, rfl, rfl, g hp1, atI_nat (j := 1) rfl, _, _, rfl, rfl, _, rfl, ?_⟩
      refine ite2 (fun h1 => ?_) (fun h1 => ?_)
      · have hdm : (0 : Int) < m := hm0
        refine ⟨_, rfl, p, _, 1, _, rfl, rfl, g hp1, atI_nat (j := 1) rfl, .inl ⟨_, rfl, _, rfl, _, _, rfl, rfl, hm0, ?_⟩⟩
        refine ⟨_, rfl, p, _, 1, _, rfl, rfl, g hp1, atI_nat (j := 1) rfl, _, rfl, _, _, rfl, rfl, div_many hm0 hm1, ?_⟩
        refine ⟨_, rfl, p, _, 1, 1, rfl, rfl, hp1, rfl, ?_⟩
        refine ⟨_, rfl, ?_⟩
        exact kk _ _ (Int.emod_nonneg _ (by omega)) (Int.emod_lt_of_pos _ hm0) ⟨npq, cs, b / m, c, upd_same, by rw [upd_ne npq.symm]; exact hq1, hcs, Int.ediv_nonneg hb (by omega), hc0, hc1⟩ (K1.trans .upd_p)
      · -- if pool[3] == 0
        refine ⟨_, rfl, p, _, 3, _, rfl, rfl, g hp1, atI_nat (j := 3) rfl, rfl, _, rfl, ?_⟩
        refine ite2 (fun h3 => ?_) (fun h3 => ?_)
        · exact kk 0 _ (by decide) hm0 ⟨npq, cs, b, c, hp1, hq1, hcs, hb, hc0, hc1⟩ K1
        · refine ⟨_, rfl, p, _, 2, _, rfl, rfl, g hp1, atI_nat (j := 2) rfl, _, _, rfl, rfl, .inr (by decide), _, rfl, p, _, 2, _, rfl, rfl, g hp1, atI_nat (j := 2) rfl, _, rfl, p, _, 2, _, rfl, rfl, g hp1, atI_nat (j := 2) rfl, _, _, rfl, rfl, .inl ⟨by omega, by omega⟩, _, _, rfl, rfl, .inr (by decide), _, _, rfl, rfl, ?_⟩
          refine ⟨_, rfl, p, _, 3, _, rfl, rfl, g hp1, atI_nat (j := 3) rfl, _, _, rfl, rfl, .inl ⟨by omega, by omega⟩, _, rfl, _, _, rfl, rfl, .inl ⟨_, rfl, _, _, rfl, rfl, (by show (0 : Int) < 2147483647; decide), ?_⟩⟩
          refine ⟨_, rfl, _, _, rfl, rfl, .inr (by decide), _, _, rfl, rfl, ⟨by decide, by decide⟩, .inl ⟨_, rfl, _, _, rfl, rfl, (by show (0 : Int) < 2147483629; decide), _, rfl, _, _, rfl, rfl, hm0, ?_⟩⟩
          exact kk _ _ (Int.emod_nonneg _ (by omega)) (Int.emod_lt_of_pos _ hm0) ⟨npq, cs, b, c, hp1, hq1, hcs, hb, hc0, hc1⟩ K1
end
/-! ### the pool made, a word drawn -/
theorem cut_take (xs : List V) (k : Nat) : cutV xs none (some (k : Int)) = xs.take k := by
  unfold cutV
  rw [HT.sIx_nat, HT.sIx_none]
  show (xs.drop 0).take (min k xs.length - 0) = xs.take k
  rw [List.drop_zero, Nat.sub_zero]
  by_cases h : k ≤ xs.length
  · rw [Nat.min_eq_left h]
  · rw [Nat.min_eq_right (by omega), List.take_of_length_le (Nat.le_refl _), List.take_of_length_le (by omega)]
def spPool (K : PySem.W.Frag) : Sp := fun vs H Q _ => ∃ (a : Addr) (ns : List Int), vs = [.ref a] ∧ SqL K H a (ns.map V.int) ∧ ns.length ≤ 63 ∧ ∀ (p q : Addr) (H' : Hp), H p = none → H q = none → PoolAt H' p q 0 → Same H H' → Q (.ref p) H'
/-- one to eight letters -/
def IsWord (z : Str) : Prop := 1 ≤ z.length ∧ z.length ≤ 8 ∧ ∀ c ∈ z.cps.toList, 97 ≤ c ∧ c ≤ 122
def spWord : Sp := fun vs H Q _ => ∃ (p q : Addr) (n : Nat), vs = [.ref p] ∧ PoolAt H p q n ∧ n < 900000 ∧
  ∀ (z : Str) (n' : Nat) (H' : Hp), IsWord z → n ≤ n' → n' ≤ n + 9 → PoolAt H' p q n' → Keeps p q H H' → Q (.str z) H'
theorem sum_ones : ∀ ys : List Str, (∀ y ∈ ys, y.length = 1) → (ys.map (·.length)).sum = ys.length
  | [], _ => rfl
  | x :: r, h => by
    rw [List.map_cons, List.sum_cons, h x List.mem_cons_self, sum_ones r fun y hy => h y (List.mem_cons_of_mem _ hy), List.length_cons]
    omega
theorem join_letters {sep : Str} (hs : sep.cps.toList = []) : ∀ ys : List Str, (∀ y ∈ ys, ∃ c, y = ⟨#[c]⟩ ∧ 97 ≤ c ∧ c ≤ 122) → (Str.join sep ys).length = ys.length ∧ ∀ c ∈ (Str.join sep ys).cps.toList, 97 ≤ c ∧ c ≤ 122
  | [], _ => ⟨rfl, fun c h => by cases h⟩
  | [x], h => by
    obtain ⟨c, rfl, h1, h2⟩ := h x List.mem_cons_self
    exact ⟨rfl, fun d hd => by
      have e : d = c := List.mem_singleton.mp hd
      rw [e]; exact ⟨h1, h2⟩⟩
  | x :: y :: r, h => by
    obtain ⟨c, rfl, h1, h2⟩ := h x List.mem_cons_self
    obtain ⟨i1, i2⟩ := join_letters hs (y :: r) fun z hz => h z (List.mem_cons_of_mem _ hz)
    have sl : sep.length = 0 := by
      show sep.cps.size = 0
      rw [← Array.length_toList, hs]; rfl
    have e : (Str.join sep ((⟨#[c]⟩ : Str) :: y :: r)) = (⟨#[c]⟩ : Str) ++ sep ++ Str.join sep (y :: r) := rfl
    rw [e]
    refine ⟨?_, fun d hd => ?_⟩
    · rw [strLen_append, strLen_append, i1, sl]
      show 1 + 0 + (y :: r).length = _
      simp only [List.length_cons]; omega
    · rcases PyProof.Rows.mem_cps_append.mp hd with hd | hd
      · rcases PyProof.Rows.mem_cps_append.mp hd with hd | hd
        · have e : d = c := List.mem_singleton.mp hd
          rw [e]; exact ⟨h1, h2⟩
        · rw [hs] at hd; cases hd
      · exact i2 d hd
def abc : Str := "abcdefghijklmnopqrstuvwxyz"
theorem abc_len : abc.length = 26 := by decide +kernel
theorem abc_at (d : Int) (h0 : 0 ≤ d) (h1 : d < 26) : ∃ c, atI abc.cps.toList d = some c ∧ 97 ≤ c ∧ c ≤ 122 := by
  obtain ⟨k, rfl⟩ : ∃ k : Nat, d = (k : Int) := ⟨d.toNat, by omega⟩
  have hk : k < 26 := by omega
  have all : ∀ k : Fin 26, ∃ c, abc.cps.toList[k.val]? = some c ∧ 97 ≤ c ∧ c ≤ 122 := by
    have h : ∀ k : Fin 26, (match abc.cps.toList[k.val]? with | some c => decide (97 ≤ c ∧ c ≤ 122) | none => false) = true := by decide +kernel
    intro k
    have := h k
    cases e : abc.cps.toList[k.val]? with
    | none => rw [e] at this; cases this
    | some c =>
      rw [e] at this
      exact ⟨c, rfl, of_decide_eq_true this⟩
  obtain ⟨c, e, r⟩ := all ⟨k, hk⟩
  exact ⟨c, atI_nat e, r⟩
section
variable {P : Program} {w : World} {K : PySem.W.Frag} {mg : Str → Option Value} {base : Heap}
theorem scP : FnScope ["script"] ["script"] (defScope sPool) := ⟨rfl, rfl, rfl, by decide +kernel, rfl, by decide +kernel, by decide +kernel⟩
theorem ok_pool {f : Addr} {fd : FuncData} {k : Nat} (F : Fun K "_law_pool" "_law_pool" sPool f fd) (ml : mg "list" = none) : FnOk P w K mg base CX0 (k + 1) f fd ["script"] (spPool K) := by
  refine F.ok scP (fun vs H Q E h => ?_) (fun cdv A outer s H vs Q E hr h => ?_)
  · obtain ⟨a, ns, rfl, _⟩ := h
    rfl
  · obtain ⟨a, ns, rfl, hS, hl, kk⟩ := h
    refine ⟨_, pss_one (ps_ret (pe_lst (pa_cons (pe_callTy call_list_of (by rfl) ml (by decide +kernel) (pa_cons (pe_slice sl_list (pv 0) po_none (po_some pe_int)) pa_nil)) (pa_cons pe_int (pa_cons pe_int (pa_cons pe_int pa_nil)))))), ?_⟩
    refine ⟨.ref a, rfl, 63, rfl, a, _, rfl, hS, fun c nc => ?_⟩
    have e : cutV (ns.map V.int) none (some 63) = (ns.take 63).map V.int := by
      rw [List.map_take]; exact cut_take _ 63
    rw [e]
    refine ⟨c, _, rfl, .inl (SqL.of upd_same), fun q nq => ?_⟩
    refine ⟨by show 4 ≤ sizeLine; decide, fun p np => ?_⟩
    have hc : (upd H c (.lst ((ns.take 63).map V.int))) c = some (.lst ((ns.take 63).map V.int)) := upd_same
    have s1 : Same H (upd H c (.lst ((ns.take 63).map V.int))) := fun b o z => by rw [upd_ne (ne_of_none z nc)]; exact z
    have s2 : Same (upd H c (.lst ((ns.take 63).map V.int))) (upd (upd H c (.lst ((ns.take 63).map V.int))) q (.lst ((ns.take 63).map V.int))) := fun b o z => by rw [upd_ne (ne_of_none z nq)]; exact z
    have hq : (upd (upd H c (.lst ((ns.take 63).map V.int))) q (.lst ((ns.take 63).map V.int))) q = some (.lst ((ns.take 63).map V.int)) := upd_same
    have s3 := fun o => (fun b u z => by rw [upd_ne (ne_of_none z np)]; exact z : Same (upd (upd H c (.lst ((ns.take 63).map V.int))) q (.lst ((ns.take 63).map V.int))) (upd _ p o))
    refine kk p q _ ((s1.trans s2).free np) (s1.free nq) ⟨(ne_of_none hq np).symm, ns.take 63, 0, 0, upd_same, s3 _ _ _ hq, by rw [List.length_take]; omega, by decide, by decide, by decide⟩ ((s1.trans s2).trans (s3 _))
theorem scW : FnScope ["pool", "letters", "k"] ["pool"] (defScope sWord) := ⟨rfl, rfl, rfl, by decide +kernel, rfl, by decide +kernel, by decide +kernel⟩
theorem ok_word {f fD : Addr} {fd fdD : FuncData} (F : Fun K "_law_word" "_law_word" sWord f fd) (GD : FnOk P w K mg base CX0 1 fD fdD ["pool", "many"] spDraw) (mD : mg "_law_draw" = some (.ref fD)) (kD : PySem.W.keepIn K (.ref fD) = true)
    (bD : Binds K fdD ["pool", "many"] []) (mr : mg "range" = none) : FnOk P w K mg base CX0 2 f fd ["pool"] spWord := by
  refine F.ok scW (fun vs H Q E h => ?_) (fun cdv A outer s H vs Q E hr h => ?_)
  · obtain ⟨p, q, n, rfl, _⟩ := h
    rfl
  · obtain ⟨p, q, n, rfl, hP, hn, kk⟩ := h
    refine ⟨_, pss_cons (ps_set (i := 1) scW.nd rfl (.inr rfl) pe_str)
      (pss_one (ps_ret (pe_join pe_str (pe_lc (own := [("k", 2)]) (g := gName 2) (tt := tYes) rfl scW.nd
        (pi_range1 (by rfl) mr (pa_cons (pe_op op_add pe_int (pe_call GD hr (by rfl) mD kD bD .nil pass0 (pa_cons (pv 0) (pa_cons pe_int pa_nil)))) pa_nil))
        (blkOk_by (N := ["pool", "letters", "k"]) (sc := defScope sWord) (by decide +kernel))
        (fun _ _ _ _ _ => pg_name (i := 2) scW.nd rfl (.inl rfl)) (fun _ _ _ _ _ => pts_nil)
        (fun _ _ _ _ _ => pe_ix ix_str (pv 1) (pe_call GD hr (by rfl) mD kD bD .nil pass0 (pa_cons (pv 0) (pa_cons pe_int pa_nil))) (fun _ _ => rfl)))))), ?_⟩
    refine ⟨⟨_, rfl⟩, .ref p, rfl, p, q, n, 8, rfl, hP, by omega, by decide, by decide, fun d H1 h0 h1 P1 K1 => ?_⟩
    refine ⟨1, d, rfl, rfl, 1 + d, rfl, (by omega), (by omega), fun D nD => ?_⟩
    obtain ⟨op, ep⟩ := P1.p_some
    obtain ⟨oq, eq⟩ := P1.q_some
    have nDp : D ≠ p := (ne_of_none ep nD).symm
    have nDq : D ≠ q := (ne_of_none eq nD).symm
    have em : (1 + d).toNat ≤ 8 := by omega
    refine lc_range (lo := 0) (n := (1 + d).toNat) (fun i H2 => ∃ ys : List Str, H2 D = some (.lst (ys.map V.str)) ∧ ys.length = i ∧ (∀ y ∈ ys, ∃ c, y = ⟨#[c]⟩ ∧ 97 ≤ c ∧ c ≤ 122) ∧ PoolAt H2 p q (n + 1 + i) ∧ Keeps p q H H2)
      ⟨[], upd_same, rfl, fun y hy => (by cases hy), P1.new nD, K1.trans (.upd_new nD)⟩ (fun i H2 hi hI => ?_) (fun H2 hI => ?_)
    · obtain ⟨ys, eD, el, hy, P2, K2⟩ := hI
      refine ⟨rfl, ?_⟩
      refine ⟨_, rfl, _, rfl, p, q, n + 1 + i, 26, rfl, P2, by omega, by decide, by decide, fun d2 H3 h02 h12 P3 K3 => ?_⟩
      obtain ⟨c, ec, hc1, hc2⟩ := abc_at d2 h02 h12
      have eD3 : H3 D = some (.lst (ys.map V.str)) := K3 D _ nDp nDq eD
      refine ⟨abc, d2, c, rfl, rfl, by rw [abc_len]; decide, ec, _, eD3, small1000 (by rw [List.length_map]; omega), ys ++ [⟨#[c]⟩], ?_, by simp [el], fun y hm => ?_, ?_, ?_⟩
      · rw [upd_same, List.map_append]; rfl
      · rcases List.mem_append.mp hm with hm | hm
        · exact hy y hm
        · exact ⟨c, List.mem_singleton.mp hm, hc1, hc2⟩
      · have e : n + 1 + (i + 1) = n + 1 + i + 1 := by omega
        rw [e]
        obtain ⟨npq, cs, b, c0, e1, e2, r⟩ := P3
        exact ⟨npq, cs, b, c0, by rw [upd_ne nDp.symm]; exact e1, by rw [upd_ne nDq.symm]; exact e2, r⟩
      · intro x o hx1 hx2 nH
        have ex := K3 x o hx1 hx2 (K2 x o hx1 hx2 nH)
        by_cases hxD : x = D
        · subst hxD
          rw [K1.free nD nDp nDq] at nH
          cases nH
        · rw [upd_ne hxD]; exact ex
    · obtain ⟨ys, eD, el, hy, P2, K2⟩ := hI
      obtain ⟨j1, j2⟩ := join_letters (sep := "") (by decide +kernel) ys hy
      have e1 : ∀ y ∈ ys, y.length = 1 := fun y hm => by
        obtain ⟨c, rfl, _⟩ := hy y hm
        rfl
      have e2 : (ys.map (·.length)).sum = ys.length := sum_ones _ e1
      refine ⟨_, D, ys, rfl, rfl, .inl (SqL.of eD), ?_, ?_⟩
      · rw [e2, show (Str.ofString "").length = 0 by decide +kernel]; omega
      · rw [show Txt.join _ ys = Str.join _ ys from StrLaws.glued_eq_join _ _]
        exact kk _ (n + 1 + (1 + d).toNat) H2 ⟨by rw [j1]; omega, by rw [j1]; omega, j2⟩ (by omega) (by omega) P2 K2
end
/-! ### two data are the same -/
/-- no deeper than that -/
def dp : Nat → PyData → Prop
  | 0, _ => False
  | _ + 1, .none => True
  | _ + 1, .bool _ => True
  | _ + 1, .int _ => True
  | _ + 1, .str _ => True
  | m + 1, .list xs => xs.length ≤ 1000000 ∧ ∀ x ∈ xs, dp m x
  | m + 1, .tuple xs => xs.length ≤ 1000000 ∧ ∀ x ∈ xs, dp m x
  | _ + 1, .dict _ => False
theorem dp_mono : ∀ {m n : Nat} {d : PyData}, m ≤ n → dp m d → dp n d
  | 0, _, _, _, h => by simp [dp] at h
  | m + 1, 0, _, h, _ => by omega
  | m + 1, n + 1, d, h, hd => by
    cases d with
    | none => simp [dp]
    | bool b => simp [dp]
    | int i => simp [dp]
    | str s => simp [dp]
    | list xs =>
      simp only [dp] at hd ⊢
      exact ⟨hd.1, fun x hx => dp_mono (Nat.le_of_succ_le_succ h) (hd.2 x hx)⟩
    | tuple xs =>
      simp only [dp] at hd ⊢
      exact ⟨hd.1, fun x hx => dp_mono (Nat.le_of_succ_le_succ h) (hd.2 x hx)⟩
    | dict xs => simp [dp] at hd
def tyName : PyData → String
  | .none => "NoneType"
  | .bool _ => "bool"
  | .int _ => "int"
  | .str _ => "str"
  | .list _ => "list"
  | .tuple _ => "tuple"
  | .dict _ => "dict"
theorem ty_of {K : PySem.W.Frag} {H : Hp} {v : V} {d : PyData} (h : Dp K H v d) : TyX K H v (.type (tyName d)) := by
  cases h with
  | non => exact .base .non
  | bl b => exact .base (.bl b)
  | int i => exact .base (.int i)
  | str x => exact .base (.str x)
  | lst hs _ =>
    rcases hs with (h | ⟨o, h⟩) | ⟨o, its, n, hk, hc, _⟩
    · exact .base (.lst h)
    · exact .base (.frz h)
    · exact .kList hk hc
  | tup hs _ =>
    rcases hs with (h | ⟨o, h⟩) | ⟨o, its, n, hk, hc, _⟩
    · exact .base (.tup h)
    · exact .fTuple h
    · exact .kTuple hk hc
theorem isi {K : PySem.W.Frag} {H : Hp} {v : V} {d : PyData} {T : String} {b : Bool} {Q : VK} (h : Dp K H v d) (e : kitB (tyName d) T = some b) (q : Q (.bl b) H) : rIsi K [v, .ty T] H Q :=
  ⟨v, .ty T, _, _, b, rfl, ClsV.ty T, ty_of h, kit_ty e, q⟩
theorem dpAll_len {K : PySem.W.Frag} {H : Hp} : ∀ {vs : List V} {ds : List PyData}, DpAll K H vs ds → vs.length = ds.length
  | _, _, .nil => rfl
  | _, _, .cons _ t => by rw [List.length_cons, List.length_cons, dpAll_len t]
theorem dpAll_get {K : PySem.W.Frag} {H : Hp} : ∀ {vs : List V} {ds : List PyData} {i : Nat} {d : PyData}, DpAll K H vs ds → ds[i]? = some d → ∃ v, vs[i]? = some v ∧ Dp K H v d
  | _, _, _, _, .nil, e => by simp at e
  | _, _, 0, _, .cons h _, e => by
    have e' := Option.some.inj e
    subst e'
    exact ⟨_, rfl, h⟩
  | _, _, i + 1, _, .cons _ t, e => dpAll_get (i := i) t e
def spSame (K : PySem.W.Frag) (m : Nat) : Sp := fun vs H Q _ => ∃ (v u : V) (d : PyData), vs = [v, u] ∧ Dp K H v d ∧ Dp K H u d ∧ dp m d ∧ Q (.bl true) H
/-- what the names of classes and of len, range stand for -/
structure Bts (mg : Str → Option Value) : Prop where
  isinstance : mg "isinstance" = none
  bool : mg "bool" = none
  str : mg "str" = none
  int : mg "int" = none
  list : mg "list" = none
  tuple : mg "tuple" = none
  len : mg "len" = none
  range : mg "range" = none
section
variable {P : Program} {w : World} {K : PySem.W.Frag} {mg : Str → Option Value} {base : Heap}
theorem fn_never {f : Addr} {fd : FuncData} {ps : List Str} : FnOk P w K mg base CX0 0 f fd ps (fun _ _ _ _ => False) :=
  ⟨fun _ _ _ _ h => h.elim, fun _ _ _ _ _ _ _ _ _ _ _ _ _ h => h.elim⟩
theorem scS : FnScope ["actual", "due", "k"] ["actual", "due"] (defScope sSame) := ⟨rfl, rfl, rfl, by decide +kernel, rfl, by decide +kernel, by decide +kernel⟩
theorem ok_same {f : Addr} {fd : FuncData} (F : Fun K "_law_same" "_law_same" sSame f fd) (B : Bts mg) (mS : mg "_law_same" = some (.ref f)) (bS : Binds K fd ["actual", "due"] []) : ∀ m : Nat, FnOk P w K mg base CX0 m f fd ["actual", "due"] (spSame K m)
  | 0 => fn_never.imp fun vs H Q E h => by
    obtain ⟨v, u, d, _, _, _, h, _⟩ := h
    simp [dp] at h
  | m + 1 => by
    have IH := ok_same F B mS bS m
    refine F.ok scS (fun vs H Q E h => ?_) (fun cdv A outer s H vs Q E hr h => ?_)
    · obtain ⟨v, u, d, rfl, _⟩ := h
      rfl
    · obtain ⟨v, u, d, rfl, hv, hu, hd, kk⟩ := h
      refine ⟨_,
        pss_cons (ps_if (pt_cmpR op_isN (pv 1) pe_non (nomark _)) (pss_one (ps_ret (pe_cmp (pc_isN (pv 0)) rfl))) pss_nil)
        (pss_cons (ps_if (PW.pt (pw_or (pt_val (pe_callB call_isi (by rfl) B.isinstance (by decide +kernel) (pa_cons (pv 1) (pa_cons (pe_bltn (v := .ty "bool") (by rfl) B.bool (by decide +kernel) rfl) pa_nil))))
              (pw_or1 (pt_val (pe_callB call_isi (by rfl) B.isinstance (by decide +kernel) (pa_cons (pv 1) (pa_cons (pe_bltn (v := .ty "str") (by rfl) B.str (by decide +kernel) rfl) pa_nil)))))))
            (pss_cons (ps_if (PW.pt (pw_or
                (pt_cmpR op_ne (pe_callB call_isi (by rfl) B.isinstance (by decide +kernel) (pa_cons (pv 0) (pa_cons (pe_bltn (v := .ty "bool") (by rfl) B.bool (by decide +kernel) rfl) pa_nil)))
                  (pe_callB call_isi (by rfl) B.isinstance (by decide +kernel) (pa_cons (pv 1) (pa_cons (pe_bltn (v := .ty "bool") (by rfl) B.bool (by decide +kernel) rfl) pa_nil))) (nomark _))
                (pw_or1 (pt_cmpR op_ne (pe_callB call_isi (by rfl) B.isinstance (by decide +kernel) (pa_cons (pv 0) (pa_cons (pe_bltn (v := .ty "str") (by rfl) B.str (by decide +kernel) rfl) pa_nil)))
                  (pe_callB call_isi (by rfl) B.isinstance (by decide +kernel) (pa_cons (pv 1) (pa_cons (pe_bltn (v := .ty "str") (by rfl) B.str (by decide +kernel) rfl) pa_nil))) (nomark _)))))
                (pss_one (ps_ret pe_bl)) pss_nil)
              (pss_one (ps_ret (pe_cmpR op_eq (pv 0) (pv 1) (nomark _)))))
            pss_nil)
        (pss_cons (ps_if (pt_val (pe_callB call_isi (by rfl) B.isinstance (by decide +kernel) (pa_cons (pv 1) (pa_cons (pe_bltn (v := .ty "int") (by rfl) B.int (by decide +kernel) rfl) pa_nil))))
            (pss_one (ps_ret (pe_and (pe_callB call_isi (by rfl) B.isinstance (by decide +kernel) (pa_cons (pv 0) (pa_cons (pe_bltn (v := .ty "int") (by rfl) B.int (by decide +kernel) rfl) pa_nil)))
              (pe_and (pe_not (pe_callB call_isi (by rfl) B.isinstance (by decide +kernel) (pa_cons (pv 0) (pa_cons (pe_bltn (v := .ty "bool") (by rfl) B.bool (by decide +kernel) rfl) pa_nil))))
                (pe_one (pe_cmpR op_eq (pv 0) (pv 1) (nomark _)))))))
            pss_nil)
        (pss_cons (ps_if (PW.pt (pw_and (pt_val (pe_callB call_isi (by rfl) B.isinstance (by decide +kernel) (pa_cons (pv 1) (pa_cons (pe_bltn (v := .ty "list") (by rfl) B.list (by decide +kernel) rfl) pa_nil))))
              (pw_and1 (pt_not (pt_val (pe_callB call_isi (by rfl) B.isinstance (by decide +kernel) (pa_cons (pv 0) (pa_cons (pe_bltn (v := .ty "list") (by rfl) B.list (by decide +kernel) rfl) pa_nil))))))))
            (pss_one (ps_ret pe_bl)) pss_nil)
        (pss_cons (ps_if (PW.pt (pw_and (pt_val (pe_callB call_isi (by rfl) B.isinstance (by decide +kernel) (pa_cons (pv 1) (pa_cons (pe_bltn (v := .ty "tuple") (by rfl) B.tuple (by decide +kernel) rfl) pa_nil))))
              (pw_and1 (pt_not (pt_val (pe_callB call_isi (by rfl) B.isinstance (by decide +kernel) (pa_cons (pv 0) (pa_cons (pe_bltn (v := .ty "tuple") (by rfl) B.tuple (by decide +kernel) rfl) pa_nil))))))))
            (pss_one (ps_ret pe_bl)) pss_nil)
        (pss_cons (ps_if (pt_cmpR op_ne (pe_callB call_len_seq (by rfl) B.len PySem.boot_len (pa_cons (pv 0) pa_nil)) (pe_callB call_len_seq (by rfl) B.len PySem.boot_len (pa_cons (pv 1) pa_nil)) (nomark _)) (pss_one (ps_ret pe_bl)) pss_nil)
        (pss_cons (ps_for PassesOwn.never rfl (pi_range1 rfl B.range (pa_cons (pe_callB call_len_seq (by rfl) B.len PySem.boot_len (pa_cons (pv 1) pa_nil)) pa_nil)) (pg_name (i := 2) scS.nd rfl (.inl rfl))
            (pss_one (ps_if (pt_not (pt_val (pe_call IH hr (by rfl) mS F.kp bS .nil pass0 (pa_cons (pe_ix ix_seq (pv 0) (pv 2) (fun _ _ => rfl)) (pa_cons (pe_ix ix_seq (pv 1) (pv 2) (fun _ _ => rfl)) pa_nil))))) (pss_one (ps_ret pe_bl)) pss_nil)))
        (pss_one (ps_ret pe_bl)))))))), ?_⟩
      cases d with
      | none =>
        cases hu; cases hv
        exact ⟨_, rfl, rfl, _, rfl, iteT ⟨_, rfl, kk⟩⟩
      | bool b =>
        cases hu; cases hv
        refine ⟨_, rfl, rfl, _, rfl, iteF ?_⟩
        refine ⟨_, rfl, _, _, _, _, true, rfl, .ty _, TyX.base (TyOf.bl b), kit_ty (by decide +kernel), _, rfl, iteT (iteT ?_)⟩
        refine ⟨_, rfl, _, _, _, _, true, rfl, .ty _, TyX.base (TyOf.bl b), kit_ty (by decide +kernel), _, rfl, _, _, _, _, true, rfl, .ty _, TyX.base (TyOf.bl b), kit_ty (by decide +kernel), rfl, _, rfl, ?_⟩
        refine iteF ⟨_, rfl, _, _, _, _, false, rfl, .ty _, TyX.base (TyOf.bl b), kit_ty (by decide +kernel), _, rfl, _, _, _, _, false, rfl, .ty _, TyX.base (TyOf.bl b), kit_ty (by decide +kernel), rfl, _, rfl, ?_⟩
        refine iteF ⟨_, rfl, _, rfl, rfl, ?_⟩
        rw [decide_eq_true rfl]
        exact kk
      | str x =>
        cases hu; cases hv
        refine ⟨_, rfl, rfl, _, rfl, iteF ?_⟩
        refine ⟨_, rfl, _, _, _, _, false, rfl, .ty _, TyX.base (TyOf.str x), kit_ty (by decide +kernel), _, rfl, iteF ?_⟩
        refine ⟨_, rfl, _, _, _, _, true, rfl, .ty _, TyX.base (TyOf.str x), kit_ty (by decide +kernel), _, rfl, iteT ?_⟩
        refine ⟨_, rfl, _, _, _, _, false, rfl, .ty _, TyX.base (TyOf.str x), kit_ty (by decide +kernel), _, rfl, _, _, _, _, false, rfl, .ty _, TyX.base (TyOf.str x), kit_ty (by decide +kernel), rfl, _, rfl, ?_⟩
        refine iteF ⟨_, rfl, _, _, _, _, true, rfl, .ty _, TyX.base (TyOf.str x), kit_ty (by decide +kernel), _, rfl, _, _, _, _, true, rfl, .ty _, TyX.base (TyOf.str x), kit_ty (by decide +kernel), rfl, _, rfl, ?_⟩
        refine iteF ⟨_, rfl, _, rfl, rfl, ?_⟩
        rw [decide_eq_true rfl]
        exact kk
      | int i =>
        cases hu; cases hv
        refine ⟨_, rfl, rfl, _, rfl, iteF ?_⟩
        refine ⟨_, rfl, _, _, _, _, false, rfl, .ty _, TyX.base (TyOf.int i), kit_ty (by decide +kernel), _, rfl, iteF ?_⟩
        refine ⟨_, rfl, _, _, _, _, false, rfl, .ty _, TyX.base (TyOf.int i), kit_ty (by decide +kernel), _, rfl, iteF ?_⟩
        refine ⟨_, rfl, _, _, _, _, true, rfl, .ty _, TyX.base (TyOf.int i), kit_ty (by decide +kernel), _, rfl, iteT ?_⟩
        refine ⟨_, rfl, _, _, _, _, true, rfl, .ty _, TyX.base (TyOf.int i), kit_ty (by decide +kernel), _, rfl, iteT ?_⟩
        refine ⟨_, rfl, _, _, _, _, false, rfl, .ty _, TyX.base (TyOf.int i), kit_ty (by decide +kernel), _, rfl, _, rfl, iteT ?_⟩
        refine ⟨_, rfl, _, rfl, rfl, ?_⟩
        rw [decide_eq_true rfl]
        exact kk
      | list ds =>
        obtain ⟨a2, xs2, rfl, hs2, ha2⟩ : ∃ a xs, u = .ref a ∧ SqL K H a xs ∧ DpAll K H xs ds := by
          cases hu with
          | lst h1 h2 => exact ⟨_, _, rfl, h1, h2⟩
        obtain ⟨a1, xs1, rfl, hs1, ha1⟩ : ∃ a xs, v = .ref a ∧ SqL K H a xs ∧ DpAll K H xs ds := by
          cases hv with
          | lst h1 h2 => exact ⟨_, _, rfl, h1, h2⟩
        have tyU : TyX K H (.ref a2) (.type "list") := ty_of (.lst hs2 ha2)
        have tyV : TyX K H (.ref a1) (.type "list") := ty_of (.lst hs1 ha1)
        have e1 := dpAll_len ha1
        have e2 := dpAll_len ha2
        refine ⟨_, rfl, rfl, _, rfl, iteF ?_⟩
        refine ⟨_, rfl, _, _, _, _, false, rfl, .ty _, tyU, kit_ty (by decide +kernel), _, rfl, iteF ?_⟩
        refine ⟨_, rfl, _, _, _, _, false, rfl, .ty _, tyU, kit_ty (by decide +kernel), _, rfl, iteF ?_⟩
        refine ⟨_, rfl, _, _, _, _, false, rfl, .ty _, tyU, kit_ty (by decide +kernel), _, rfl, iteF ?_⟩
        refine ⟨_, rfl, _, _, _, _, true, rfl, .ty _, tyU, kit_ty (by decide +kernel), _, rfl, iteT ?_⟩
        refine ⟨_, rfl, _, _, _, _, true, rfl, .ty _, tyV, kit_ty (by decide +kernel), _, rfl, iteF ?_⟩
        refine ⟨_, rfl, _, _, _, _, false, rfl, .ty _, tyU, kit_ty (by decide +kernel), _, rfl, iteF (iteF ?_)⟩
        refine ⟨_, rfl, a1, xs1, rfl, .inl hs1, _, rfl, a2, xs2, rfl, .inl hs2, rfl, _, rfl, iteNS (by rw [e1, e2]) ?_⟩
        simp only [dp] at hd
        have hz2 : (xs2.length : Int) < 2 ^ 62 := by have := hd.1; omega
        refine ⟨_, rfl, a2, xs2, rfl, .inl hs2, _, rfl, (by omega), hz2, ?_⟩
        refine for_range (lo := 0) (n := (xs2.length : Int).toNat) (fun i σ H2 => ∃ y, σ = [some (.ref a1), some (.ref a2), y] ∧ H2 = H) ⟨none, rfl, rfl⟩ ?_ ?_
        · rintro i σ H2 hi ⟨y, rfl, rfl⟩
          have hi2 : i < ds.length := by omega
          obtain ⟨x1, g1, d1⟩ := dpAll_get ha1 (List.getElem?_eq_getElem hi2)
          obtain ⟨x2, g2, d2⟩ := dpAll_get ha2 (List.getElem?_eq_getElem hi2)
          have ei : (0 : Int) + (i : Int) = ((i : Nat) : Int) := by omega
          rw [ei]
          refine ⟨_, rfl, _, rfl, .inl ⟨_, _, _, _, rfl, rfl, hs1, atI_nat g1, _, rfl, _, rfl, .inl ⟨_, _, _, _, rfl, rfl, hs2, atI_nat g2, ?_⟩⟩⟩
          refine ⟨x1, x2, _, rfl, d1, d2, hd.2 _ (List.getElem_mem hi2), _, rfl, iteF ?_⟩
          exact ⟨_, rfl, rfl⟩
        · rintro σ H2 ⟨y, rfl, rfl⟩
          exact kk
      | tuple ds =>
        obtain ⟨a2, xs2, rfl, hs2, ha2⟩ : ∃ a xs, u = .ref a ∧ SqT K H a xs ∧ DpAll K H xs ds := by
          cases hu with
          | tup h1 h2 => exact ⟨_, _, rfl, h1, h2⟩
        obtain ⟨a1, xs1, rfl, hs1, ha1⟩ : ∃ a xs, v = .ref a ∧ SqT K H a xs ∧ DpAll K H xs ds := by
          cases hv with
          | tup h1 h2 => exact ⟨_, _, rfl, h1, h2⟩
        have tyU : TyX K H (.ref a2) (.type "tuple") := ty_of (.tup hs2 ha2)
        have tyV : TyX K H (.ref a1) (.type "tuple") := ty_of (.tup hs1 ha1)
        have e1 := dpAll_len ha1
        have e2 := dpAll_len ha2
        refine ⟨_, rfl, rfl, _, rfl, iteF ?_⟩
        refine ⟨_, rfl, _, _, _, _, false, rfl, .ty _, tyU, kit_ty (by decide +kernel), _, rfl, iteF ?_⟩
        refine ⟨_, rfl, _, _, _, _, false, rfl, .ty _, tyU, kit_ty (by decide +kernel), _, rfl, iteF ?_⟩
        refine ⟨_, rfl, _, _, _, _, false, rfl, .ty _, tyU, kit_ty (by decide +kernel), _, rfl, iteF ?_⟩
        refine ⟨_, rfl, _, _, _, _, false, rfl, .ty _, tyU, kit_ty (by decide +kernel), _, rfl, iteF (iteF ?_)⟩
        refine ⟨_, rfl, _, _, _, _, true, rfl, .ty _, tyU, kit_ty (by decide +kernel), _, rfl, iteT ?_⟩
        refine ⟨_, rfl, _, _, _, _, true, rfl, .ty _, tyV, kit_ty (by decide +kernel), _, rfl, iteF ?_⟩
        refine ⟨_, rfl, a1, xs1, rfl, .inr hs1, _, rfl, a2, xs2, rfl, .inr hs2, rfl, _, rfl, iteNS (by rw [e1, e2]) ?_⟩
        simp only [dp] at hd
        have hz2 : (xs2.length : Int) < 2 ^ 62 := by have := hd.1; omega
        refine ⟨_, rfl, a2, xs2, rfl, .inr hs2, _, rfl, (by omega), hz2, ?_⟩
        refine for_range (lo := 0) (n := (xs2.length : Int).toNat) (fun i σ H2 => ∃ y, σ = [some (.ref a1), some (.ref a2), y] ∧ H2 = H) ⟨none, rfl, rfl⟩ ?_ ?_
        · rintro i σ H2 hi ⟨y, rfl, rfl⟩
          have hi2 : i < ds.length := by omega
          obtain ⟨x1, g1, d1⟩ := dpAll_get ha1 (List.getElem?_eq_getElem hi2)
          obtain ⟨x2, g2, d2⟩ := dpAll_get ha2 (List.getElem?_eq_getElem hi2)
          have ei : (0 : Int) + (i : Int) = ((i : Nat) : Int) := by omega
          rw [ei]
          refine ⟨_, rfl, _, rfl, .inr (.inl ⟨_, _, _, _, rfl, rfl, hs1, atI_nat g1, _, rfl, _, rfl, .inr (.inl ⟨_, _, _, _, rfl, rfl, hs2, atI_nat g2, ?_⟩)⟩)⟩
          refine ⟨x1, x2, _, rfl, d1, d2, hd.2 _ (List.getElem_mem hi2), _, rfl, iteF ?_⟩
          exact ⟨_, rfl, rfl⟩
        · rintro σ H2 ⟨y, rfl, rfl⟩
          exact kk
      | dict ds => simp [dp] at hd
end
/-! ### data in the heap, and displays of data -/
theorem Same.seqT {K : PySem.W.Frag} {H H' : Hp} {a : Addr} {xs : List V} (e : Same H H') (h : SqT K H a xs) : SqT K H' a xs := by
  rcases h with h1 | h3
  · rcases h1 with h1 | h2
    · exact .inl (.inl (e _ _ h1))
    · obtain ⟨o, h2⟩ := h2
      exact .inl (.inr ⟨o, e _ _ h2⟩)
  · exact .inr h3
mutual
theorem dp_same {K : PySem.W.Frag} {H H' : Hp} (s : Same H H') : ∀ (d : PyData) (v : V), Dp K H v d → Dp K H' v d
  | .none, _, h => by cases h; exact .non
  | .bool b, _, h => by cases h; exact .bl b
  | .int i, _, h => by cases h; exact .int i
  | .str x, _, h => by cases h; exact .str x
  | .list ds, _, h => by
    cases h with
    | lst h1 h2 => exact .lst (s.seq h1) (dpAll_same s ds _ h2)
  | .tuple ds, _, h => by
    cases h with
    | tup h1 h2 => exact .tup (Same.seqT s h1) (dpAll_same s ds _ h2)
  | .dict kvs, _, h => by cases h
theorem dpAll_same {K : PySem.W.Frag} {H H' : Hp} (s : Same H H') : ∀ (ds : List PyData) (vs : List V), DpAll K H vs ds → DpAll K H' vs ds
  | [], _, h => by cases h; exact .nil
  | d :: ds, _, h => by
    cases h with
    | cons h1 h2 => exact .cons (dp_same s d _ h1) (dpAll_same s ds _ h2)
end
theorem same_new {H : Hp} {p : Addr} {o : HO} (n : H p = none) : Same H (upd H p o) := fun b x e => by
  rw [upd_ne (ne_of_none e n)]; exact e
/-- the heap without some objects -/
def mask (l : List Addr) (H : Hp) : Hp := fun a => if a ∈ l then none else H a
theorem mask_in {l : List Addr} {H : Hp} {a : Addr} (h : a ∈ l) : mask l H a = none := if_pos h
theorem mask_out {l : List Addr} {H : Hp} {a : Addr} (h : a ∉ l) : mask l H a = H a := if_neg h
theorem mask_sub (l : List Addr) (H : Hp) : Same (mask l H) H := fun a o e => by
  by_cases h : a ∈ l
  · rw [mask_in h] at e; cases e
  · rw [mask_out h] at e; exact e
theorem mask_same {l : List Addr} {H H' : Hp} (s : Same H H') : Same (mask l H) (mask l H') := fun a o e => by
  by_cases h : a ∈ l
  · rw [mask_in h] at e; cases e
  · rw [mask_out h] at e ⊢; exact s a o e
theorem mask_nil (H : Hp) : mask [] H = H := rfl
/-- what stands in H is there -/
abbrev Alive (l : List Addr) (H : Hp) : Prop := ∀ a ∈ l, ∃ o, H a = some o
theorem Alive.same {l : List Addr} {H H' : Hp} (h : Alive l H) (s : Same H H') : Alive l H' := fun a m => let ⟨o, e⟩ := h a m; ⟨o, s a o e⟩
theorem Alive.not {l : List Addr} {H : Hp} {p : Addr} (h : Alive l H) (n : H p = none) : p ∉ l := fun m => by
  obtain ⟨o, e⟩ := h p m
  rw [n] at e; cases e
theorem alive_nil {H : Hp} : Alive [] H := fun _ m => nomatch m
theorem mask_upd {l : List Addr} {H : Hp} {p : Addr} {o : HO} (h : p ∉ l) : mask l (upd H p o) p = some o := by
  rw [mask_out h, upd_same]
theorem Keeps.mask {p q : Addr} {H H' : Hp} (k : Keeps p q H H') : Same (mask [p, q] H) (mask [p, q] H') := fun a o e => by
  by_cases h : a ∈ [p, q]
  · rw [mask_in h] at e; cases e
  · rw [mask_out h] at e ⊢
    refine k a o (fun z => h ?_) (fun z => h ?_) e
    · rw [z]; exact List.mem_cons_self
    · rw [z]; exact List.mem_cons_of_mem _ List.mem_cons_self
theorem PoolAt.alive {H : Hp} {p q : Addr} {n : Nat} (h : PoolAt H p q n) : Alive [p, q] H := fun a m => by
  rcases List.mem_cons.mp m with rfl | m
  · exact h.p_some
  · rw [List.mem_singleton.mp m]; exact h.q_some
/-- which data an expression gives; it stays so when objects are added -/
abbrev DS := St → Hp → PyData → Prop
abbrev DSs := St → Hp → List PyData → Prop
def tDat (K : PySem.W.Frag) (D : DS) : TE := fun σ H Q => ∃ (l : List Addr) (d : PyData), Alive l H ∧ D σ (mask l H) d ∧ ∀ v H', Same H H' → Dp K (mask l H') v d → Q v H'
def tDats (K : PySem.W.Frag) (D : DSs) : TA := fun σ H Q => ∃ (l : List Addr) (ds : List PyData), Alive l H ∧ D σ (mask l H) ds ∧ ∀ vs H', Same H H' → DpAll K (mask l H') vs ds → Q vs H'
structure DE (X : Cx) (e : Expr) (D : DS) : Prop where
  pe : PE X e (tDat X.K D)
  mono : ∀ σ H H' d, Same H H' → D σ H d → D σ H' d
structure DA (X : Cx) (es : List Expr) (D : DSs) : Prop where
  pa : PA X es (tDats X.K D)
  mono : ∀ σ H H' ds, Same H H' → D σ H ds → D σ H' ds
def dNil : DSs := fun _ _ ds => ds = []
def dCons (D : DS) (Ds : DSs) : DSs := fun σ H ds => ∃ d r, ds = d :: r ∧ D σ H d ∧ Ds σ H r
def dTup (Ds : DSs) : DS := fun σ H d => ∃ ds, d = .tuple ds ∧ ds.length ≤ 1000 ∧ Ds σ H ds
def dLst (Ds : DSs) : DS := fun σ H d => ∃ ds, d = .list ds ∧ ds.length ≤ 1000 ∧ Ds σ H ds
def dVar (K : PySem.W.Frag) (i : Nat) : DS := fun σ H d => ∃ v, σ[i]? = some (some v) ∧ Dp K H v d
def dIs (d0 : PyData) : DS := fun _ _ d => d = d0
section
variable {X : Cx} {e : Expr} {es : List Expr} {t : TE} {D : DS} {Ds : DSs} {pos : Pos}
theorem de_of (h : PE X e t) (w : ∀ σ H Q, tDat X.K D σ H Q → t σ H Q) (m : ∀ σ H H' d, Same H H' → D σ H d → D σ H' d) : DE X e D :=
  ⟨⟨fun pins s σ H Q I q => h.run pins s σ H Q I (w σ H Q q)⟩, m⟩
theorem de_str {x : Str} {j} : DE X (.Constant (.str x) j pos) (dIs (.str x)) :=
  de_of pe_str (fun _ H _ ⟨_, _, _, e, q⟩ => by cases e; exact q _ H (Same.refl H) (.str x)) fun _ _ _ _ _ h => h
theorem de_int {i : Int} {j} : DE X (.Constant (.int i) j pos) (dIs (.int i)) :=
  de_of pe_int (fun _ H _ ⟨_, _, _, e, q⟩ => by cases e; exact q _ H (Same.refl H) (.int i)) fun _ _ _ _ _ h => h
theorem de_bl {b : Bool} {j} : DE X (.Constant (.bool b) j pos) (dIs (.bool b)) :=
  de_of pe_bl (fun _ H _ ⟨_, _, _, e, q⟩ => by cases e; exact q _ H (Same.refl H) (.bl b)) fun _ _ _ _ _ h => h
theorem de_non {j} : DE X (.Constant .none j pos) (dIs .none) :=
  de_of pe_non (fun _ H _ ⟨_, _, _, e, q⟩ => by cases e; exact q _ H (Same.refl H) .non) fun _ _ _ _ _ h => h
theorem dv (i : Nat) {x : Str} (h : PE X (.Name x pos) (tVar i)) : DE X (.Name x pos) (dVar X.K i) :=
  de_of h (fun _ H _ ⟨_, _, _, ⟨v, e, hd⟩, q⟩ => ⟨v, e, q v H (Same.refl H) hd⟩) fun _ _ _ d s ⟨v, e, hd⟩ => ⟨v, e, dp_same s d v hd⟩
theorem da_nil : DA X [] dNil :=
  ⟨⟨fun pos pins s σ H Q I h => by
    obtain ⟨l, ds, _, e, q⟩ := h
    cases e
    exact pa_nil.run pos pins s σ H Q I (q [] H (Same.refl H) .nil)⟩, fun _ _ _ _ _ h => h⟩
theorem da_cons (h : DE X e D) (r : DA X es Ds) (hs : starEach (e :: es) X.env = (false, eval e X.env) :: starEach es X.env := by rfl) : DA X (e :: es) (dCons D Ds) :=
  ⟨⟨fun pos pins s σ H Q I hq => by
    obtain ⟨l, _, al, ⟨d, ds, rfl, h1, h2⟩, q⟩ := hq
    refine (pa_cons h.pe r.pa hs).run pos pins s σ H Q I ⟨l, d, al, h1, fun v H1 s1 hv => ⟨l, ds, al.same s1, r.mono _ _ _ _ (mask_same s1) h2, fun vs H2 s2 hvs => ?_⟩⟩
    exact q _ H2 (s1.trans s2) (.cons (dp_same (mask_same s2) d v hv) hvs)⟩,
   fun σ H H' ds s ⟨d, r', e, h1, h2⟩ => ⟨d, r', e, h.mono _ _ _ _ s h1, r.mono _ _ _ _ s h2⟩⟩
theorem len1000 {n : Nat} (h : n ≤ 1000) : n ≤ sizeLine := Nat.le_of_lt (small1000 h)
theorem de_tup {k} (h : DA X es Ds) : DE X (.Tuple es k pos) (dTup Ds) :=
  ⟨⟨fun pins s σ H Q I hq => by
    obtain ⟨l, _, al, ⟨ds, rfl, hl, h1⟩, q⟩ := hq
    refine (pe_tup h.pa).run pins s σ H Q I ⟨l, ds, al, h1, fun vs H1 s1 hv => ⟨by rw [dpAll_len hv]; exact len1000 hl, fun p np => ?_⟩⟩
    exact q _ _ (s1.trans (same_new np)) (.tup (SqT.of (mask_upd ((al.same s1).not np))) (dpAll_same (mask_same (same_new np)) _ _ hv))⟩,
   fun σ H H' d s ⟨ds, e, hl, h1⟩ => ⟨ds, e, hl, h.mono _ _ _ _ s h1⟩⟩
theorem de_lst (h : DA X es Ds) : DE X (.List es pos) (dLst Ds) :=
  ⟨⟨fun pins s σ H Q I hq => by
    obtain ⟨l, _, al, ⟨ds, rfl, hl, h1⟩, q⟩ := hq
    refine (pe_lst h.pa).run pins s σ H Q I ⟨l, ds, al, h1, fun vs H1 s1 hv => ⟨by rw [dpAll_len hv]; exact len1000 hl, fun p np => ?_⟩⟩
    exact q _ _ (s1.trans (same_new np)) (.lst (SqL.of (mask_upd ((al.same s1).not np))) (dpAll_same (mask_same (same_new np)) _ _ hv))⟩,
   fun σ H H' d s ⟨ds, e, hl, h1⟩ => ⟨ds, e, hl, h.mono _ _ _ _ s h1⟩⟩
end
theorem mask_new {l : List Addr} {H : Hp} {D : Addr} (n : H D = none) : Same (mask l H) (mask (D :: l) H) := fun a o e => by
  by_cases h : a ∈ D :: l
  · rcases List.mem_cons.mp h with rfl | h
    · have := mask_sub l H _ _ e
      rw [n] at this; cases this
    · rw [mask_in h] at e; cases e
  · rw [mask_out h]
    exact mask_sub l H _ _ e
theorem mask_less {l : List Addr} {H : Hp} {D : Addr} : Same (mask (D :: l) H) (mask l H) := fun a o e => by
  by_cases h : a ∈ D :: l
  · rw [mask_in h] at e; cases e
  · rw [mask_out h] at e
    rw [mask_out fun z => h (List.mem_cons_of_mem _ z)]
    exact e
theorem mask_at {l : List Addr} {H : Hp} {D : Addr} {o : HO} (m : D ∈ l) : Same (mask l H) (mask l (upd H D o)) := fun a u e => by
  by_cases h : a ∈ l
  · rw [mask_in h] at e; cases e
  · rw [mask_out h] at e ⊢
    rw [upd_ne fun z => h (by rw [z]; exact m)]
    exact e
theorem dpAll_app {K : PySem.W.Frag} {H : Hp} : ∀ {vs ws : List V} {ds es : List PyData}, DpAll K H vs ds → DpAll K H ws es → DpAll K H (vs ++ ws) (ds ++ es)
  | _, _, _, _, .nil, h => h
  | _, _, _, _, .cons h t, r => .cons h (dpAll_app t r)
theorem dpAll_drop {K : PySem.W.Frag} {H : Hp} : ∀ (n : Nat) {vs : List V} {ds : List PyData}, DpAll K H vs ds → DpAll K H (vs.drop n) (ds.drop n)
  | 0, _, _, h => h
  | n + 1, _, _, .nil => .nil
  | n + 1, _, _, .cons _ t => dpAll_drop n t
theorem dpAll_take {K : PySem.W.Frag} {H : Hp} : ∀ (n : Nat) {vs : List V} {ds : List PyData}, DpAll K H vs ds → DpAll K H (vs.take n) (ds.take n)
  | 0, _, _, _ => .nil
  | n + 1, _, _, .nil => .nil
  | n + 1, _, _, .cons h t => .cons h (dpAll_take n t)
theorem dpAll_at {K : PySem.W.Frag} {H : Hp} : ∀ {vs : List V} {ds : List PyData} {i : Nat} {v : V}, DpAll K H vs ds → vs[i]? = some v → ∃ d, ds[i]? = some d ∧ Dp K H v d
  | _, _, _, _, .nil, e => by simp at e
  | _, _, 0, _, .cons h _, e => by
    obtain rfl := Option.some.inj e
    exact ⟨_, rfl, h⟩
  | _, _, i + 1, _, .cons _ t, e => dpAll_at (i := i) t e
theorem dp_tup {K : PySem.W.Frag} {H : Hp} {v : V} {ds : List PyData} (h : Dp K H v (.tuple ds)) : ∃ a xs, v = .ref a ∧ SqT K H a xs ∧ DpAll K H xs ds := by
  cases h with
  | tup h1 h2 => exact ⟨_, _, rfl, h1, h2⟩
theorem dp_lst {K : PySem.W.Frag} {H : Hp} {v : V} {ds : List PyData} (h : Dp K H v (.list ds)) : ∃ a xs, v = .ref a ∧ SqL K H a xs ∧ DpAll K H xs ds := by
  cases h with
  | lst h1 h2 => exact ⟨_, _, rfl, h1, h2⟩
theorem dpAll_cons {K : PySem.W.Frag} {H : Hp} {vs : List V} {d : PyData} {ds : List PyData} (h : DpAll K H vs (d :: ds)) : ∃ v r, vs = v :: r ∧ Dp K H v d ∧ DpAll K H r ds := by
  cases h with
  | cons h1 h2 => exact ⟨_, _, rfl, h1, h2⟩
theorem dpAll_nil {K : PySem.W.Frag} {H : Hp} {vs : List V} (h : DpAll K H vs []) : vs = [] := by
  cases h; rfl
theorem dp_str {K : PySem.W.Frag} {H : Hp} {v : V} {x : Str} (h : Dp K H v (.str x)) : v = .str x := by
  cases h; rfl
theorem cut_tail {x : V} {r : List V} : cutV (x :: r) (some 1) none = r := by
  unfold cutV
  rw [show HT.sIx (x :: r).length 0 (some 1) = min 1 (x :: r).length from HT.sIx_nat _ 0 1, HT.sIx_none, List.length_cons, Nat.min_eq_left (by omega)]
  show List.take (r.length + 1 - 1) r = r
  rw [Nat.add_sub_cancel, List.take_length]
theorem cut_drop (xs : List V) (k : Nat) : cutV xs (some (k : Int)) none = xs.drop k := by
  unfold cutV
  rw [HT.sIx_nat, HT.sIx_none]
  by_cases h : k ≤ xs.length
  · rw [Nat.min_eq_left h]
    exact List.take_of_length_le (by rw [List.length_drop]; omega)
  · rw [Nat.min_eq_right (by omega), List.drop_of_length_le (Nat.le_refl _), List.drop_of_length_le (by omega)]; simp
/-! ### repr of data: some text of bounded length, whatever is under way -/
/-- the text of x is some text, no longer than B; all objects stay -/
def Shows (prog : Program) (w : World) (g : Heap) (x : Value) (B c : Nat) : Prop :=
  ∀ (b : Nat), b + B ≤ sizeLine → ∀ (A : Around) (E : Value → Shared → Prop) (s : Shared) (Q : Str → Shared → Prop), A.units + c < cLine → (∀ d o, g.get? d = some o → s.heap.get? d = some o) →
    (∀ (m : Str) (h' : Heap) (tk : Nat), m.length ≤ B → (∀ d o, s.heap.get? d = some o → h'.get? d = some o) → Q m { s with heap := h', toks := tk }) → wpAny (model prog w) A (pyReprUnder b x) Q E s
inductive ShowsAll (prog : Program) (w : World) (g : Heap) (c : Nat) : List Value → List Nat → Prop
  | nil : ShowsAll prog w g c [] []
  | cons {x : Value} {B : Nat} {l : List Value} {Bs : List Nat} : Shows prog w g x B c → ShowsAll prog w g c l Bs → ShowsAll prog w g c (x :: l) (B :: Bs)
def pileN (Bs : List Nat) : Nat := (Bs.map (· + 2)).sum
theorem pileN_cons (B : Nat) (Bs : List Nat) : pileN (B :: Bs) = B + 2 + pileN Bs := by
  unfold pileN; rw [List.map_cons, List.sum_cons]
theorem showsAll_len {prog : Program} {w : World} {g : Heap} {c : Nat} : ∀ {l : List Value} {Bs : List Nat}, ShowsAll prog w g c l Bs → Bs.length = l.length
  | _, _, .nil => rfl
  | _, _, .cons _ t => by rw [List.length_cons, List.length_cons, showsAll_len t]
theorem Shows.of {prog : Program} {w : World} {g : Heap} {x : Value} {t : Str} {B c : Nat} (h : ReprIs prog w x t) (hl : t.length ≤ B) : Shows prog w g x B c :=
  fun b hb A E s Q _ _ hQ => h b (by omega) A E s Q fun tk => hQ t s.heap tk hl fun _ _ e => e
theorem tupText_len (ts : List Str) : (tupleText ts).length ≤ piled ts + 2 := PySem.fmt_text ts
theorem listText_len : ∀ ts : List Str, (listText ts).length ≤ piled ts + 2
  | [] => by decide +kernel
  | t :: r => by
    have h := textFrom_length_pos r 1 (("[" : Str) ++ (if (0 : Nat) > 0 then ", " else "" : String) ++ t) (Nat.succ_pos 0)
    have e : ((("[" : Str) ++ (if (0 : Nat) > 0 then ", " else "" : String) ++ t)).length = 1 + t.length := by
      rw [strLen_append, strLen_append]; rfl
    have e1 : (listText (t :: r)).length = (textFrom 0 "[" (t :: r)).length + 1 := by
      show (textFrom 0 "[" (t :: r) ++ "]").length = _
      rw [strLen_append]; rfl
    have e2 : (textFrom 0 "[" (t :: r)).length = (textFrom 1 (("[" : Str) ++ (if (0 : Nat) > 0 then ", " else "" : String) ++ t) r).length := rfl
    rw [e1, e2, h, e, piled_cons]; omega
section
variable {prog : Program} {w : World} {A : Around} {E : Value → Shared → Prop} {g : Heap} {c : Nat}
theorem fold_some : ∀ (l : List Value) (Bs : List Nat) (acc : Array Str) (n : Nat) (s : Shared) (Q : (Array Str × Nat) → Shared → Prop), ShowsAll prog w g c l Bs → n + pileN Bs ≤ sizeLine → A.units + c < cLine → (∀ d o, g.get? d = some o → s.heap.get? d = some o) →
    (∀ (ts : List Str) (h' : Heap) (tk : Nat), ts.length = l.length → piled ts ≤ pileN Bs → (∀ d o, s.heap.get? d = some o → h'.get? d = some o) → Q ⟨acc ++ ts.toArray, n + piled ts⟩ { s with heap := h', toks := tk }) →
    wpAny (model prog w) A (forIn l (⟨acc, n⟩ : (Array Str × Nat)) tupBody) Q E s := by
  intro l
  induction l with
  | nil =>
    intro Bs acc n s Q hT hn hu hk h
    have h0 := h [] s.heap s.toks rfl (Nat.zero_le _) fun _ _ e => e
    rw [List.forIn_nil]
    exact wpAny_pure (by simpa [piled] using h0)
  | cons x l ih =>
    intro Bs acc n s Q hT hn hu hk h
    cases hT with
    | @cons _ B _ Bs' hx hl =>
      rw [pileN_cons] at hn
      rw [List.forIn_cons]
      refine wpAny_bind (wpAny_bind (hx (n + 1) (by omega) _ _ s _ hu hk fun m h1 tk hm k1 => wpAny_pure ?_))
      refine ih Bs' (acc.push m) (n + (m.length + 2)) { s with heap := h1, toks := tk } Q hl (by omega) hu (fun d o e => k1 d o (hk d o e)) fun ts h2 tk2 el hp k2 => ?_
      have h3 := h (m :: ts) h2 tk2 (by rw [List.length_cons, List.length_cons, el]) (by rw [piled_cons, pileN_cons]; omega) fun d o e => k2 d o (k1 d o e)
      have e : n + piled (m :: ts) = n + (m.length + 2) + piled ts := by rw [piled_cons]; omega
      rw [e] at h3
      simpa using h3
theorem tupRest_some {s : Shared} {a : Addr} {o : Obj} {items : Array Value} {n b : Nat} {Bs : List Nat} {Q : Fin → Shared → Prop} (ha : s.heap.get? a = some o) (hd : o.data = .seq items n) (hT : ShowsAll prog w g c items.toList Bs) (hu : A.units + c < cLine)
    (hk : ∀ d o, g.get? d = some o → s.heap.get? d = some o) (hsz : b + pileN Bs + 2 ≤ sizeLine) (h : ∀ (m : Str) (h' : Heap) u tk, m.length ≤ pileN Bs + 2 → (∀ d o, s.heap.get? d = some o → h'.get? d = some o) → Q (.done (.ret (.str m u))) { s with heap := h', toks := tk }) :
    wpAny (model prog w) A (tupleReprRest b (.ref a)) Q E s := by
  unfold tupleReprRest Builtin.Tuple.tupleItemsOf
  refine wpAny_bind (wpAny_bind (wpAny_seqItems ha hd (wpAny_pure ?_)))
  rw [← Array.forIn_toList]
  refine wpAny_bind (fold_some _ Bs _ _ s _ hT (by omega) hu hk fun ts h' tk el hp k' => ?_)
  have et := tupText_len ts
  have hlen : ts.length = items.size := by simpa using el
  have hz : (tupleText ts).length ≤ sizeLine := by omega
  refine wpAny_bind (wpAny_mkStr (wpAny_pure ?_) (by simpa [tupleText, hlen] using hz))
  have h1 := h (tupleText ts) h' tk (tk + 1) (by omega) k'
  simpa [tupleText, hlen] using h1
theorem tup_some {s : Shared} {a : Addr} {o : Obj} {items : Array Value} {n b : Nat} {Bs : List Nat} {Q : Fin → Shared → Prop} (ha : s.heap.get? a = some o) (hd : o.data = .seq items n) (hT : ShowsAll prog w g c items.toList Bs) (hu : A.units + c < cLine)
    (hk : ∀ d o, g.get? d = some o → s.heap.get? d = some o) (hsz : b + pileN Bs + 5 ≤ sizeLine) (h : ∀ (m : Str) (h' : Heap) u tk, m.length ≤ pileN Bs + 5 → (∀ d o, s.heap.get? d = some o → h'.get? d = some o) → Q (.done (.ret (.str m u))) { s with heap := h', toks := tk }) :
    wpAny (model prog w) A (Builtin.tupleReprAt b ⟨[.ref a], []⟩) Q E s := by
  rw [tuple_repr_tree]
  refine wpAny_bind (PySem.fmt_underWay fun t => ?_)
  cases t with
  | true =>
    refine PySem.W.KFB.if_so rfl ?_
    refine wpAny_bind (wpAny_rule ?_)
    refine wpAny_bind (wpAny_mkStr (wpAny_pure ?_) (by decide +kernel))
    exact h "(...)" s.heap _ _ (Nat.le_trans PySem.fmt_way (Nat.le_add_left _ _)) fun _ _ e => e
  | false =>
    refine PySem.W.KFB.if_not rfl ?_
    exact tupRest_some ha hd hT hu hk (by omega) fun m h' u tk hm k' => h m h' u tk (by omega) k'
theorem Shows.tuple {a : Addr} {o : Obj} {items : Array Value} {n : Nat} {Bs : List Nat} (ha : g.get? a = some o) (hc : o.cls = .type "tuple") (hd : o.data = .seq items n) (hT : ShowsAll prog w g c items.toList Bs) : Shows prog w g (.ref a) (pileN Bs + 5) (c + 1) := fun b hb A E s Q hu hk hQ => by
  refine wpAny_pyReprUnder_ref (by omega) (wpAny_pyReprObjUnder_twin (twin := "tuple.__repr__.under") ⟨o, hk _ _ ha, hc⟩ F.slot_tuple_repr rfl (by omega) ?_)
  refine call_twin_own (F.quiet_tuple_repr_under _) F.entry_tuple_repr_under F.check_tuple_repr_under ⟨o, hk _ _ ha, hc⟩ F.slot_tuple_repr (F.args_tuple_repr_1 _) (wpOwn_of_wpAny ?_)
  refine tup_some (hk _ _ ha) hd hT ?_ hk (by omega) fun m h' u tk hm k' => ?_
  · have e : (A.under (Code.builtin "tuple.__repr__.under" { pos := [Value.ref a, rawInt ↑b] })).units = A.units + 1 := by first | rfl | simp [Around.under, Code.cUnits, Code.frames, Code.isFrame]
    rw [e]; omega
  · exact ⟨⟨_, _, rfl⟩, _, _, rfl, hQ m h' tk hm k'⟩
theorem list_head {M : Model} {s : Shared} {Q : Fin → Shared → Prop} {a : Addr} {o : Obj} {items : Array Value} {n b : Nat} (hget : s.heap.get? a = some o) (hd : o.data = .seq items n)
    (h0 : Q (.done (.ret (.str "[]" s.toks))) { s with toks := s.toks + 1 }) (h1 : Q (.done (.ret (.str "[...]" s.toks))) { s with toks := s.toks + 1 })
    (h2 : wpAny M A (do again (.builtin "list.__repr__.loop" ⟨[.ref a, rawInt 0, ← newList [], rawInt b], []⟩)) Q E s) : wpAny M A (Builtin.listReprAt b ⟨[.ref a], []⟩) Q E s := by
  intro Γ p hΓ
  have h3 := h2 Γ p hΓ
  unfold Builtin.listReprAt
  simp [slotArgs, Builtin.List.listItems, seqItems?, Sem.wp_load_of (h := hget), hd, stack]
  split
  · simp [rule, retStr, ret]
    exact h0
  · simp
    show Sem.wp M Γ (if (Γ.below.any _) = true then _ else _) _ _ p s
    generalize (Γ.below.any _) = z
    cases z with
    | true =>
      rw [if_pos rfl]
      simp [rule, retStr, ret]
      exact h1
    | false =>
      rw [if_neg (by decide)]
      exact h3
def atN (Bs : List Nat) : Nat := pileN Bs
theorem pileN_drop {Bs : List Nat} {i B : Nat} (h : Bs[i]? = some B) : pileN (Bs.drop i) = B + 2 + pileN (Bs.drop (i + 1)) := by
  obtain ⟨hi, e⟩ := List.getElem?_eq_some_iff.mp h
  rw [List.drop_eq_getElem_cons hi, e, pileN_cons]
theorem showsAll_at {prog : Program} {w : World} {g : Heap} {c : Nat} : ∀ {l : List Value} {Bs : List Nat} {i : Nat} {x : Value}, ShowsAll prog w g c l Bs → l[i]? = some x → ∃ B, Bs[i]? = some B ∧ Shows prog w g x B c
  | _, _, _, _, .nil, e => by simp at e
  | _, _, 0, _, .cons h _, e => by
    obtain rfl := Option.some.inj e
    exact ⟨_, rfl, h⟩
  | _, _, i + 1, _, .cons _ t, e => showsAll_at (i := i) t e
theorem loop_some {R : Result → Shared → Prop} {a P : Addr} {b : Nat} (hne : a ≠ P) {items : Array Value} {Bs : List Nat} (hT : ShowsAll prog w g c items.toList Bs) (hu : A.units + 1 + c < cLine) (hgP : ∀ o, g.get? P = some o → False) (hsz : b + pileN Bs + 5 ≤ sizeLine) (hit : items.size ≤ 100000) :
    ∀ (k i : Nat) (s : Shared) (oa : Obj) (na : Nat) (acc : Array Value) (cc : Nat) (done : List (Str × Tok)), items.size - i = k → i ≤ items.size → (∀ d o, g.get? d = some o → s.heap.get? d = some o) →
    s.heap.get? a = some oa → oa.data = .seq items na →
    s.heap.get? P = some { cls := .type "list", dict := none, data := .seq acc cc, slots := #[] } → acc.toList = strValues done → done.length = i → piled (done.map (·.1)) + pileN (Bs.drop i) ≤ pileN Bs →
    (∀ (m : Str) h' u tk, m.length ≤ pileN Bs + 5 → (∀ d o, d ≠ P → s.heap.get? d = some o → h'.get? d = some o) → R (.ok (.ret (.str m u))) { s with heap := h', toks := tk }) →
    codeAny (model prog w) A (.builtin "list.__repr__.loop" ⟨[.ref a, rawInt i, .ref P, rawInt ((b + piled (done.map (·.1)) : Nat) : Int)], []⟩) R s := by
  intro k
  induction k with
  | zero =>
    intro i s oa na acc cc done hk hi hg ha hda hP hacc hdone hpile hR
    have hin : i = items.size := by omega
    refine codeAny_builtin F.entry_list_repr_loop ?_
    show wpAny _ _ (Builtin.«list.__repr__.loop» ⟨[.ref a, .int i 0, .ref P, .int ((b + piled (done.map (·.1)) : Nat) : Int) 0], []⟩) _ _ s
    rw [repr_loop_tree]
    refine wpAny_bind (wpAny_listItems ha hda ?_)
    have hnone : items[(i : Int).toNat]? = none := by simp [hin]
    simp only [hnone]
    unfold reprEnd
    refine wpAny_bind (wpAny_listItems hP rfl ?_)
    rw [hacc, repr_fold]
    refine wpAny_bind (wpAny_pure ?_)
    have hl := listText_len (done.map (·.1))
    refine wpAny_bind (wpAny_mkStr (wpAny_pure ?_) (show (listText (done.map (·.1))).length ≤ sizeLine by omega))
    exact hR (listText (done.map (·.1))) s.heap _ _ (by omega) fun _ _ _ e => e
  | succ k ih =>
    intro i s oa na acc cc done hk hi hg ha hda hP hacc hdone hpile hR
    have hlt : i < items.size := by omega
    obtain ⟨B, hB, hrep⟩ := showsAll_at (i := i) (x := items[i]) hT (by simp [hlt])
    have hp1 := pileN_drop hB
    refine codeAny_builtin F.entry_list_repr_loop ?_
    show wpAny _ _ (Builtin.«list.__repr__.loop» ⟨[.ref a, .int i 0, .ref P, .int ((b + piled (done.map (·.1)) : Nat) : Int) 0], []⟩) _ _ s
    rw [repr_loop_tree]
    refine wpAny_bind (wpAny_listItems ha hda ?_)
    have hsome : items[(i : Int).toNat]? = some items[i] := by simp [hlt]
    simp only [hsome]
    rw [Int.toNat_natCast]
    have hun : (A.under (.builtin "list.__repr__.loop" ⟨[.ref a, rawInt i, .ref P, rawInt ((b + piled (done.map (·.1)) : Nat) : Int)], []⟩)).units = A.units + 1 := by first | rfl | simp [Around.under, Code.cUnits, Code.frames, Code.isFrame]
    refine wpAny_bind (wpAny_holding (hrep (b + piled (done.map (·.1)) + 1) (by omega) _ _ s _ (by first | (show A.units + 1 + c < cLine; omega) | (show A.units + c < cLine; omega)) hg fun m h1 tk hm k1 => ?_))
    refine wpAny_bind (wpAny_mkStr ?_ (by omega))
    refine wpAny_bind ?_
    show wpAny _ _ (updateSeq P _) _ _ _
    have hasz : acc.size ≤ sizeLine := by
      have e1 : acc.toList.length = acc.size := by simp
      have e2 : (strValues done).length = done.length := by simp [strValues]
      have e3 : (100000 : Nat) ≤ sizeLine := by decide
      rw [hacc] at e1; omega
    have hP1 := k1 _ _ hP
    refine wpAny_updateSeq hP1 rfl (wpAny_pure ⟨F.quiet_list_repr_loop _, ?_⟩) hasz
    have e1 : ((i : Int) + 1) = ((i + 1 : Nat) : Int) := by omega
    have e2 : b + piled (done.map (·.1)) + (m.length + 2) = b + piled ((done ++ [(m, tk)]).map (·.1)) := by
      rw [List.map_append, piled_append]
      show _ = b + (_ + piled [m])
      rw [piled_cons]; show _ = b + (_ + (m.length + 2 + 0)); omega
    rw [e1, e2]
    have e4 : piled ((done ++ [(m, tk)]).map (·.1)) = piled (done.map (·.1)) + (m.length + 2) := by omega
    refine ih (i + 1) _ oa na (acc.push (.str m tk)) _ (done ++ [(m, tk)]) (by omega) hlt (fun d o e => ?_) ((Heap.get?_update_other _ _ (fun h : P = a => hne h.symm)).trans (k1 _ _ ha)) hda (Heap.get?_update_self _ hP1 rfl) (by simp [hacc, strValues]) (by simp [hdone]) (by omega) fun m2 h' u tk' hm2 hh => ?_
    · exact (Heap.get?_update_other _ _ (fun h : P = d => by rw [← h] at e; exact hgP o e)).trans (k1 _ _ (hg _ _ e))
    · exact hR m2 h' u tk' hm2 fun d o hd e => hh d o hd ((Heap.get?_update_other _ _ (fun h : P = d => hd h.symm)).trans (k1 _ _ e))
theorem list_fin {R : Result → Shared → Prop} {s : Shared} {a : Addr} {oa : Obj} {items : Array Value} {na b : Nat} {Bs : List Nat} (ha : s.heap.get? a = some oa) (hda : oa.data = .seq items na) (hT : ShowsAll prog w g c items.toList Bs) (hu : A.units + 1 + c < cLine)
    (hg : ∀ d o, g.get? d = some o → s.heap.get? d = some o) (hsz : b + pileN Bs + 5 ≤ sizeLine) (hit : items.size ≤ 100000)
    (hR : ∀ (m : Str) h' u tk, m.length ≤ pileN Bs + 5 → (∀ d o, s.heap.get? d = some o → h'.get? d = some o) → R (.ok (.ret (.str m u))) { s with heap := h', toks := tk }) :
    wpAny (model prog w) A.in1 (Builtin.listReprAt b ⟨[.ref a], []⟩)
      (fun fin s' => match fin with | .done f => R (.ok f) s' | .again c' => c'.quiet = true ∧ codeAny (model prog w) A c' R s') (fun e s' => R (.error e) s') s := by
  have l1 : (("[]" : String) : Str).length ≤ pileN Bs + 5 := Nat.le_trans (by decide +kernel : (("[]" : String) : Str).length ≤ 5) (Nat.le_add_left _ _)
  have l2 : (("[...]" : String) : Str).length ≤ pileN Bs + 5 := Nat.le_trans (by decide +kernel : (("[...]" : String) : Str).length ≤ 5) (Nat.le_add_left _ _)
  refine list_head ha hda (hR "[]" s.heap _ _ l1 fun _ _ e => e) (hR "[...]" s.heap _ _ l2 fun _ _ e => e) ?_
  refine wpAny_bind (m := newList []) (wpAny_newObj_type ?_)
  refine wpAny_pure ⟨F.quiet_list_repr_loop _, ?_⟩
  have e0 : (b : Int) = ((b + piled ((([] : List (Str × Tok))).map (·.1)) : Nat) : Int) := by simp [piled]
  rw [e0]
  refine loop_some (P := s.heap.objs.size) (Nat.ne_of_lt (Heap.lt_size ha)) hT hu (fun o e => absurd (Heap.lt_size (hg _ _ e)) (Nat.lt_irrefl _)) hsz hit items.size 0 _ oa na #[] _ [] (by omega) (Nat.zero_le _) (fun d o e => Heap.get?_push_of_some _ (hg d o e)) (Heap.get?_push_of_some _ ha) hda
    (Heap.get?_push_size _ rfl) rfl rfl (by simp [piled]) fun m h' u tk hm hk => ?_
  exact hR m h' u tk hm fun d o e => hk d o (Nat.ne_of_lt (Heap.lt_size e)) (Heap.get?_push_of_some _ e)
theorem Shows.list {a : Addr} {o : Obj} {items : Array Value} {n : Nat} {Bs : List Nat} (ha : g.get? a = some o) (hc : o.cls = .type "list") (hd : o.data = .seq items n) (hT : ShowsAll prog w g c items.toList Bs) (hit : items.size ≤ 100000) : Shows prog w g (.ref a) (pileN Bs + 5) (c + 3) := fun b hb A E s Q hu hk hQ => by
  refine wpAny_pyReprUnder_ref (by omega) (wpAny_pyReprObjUnder_twin (twin := "list.__repr__.under") ⟨o, hk _ _ ha, hc⟩ F.slot_list_repr.toG rfl (by omega) ?_)
  refine call_twin_plain F.plain_list_repr_under F.entry_list_repr_under F.check_list_repr_under ⟨o, hk _ _ ha, hc⟩ F.slot_list_repr.toG (F.args_list_repr_1 _) ?_
  refine list_fin (R := callEnd (fun v s' => (∃ x u, v = .str x u) ∧ ∃ x u, v = .str x u ∧ Q x s') E) (hk _ _ ha) hd hT (by omega) hk (by omega) hit fun m h' u tk hm k' => ?_
  exact ⟨⟨_, _, rfl⟩, _, _, rfl, hQ m h' tk hm k'⟩
end
/-- small data -/
def sm : Nat → PyData → Prop
  | 0, _ => False
  | _ + 1, .none => True
  | _ + 1, .bool _ => True
  | _ + 1, .int i => i.natAbs < 10 ^ 100
  | _ + 1, .str x => x.length ≤ 100 ∧ ∀ c ∈ x.cps.toList, c < 1000
  | m + 1, .list xs => xs.length ≤ 12 ∧ ∀ x ∈ xs, sm m x
  | m + 1, .tuple xs => xs.length ≤ 12 ∧ ∀ x ∈ xs, sm m x
  | _ + 1, .dict _ => False
def bN : Nat → Nat
  | 0 => 2000
  | m + 1 => 12 * (bN m + 2) + 5
theorem bN_ge : ∀ m, 2000 ≤ bN m
  | 0 => Nat.le_refl _
  | m + 1 => by have := bN_ge m; simp only [bN]; omega
theorem log_small {i : Int} (h : i.natAbs < 10 ^ 100) : i.natAbs.log2 < 1920 := by
  refine PySem.Flt.log2_lt_of (by decide) (Nat.lt_of_lt_of_le h ?_)
  decide +kernel
theorem pile_const {B : Nat} : ∀ {n : Nat}, n ≤ 12 → pileN (List.replicate n B) ≤ 12 * (B + 2) := by
  intro n h
  have e : pileN (List.replicate n B) = n * (B + 2) := by
    unfold pileN
    rw [List.map_replicate, List.sum_replicate_nat]
  rw [e]
  exact Nat.mul_le_mul_right _ h
theorem Shows.mono {prog : Program} {w : World} {g : Heap} {x : Value} {B C c d : Nat} (h : Shows prog w g x B c) (hb : B ≤ C) (hc : c ≤ d) : Shows prog w g x C d :=
  fun b hb' A E s Q hu hk hQ => h b (by omega) A E s Q (by omega) hk fun m h' tk hm => hQ m h' tk (by omega)
section
variable {X : Cx} {pins : List (Addr × Obj)} {σ : St} {H : Hp} {s : Shared}
theorem shows_all {B c : Nat} : ∀ {vs : List V} {us : List Value} {ds : List PyData}, Vals vs us → DpAll X.K H vs ds → (∀ d ∈ ds, ∀ v u, Dp X.K H v d → RelV v u → Shows X.prog X.w s.heap u B c) → ShowsAll X.prog X.w s.heap c us (List.replicate ds.length B)
  | _, _, _, .nil, .nil, _ => .nil
  | _, _, _, .cons r t, .cons h k, hd => .cons (hd _ List.mem_cons_self _ _ h r) (shows_all t k fun d hm => hd d (List.mem_cons_of_mem _ hm))
theorem shows_leaf (I : Inv X pins σ H s) (m : Nat) : ∀ (d : PyData) (v : V) (u : Value), Dp X.K H v d → RelV v u → sm (m + 1) d → (∀ xs, d ≠ .list xs) → (∀ xs, d ≠ .tuple xs) → Shows X.prog X.w s.heap u 2000 0 := by
  intro d v u hv r hd n1 n2
  cases hv with
  | non =>
    obtain rfl : u = .none := r
    exact .of ReprIs.none (by decide +kernel)
  | bl b =>
    obtain rfl : u = .bool b := r
    exact .of (ReprIs.bool b) (by cases b <;> decide +kernel)
  | int i =>
    obtain ⟨t, rfl⟩ := r
    simp only [sm] at hd
    exact .of (ReprIs.int t (log_small hd)) (Nat.le_trans (PyProof.Rows.int_text_len_1921 (log_small hd)) (by decide))
  | str x =>
    obtain ⟨t, rfl⟩ := r
    simp only [sm] at hd
    have hl := StrLaws.reprText_len x fun c hc => Nat.lt_trans (hd.2 c hc) (by decide)
    exact .of (ReprIs.str x t (by have : (2000 : Nat) ≤ sizeLine := by decide
                                  omega)) (by omega)
  | lst h1 h2 => exact absurd rfl (n1 _)
  | tup h1 h2 => exact absurd rfl (n2 _)
theorem shows_lst (I : Inv X pins σ H s) {B c : Nat} {v : V} {u : Value} {ds : List PyData} (hv : Dp X.K H v (.list ds)) (r : RelV v u) (hl : ds.length ≤ 12) (hd : ∀ d ∈ ds, ∀ v u, Dp X.K H v d → RelV v u → Shows X.prog X.w s.heap u B c) :
    Shows X.prog X.w s.heap u (12 * (B + 2) + 5) (c + 3) := by
  obtain ⟨a, xs, rfl, h1, h2⟩ := dp_lst hv
  obtain rfl : u = .ref a := r
  obtain ⟨its, rv, ⟨o, n, ho, hc, _, hdt⟩, hz⟩ := I.list h1
  have e1 := dpAll_len h2
  have e2 := rv.length
  refine (Shows.list ho hc hdt (shows_all rv h2 hd) (by rw [List.size_toArray]; omega)).mono ?_ (Nat.le_refl _)
  have := pile_const (B := B) hl
  omega
theorem shows_tup (I : Inv X pins σ H s) {B c : Nat} {v : V} {u : Value} {ds : List PyData} (hv : Dp X.K H v (.tuple ds)) (r : RelV v u) (hl : ds.length ≤ 12) (hd : ∀ d ∈ ds, ∀ v u, Dp X.K H v d → RelV v u → Shows X.prog X.w s.heap u B c) :
    Shows X.prog X.w s.heap u (12 * (B + 2) + 5) (c + 3) := by
  obtain ⟨a, xs, rfl, h1, h2⟩ := dp_tup hv
  obtain rfl : u = .ref a := r
  obtain ⟨its, rv, ⟨o, ho, hc, n, hdt⟩, hz⟩ := I.tuple h1
  refine (Shows.tuple ho hc hdt (shows_all rv h2 hd)).mono ?_ (by omega)
  have := pile_const (B := B) hl
  omega
theorem shows_sm (I : Inv X pins σ H s) : ∀ (m : Nat) (d : PyData) (v : V) (u : Value), Dp X.K H v d → RelV v u → sm (m + 1) d → Shows X.prog X.w s.heap u (bN (m + 1)) (3 * m + 3) := by
  intro m
  induction m with
  | zero =>
    intro d v u hv r hd
    cases d with
    | list ds =>
      simp only [sm] at hd
      exact (shows_lst (B := 2000) (c := 0) I hv r hd.1 fun d hm => absurd (hd.2 d hm) (by simp)).mono (Nat.le_refl _) (by omega)
    | tuple ds =>
      simp only [sm] at hd
      exact (shows_tup (B := 2000) (c := 0) I hv r hd.1 fun d hm => absurd (hd.2 d hm) (by simp)).mono (Nat.le_refl _) (by omega)
    | dict ds => simp [sm] at hd
    | _ => exact (shows_leaf I 0 _ v u hv r hd (fun _ z => by cases z) (fun _ z => by cases z)).mono (bN_ge 1) (by omega)
  | succ m ih =>
    intro d v u hv r hd
    cases d with
    | list ds =>
      simp only [sm] at hd
      exact (shows_lst I hv r hd.1 fun d hm v u h1 h2 => ih d v u h1 h2 (hd.2 d hm)).mono (Nat.le_refl _) (by omega)
    | tuple ds =>
      simp only [sm] at hd
      exact (shows_tup I hv r hd.1 fun d hm v u h1 h2 => ih d v u h1 h2 (hd.2 d hm)).mono (Nat.le_refl _) (by omega)
    | dict ds => simp [sm] at hd
    | _ => exact (shows_leaf I (m + 1) _ v u hv r hd (fun _ z => by cases z) (fun _ z => by cases z)).mono (bN_ge _) (by omega)
/-- repr itself, for an f-string -/
theorem repr_obj (I : Inv X pins σ H s) {d : PyData} {v : V} {u : Value} {E : Value → Shared → Prop} {Q : Value → Shared → Prop} {A : Around} (hv : Dp X.K H v d) (r : RelV v u) (hd : sm 3 d) (hu : A.units + 40 < cLine)
    (hQ : ∀ (m : Str) (h' : Heap) u tk, m.length ≤ 3500000 → (∀ d o, s.heap.get? d = some o → h'.get? d = some o) → Q (.str m u) { s with heap := h', toks := tk }) : wpAny (model X.prog X.w) A (pyReprObj u) Q E s := by
  have line : (3500100 : Nat) ≤ sizeLine := by decide
  have b2 : 12 * (bN 2 + 2) + 5 ≤ 3500000 := by decide
  cases d with
  | none =>
    cases hv
    obtain rfl : u = .none := r
    exact pyReprObj_none (hQ "None" s.heap _ _ (Nat.le_trans (by decide +kernel : _ ≤ 10) (by decide)) fun _ _ e => e)
  | bool b =>
    cases hv
    obtain rfl : u = .bool b := r
    exact pyReprObj_bool (hQ _ s.heap _ _ (Nat.le_trans (by cases b <;> decide +kernel : _ ≤ 10) (by decide)) fun _ _ e => e)
  | int i =>
    cases hv
    obtain ⟨t, rfl⟩ := r
    simp only [sm] at hd
    exact pyReprObj_int (log_small hd) (hQ _ s.heap _ _ (Nat.le_trans (PyProof.Rows.int_text_len_1921 (log_small hd)) (by decide)) fun _ _ e => e)
  | str x =>
    cases hv
    obtain ⟨t, rfl⟩ := r
    simp only [sm] at hd
    have hl := StrLaws.reprText_len x fun c hc => Nat.lt_trans (hd.2 c hc) (by decide)
    exact pyReprObj_str (hQ _ s.heap _ _ (by omega) fun _ _ e => e) (by omega)
  | dict kvs => simp [sm] at hd
  | list ds =>
    simp only [sm] at hd
    obtain ⟨a, xs, rfl, h1, h2⟩ := dp_lst hv
    obtain rfl : u = .ref a := r
    obtain ⟨its, rv, ⟨o, n, ho, hc, _, hdt⟩, hz⟩ := I.list h1
    have hT : s.TypeIs (.ref a) "list" := ⟨o, ho, hc⟩
    have e1 := dpAll_len h2
    have e2 := rv.length
    have all := shows_all (B := bN 2) (c := 6) rv h2 fun d hm v u h1 h2 => shows_sm I 1 d v u h1 h2 (hd.2 d hm)
    have hp := pile_const (B := bN 2) hd.1
    unfold pyReprObj
    refine wpAny_bind (wpAny_cRoomFor (by omega) ?_)
    refine wpAny_bind (wpAny_specialOf (name := Str.ofString "__repr__") hT F.slot_list_repr.lookup ?_)
    refine wpAny_bind (m := callSpecialIfBound? (.ref a) (Str.ofString "__repr__")) (wpAny_callSpecialIfBound?_slot (name := Str.ofString "__repr__") hT F.slot_list_repr ?_)
    refine wpAny_call (codeAny_call_builtin F.slot_list_repr.plain F.entry_list_repr (F.slot_list_repr.check _ _ _ _ _ _ _ _ hT (F.args_list_repr_1 _) ?_))
    refine list_fin (b := 0) (g := s.heap) (c := 6) (R := callEnd _ E) ho hdt all (by omega) (fun _ _ e => e) (by omega) (by rw [List.size_toArray]; omega) fun m h' u tk hm k' => ?_
    exact wpAny_bind (wpAny_isInstance (T := "str") (b := true) rfl isSubtype_str_str (wpAny_pure (hQ m h' u tk (by omega) k')))
  | tuple ds =>
    simp only [sm] at hd
    obtain ⟨a, xs, rfl, h1, h2⟩ := dp_tup hv
    obtain rfl : u = .ref a := r
    obtain ⟨its, rv, ⟨o, ho, hc, n, hdt⟩, hz⟩ := I.tuple h1
    have hT : s.TypeIs (.ref a) "tuple" := ⟨o, ho, hc⟩
    have all := shows_all (B := bN 2) (c := 6) rv h2 fun d hm v u h1 h2 => shows_sm I 1 d v u h1 h2 (hd.2 d hm)
    have hp := pile_const (B := bN 2) hd.1
    unfold pyReprObj
    refine wpAny_bind (wpAny_cRoomFor (by omega) ?_)
    refine wpAny_bind (wpAny_specialOf (name := Str.ofString "__repr__") hT F.slot_tuple_repr.lookup ?_)
    refine wpAny_bind (m := callSpecialIfBound? (.ref a) (Str.ofString "__repr__")) (wpAny_callSpecialIfBound?_slotG (name := Str.ofString "__repr__") hT F.slot_tuple_repr ?_)
    refine wpAny_call (codeAny_call_builtin_own (Code.quiet_builtin _ (by decide +kernel)) F.entry_tuple_repr (F.slot_tuple_repr.check _ _ _ _ _ _ _ _ hT (F.args_tuple_repr_1 _) (wpOwn_of_wpAny ?_)))
    refine tup_some (b := 0) (g := s.heap) (c := 6) ho hdt all ?_ (fun _ _ e => e) (by omega) fun m h' u tk hm k' => ?_
    · have e : (A.under (Code.builtin "tuple.__repr__" { pos := [Value.ref a] })).units = A.units + 1 := by first | rfl | simp [Around.under, Code.cUnits, Code.frames, Code.isFrame]
      rw [e]; omega
    · exact wpAny_bind (wpAny_isInstance (T := "str") (b := true) rfl isSubtype_str_str (wpAny_pure (hQ m h' u tk (by omega) k')))
/-- {x!r} of small data: some text -/
def tShow (K : PySem.W.Frag) (te : TE) : TE := fun σ H Q => te σ H fun x H1 => ∃ d, Dp K H1 x d ∧ sm 3 d ∧ ∀ m : Str, m.length ≤ 3500000 → Q (.str m) H1
theorem pe_show {k : Nat} {e : Expr} {te : TE} {pos : Pos} (hr : Room k X.A) (he : PE X e te) : PE X (.FormattedValue e 114 none pos) (tShow X.K te) := by
  refine ⟨fun pins s σ H Q I h => ?_⟩
  have hu := hr.units
  refine wpAny_FormattedValue_repr (thn (he.run pins s σ H _ I h) fun v s1 hv => ?_)
  obtain ⟨x, H1, I1, r1, d, hd, hs, q⟩ := hv
  refine repr_obj I1 hd r1 hs (by omega) fun m h' u tk hm k' => ?_
  have line : (3500100 : Nat) ≤ sizeLine := by decide
  exact wpAny_formatField_str ⟨.str m, H1, I1.kept (t' := tk) k', ⟨_, rfl⟩, q m hm⟩ ⟨.str m, H1, (I1.kept (t' := tk) k').tok _, ⟨_, rfl⟩, q m hm⟩ (by omega)
end
/-! ### the errors' __init__: super().__init__(f"..{x!r}"); self.x = x -/
def eArgs (x : Str) (p1 p2 : Pos) : Arguments := { posonlyargs := [], args := [{ arg := "self", annotation := none, pos := p1 }, { arg := x, annotation := none, pos := p2 }], vararg := none, kwonlyargs := [], kw_defaults := [], kwarg := none, defaults := [] }
def eSup (x txt : Str) (j : Nat) (p0 p1 p2 p3 p4 p5 p6 p7 : Pos) : Expr := .Call (.Attribute (.Call (.Name "super" p0) [] [] p1) "__init__" p2) [.JoinedStr [.Constant (.str txt) j p3, .FormattedValue (.Name x p4) 114 none p5] p6] [] p7
def eBody (x txt : Str) (j : Nat) (p0 p1 p2 p3 p4 p5 p6 p7 p8 q1 q2 q3 q4 : Pos) : List Stmt := [.Expr (eSup x txt j p0 p1 p2 p3 p4 p5 p6 p7) p8, .Assign [.Attribute (.Name "self" q1) x q2] (.Name x q3) q4]
def eScope (x : Str) (mr : List (Str × Const)) : Scope := { kind := .function, names := [("self", .local), (x, .local), ("__class__", .free), ("super", .globalImplicit)], isGenerator := false, isCoroutine := false, more := mr }
/-- how the call of super().__init__ is evaluated -/
def SupEv (x txt : Str) (j : Nat) (p0 p1 p2 p3 p4 p5 p6 p7 : Pos) : Prop := ∀ env : Env, ∃ pl : Sem Bool, eval (eSup x txt j p0 p1 p2 p3 p4 p5 p6 p7) env = (do
  let ov ← attributeBase (.Call (.Name "super" p0) [] [] p1) "__init__" env (eval (.Call (.Name "super" p0) [] [] p1) env)
  standAt p2.atName
  let (f, first) ← holding [ov] (getMethod ov "__init__" pl)
  callWith p7 f first (backTo p7 (starEach [.JoinedStr [.Constant (.str txt) j p3, .FormattedValue (.Name x p4) 114 none p5] p6] env)) [])
structure NmOk (x : Str) : Prop where
  n1 : (x == ("self" : Str)) = false
  n2 : (x == ("__class__" : Str)) = false
  n3 : (x == ("super" : Str)) = false
  n4 : (x == ("__debug__" : Str)) = false
  n5 : (x == ("__classdict__" : Str)) = false
theorem bne_symm {x y : Str} (h : (x == y) = false) : (y == x) = false := by
  have := beq_eq_false_iff_ne.mp h
  exact beq_eq_false_iff_ne.mpr (Ne.symm this)
theorem NmOk.loc {x : Str} (n : NmOk x) (mr : List (Str × Const)) : (eScope x mr).names.lookup x = some .local := by
  show List.lookup x [(("self" : Str), NameKind.local), (x, .local), ("__class__", .free), ("super", .globalImplicit)] = _
  simp only [List.lookup, n.n1, beq_self_eq_true]
/-- what the written part says of such a class at C, its __init__ at fI, the cell of __class__ at cc -/
structure ErrIn (P : Program) (K : PySem.W.Frag) (mg : Str → Option Value) (name x : Str) (C fI cc : Addr) (fd : FuncData) : Prop where
  gC : mg name = some (.ref C)
  o : OexC K C
  noX : PySem.W.findIn K (.ref C) x = some none
  iC : PySem.W.findIn K (.ref C) "__init__" = some (some (.ref fI))
  tI : PySem.W.typeIn K (.ref fI) = some (.type "function")
  fn : ∃ (oc : Value) (od : Option Addr) (qual txt : Str) (j : Nat) (mr : List (Str × Const)) (doc pm : Value) (an : Option Addr) (cda : Addr) (ct : Value) (osl : Array (Option Value)) (r1 r2 p0 p1 p2 p3 p4 p5 p6 p7 p8 q1 q2 q3 q4 : Pos),
    fd = PySem.W.ksFn "__init__" qual (eArgs x r1 r2) (eBody x txt j p0 p1 p2 p3 p4 p5 p6 p7 p8 q1 q2 q3 q4) (eScope x mr) .none .none doc pm an (.ref cda) ct cc ∧
    K.lookup fI = some ⟨oc, od, .func fd, osl⟩ ∧ PySem.W.codeIn K (.ref cda) qual = true ∧ txt.length ≤ 1000 ∧ SupEv x txt j p0 p1 p2 p3 p4 p5 p6 p7 ∧
    ∃ (ccl : Value) (cdd : Option Addr) (vs : Array Value) (ccs : Array (Option Value)) (file : Str) (tf : Tok), K.lookup cda = some ⟨ccl, cdd, .fields vs, ccs⟩ ∧ vs[2]? = some (.str file tf) ∧ ((P.main.file : Str) == file) = true
  cell : ∃ (cl : Value) (cld : Option Addr) (csl : Array (Option Value)), K.lookup cc = some ⟨cl, cld, .cell (some (.ref C)), csl⟩
  cls : ∃ cd, PySem.W.clsIn K C = some cd
  subC : PySem.W.mroIn K C (.ref C) = some true
  sup : mg "super" = none
  top : (P.main.scope.names.lookup ("super" : Str)).isSome = false
  opq : PySem.W.nsIn K cStatics "thirdparty.any" = some none
  up : PySem.W.ks_superIn K C C "__init__" = some (some (.builtin "ValueError.__init__"))
  subV : PySem.W.subIn K (.ref C) (.type "ValueError") = some true
/-- C(x): the error keeps what it was given -/
def spErr (K : PySem.W.Frag) (C : Addr) (x : Str) : Sp := fun vs H Q _ => ∃ (a : Addr) (v : V) (d : PyData), vs = [.ref a, v] ∧ H a = some (exo a C none) ∧ Dp K H v d ∧ sm 3 d ∧
  ∀ dx, H dx = none → dx ≠ a → Q .non (upd (upd H dx (exd dx [(x, v)])) a (exo a C (some dx)))
section
variable {P : Program} {w : World} {K : PySem.W.Frag} {mg : Str → Option Value} {base : Heap}
def cxE (P : Program) (w : World) (K : PySem.W.Frag) (mg : Str → Option Value) (base : Heap) (x qual : Str) (sc : Scope) (f cc : Addr) (cd : Value) (A : Around) (outer : List Env) (s : Shared) (H : Hp) : Cx where
  prog := P
  w := w
  K := K
  mg := mg
  base := base
  A := A.deeper (PySem.W.ksEnv qual sc s.heap.objs.size f cd cc)
  N := ["self", x]
  s_0 := s
  H_0 := H
  env := PySem.W.ksEnv qual sc s.heap.objs.size f cd cc
  outer := outer
  stack := PySem.W.ksEnv qual sc s.heap.objs.size f cd cc :: outer
  ex := []
  calm := true
  fn := fun _ => false
  pn := []
  xe := fun _ _ => False
theorem inv_err {x qual : Str} {mr : List (Str × Const)} {f cc : Addr} {cd : Value} {A : Around} {outer : List Env} {s : Shared} {H : Hp} {h1 : Heap} {tk : Nat} {u0 u1 : Value} {v0 v1 : V} {oc : Obj} {cv : Value} (nx : NmOk x) (hd : A.handled = none) (e0 : Env0 P w K mg base A outer s H)
    (hc : K.lookup cc = some oc) (hcc : oc.data = .cell (some cv)) (r0 : RelV v0 u0) (r1 : RelV v1 u1) (hns : h1.Ns s.heap.objs.size (fun y => [(("self" : Str), u0), (x, u1)].reverse.lookup y)) (hk : ∀ b o, s.heap.get? b = some o → h1.get? b = some o) :
    Inv (cxE P w K mg base x qual (eScope x mr) f cc cd A outer s H) [] [some v0, some v1] H { s with heap := h1, toks := tk } := by
  have hb : base.get? cc = some oc := e0.mod.kin _ _ hc
  obtain ⟨hs, hH⟩ := e0.bs _ _ hb
  have one : ∀ y c, List.lookup y [(("__class__" : Str), cc)] = some c → y = "__class__" ∧ c = cc := fun y c h => by
    cases q : (y == ("__class__" : Str)) with
    | true =>
      simp only [List.lookup, q] at h
      exact ⟨beq_iff_eq.mp q, (Option.some.inj h).symm⟩
    | false => simp [List.lookup, q] at h
  have noA : ∀ b : Addr, b ∉ (cxE P w K mg base x qual (eScope x mr) f cc cd A outer s H).ex := fun b z => absurd (show b ∈ ([] : List Addr) from z) (by simp)
  refine ⟨⟨e0.mod, rfl, rfl, rfl, Nat.le_refl _, fun y z c h1 h2 => ?_, fun y hy => ?_, fun y c h => (by cases h), fun _ => hd, Around.frames_deeper e0.frames, .inr ⟨rfl, rfl⟩, fun b z => absurd z (noA b), e0.bs, e0.bsz, fun b _ _ => noA b, fun b z => absurd z (noA b), e0.funs, e0.frf⟩,
    rfl, e0.bare, Un.kept hk, ⟨_, hns, fun i y v h1 h2 h3 => ?_⟩, fun y c h => ?_, e0.hok.fresh (Nat.le_refl _), fun y c h => ?_, fun p hp => absurd (show p ∈ ([] : List (Addr × Obj)) from hp) (by simp), e0.hok.kept hk, rfl⟩
  · rw [(one _ _ h1).1, (one _ _ h2).1]
  · have hy : (eScope x mr).names.lookup y = some .cell ∨ (eScope x mr).names.lookup y = some .free := hy
    have : y = "__class__" := by
      have e : (eScope x mr).names.lookup y = List.lookup y [(("self" : Str), NameKind.local), (x, .local), ("__class__", .free), ("super", .globalImplicit)] := rfl
      rw [e] at hy
      cases a1 : (y == ("self" : Str)) with
      | true => simp [List.lookup, a1] at hy
      | false =>
        cases a2 : (y == x) with
        | true => simp [List.lookup, a1, a2] at hy
        | false =>
          cases a3 : (y == ("__class__" : Str)) with
          | true => exact beq_iff_eq.mp a3
          | false =>
            cases a4 : (y == ("super" : Str)) with
            | true => simp [List.lookup, a1, a2, a3, a4] at hy
            | false => simp [List.lookup, a1, a2, a3, a4] at hy
    subst this
    exact ⟨cc, rfl⟩
  · have hy : [("self" : Str), x][i]? = some y := h1
    cases i with
    | zero =>
      obtain rfl := Option.some.inj hy
      obtain rfl : v0 = v := Option.some.inj (Option.some.inj h2)
      refine ⟨u0, r0, .inl ⟨rfl, ?_⟩⟩
      show List.lookup ("self" : Str) [(x, u1), (("self" : Str), u0)] = some u0
      have z := bne_symm nx.n1
      simp only [List.lookup, z, beq_self_eq_true]
    | succ i =>
      cases i with
      | zero =>
        obtain rfl := Option.some.inj hy
        obtain rfl : v1 = v := Option.some.inj (Option.some.inj h2)
        refine ⟨u1, r1, .inl ⟨nx.loc mr, ?_⟩⟩
        show List.lookup x [(x, u1), (("self" : Str), u0)] = some u1
        simp only [List.lookup, beq_self_eq_true]
      | succ i => simp at hy
  · obtain ⟨_, rfl⟩ := one _ _ h
    exact ⟨_, oc, hk _ _ hs, hcc⟩
  · obtain ⟨_, rfl⟩ := one _ _ h
    exact hH
/-- behind the wrapper's call: the arguments are laid anew, the error stays as it is told -/
theorem call_wrap {X : Cx} {pins : List (Addr × Obj)} {σ : St} {H : Hp} {s : Shared} {u a C : Addr} {us : List Value} {A : Around} {E : Value → Shared → Prop} {Q : Value → Shared → Prop} (T : OexC X.K C) (I : Inv X pins σ H s) (hu : s.heap.get? u = some (PySem.W.kxs_mw "ValueError.__init__" a)) (e : H a = some (exo a C none)) (hl : us.length ≤ sizeLine)
    (h : ∀ s', Inv X pins σ H s' → Q .none s') : wpAny (model X.prog X.w) A (call (.ref u) us) Q E s := by
  obtain ⟨nm, q, N, bs, bm, sn, sub, ab, col, dd, k0, k1, k2, k3, k5, hC, hbm⟩ := T.cls
  obtain ⟨t1, ho⟩ := exo_at I.hok e
  obtain ⟨hp, g, d, t, os⟩ := s
  refine wpAny_call (codeAny_of_tree ?_)
  show wpAny _ A.in1 (callAny (.ref u) ⟨us, []⟩) _ _ _
  simp only [callAny]
  refine wpAny_bind (wpAny_load hu ?_)
  simp only [PySem.W.kxs_mw, show (Value.type "method-wrapper" == Value.type "method" || Value.type "method-wrapper" == Value.type "builtin_function_or_method" || Value.type "method-wrapper" == Value.type "method-wrapper") = true by decide, if_true]
  refine PySem.W.KFB.if_so (by decide) ?_
  refine wpAny_bind (PySem.W.check_bound_init F.excBase_ValueError.toExcCallFacts (I.kIn _ _ hC) ho rfl ?_)
  refine wpAny_bind (wpAny_pure (wpAny_pure ?_))
  refine ⟨plainId_quiet F.excBase_ValueError.init.plain _, codeAny_builtin F.excBase_ValueError.initEntry ?_⟩
  refine PySem.W.exc_init_tree (cls := .ref C) (t0 := t1) (dv := none) (c2 := .none) (c3 := .none) (b4 := .bool false) ho hl fun h' k he _ => ?_
  have J := I.write (t' := t) (x := a) (e := a) (o := exo a C none) (by rw [e]; exact True.intro) (.inl rfl) k ⟨_, he⟩ (exo_ok he)
  have eu : upd H a (exo a C none) = H := by
    funext b
    by_cases hb : b = a
    · rw [hb, upd_same, e]
    · rw [upd_ne hb]
  rw [eu] at J
  exact h _ J
theorem ok_err {name x : Str} {C fI cc : Addr} {fd : FuncData} (nx : NmOk x) (T : ErrIn P K mg name x C fI cc fd) : FnOk P w K mg base CX0 1 fI fd ["self", x] (spErr K C x) := by
  refine ⟨fun vs H Q E h => ?_, fun A outer s H args us vs Q E hr e0 hb r hsp => ?_⟩
  · obtain ⟨a, v, d, rfl, _⟩ := h
    rfl
  obtain ⟨oc, od, qual, txt, j, mr, doc, pm, an, cda, ct, osl, r1, r2, p0, p1, p2, p3, p4, p5, p6, p7, p8, q1, q2, q3, q4, rfl, lk, hcd, htl, hev, ccl, cdd, fvs, ccs, file, tf, hcode, hvs, hfile⟩ := T.fn
  obtain ⟨cl, cld, csl, hcell⟩ := T.cell
  obtain ⟨cdD, hD⟩ := T.cls
  obtain ⟨a, v, d, rfl, ha, hv, hsm, kk⟩ := hsp
  obtain ⟨u0, u1, rfl, ru0, ru1⟩ := Vals.two r
  obtain rfl : u0 = Value.ref a := ru0
  have KX : K.In s.heap := e0.mod.kin.keeps fun b o e => (e0.bs b o e).1
  have lim : s.heap.NoLimit := e0.mod.nolimit.keeps fun b o e => (e0.bs b o e).1
  refine PySem.ks_codeAny_call_defAt (fd := PySem.W.ksFn "__init__" qual (eArgs x r1 r2) (eBody x txt j p0 p1 p2 p3 p4 p5 p6 p7 p8 q1 q2 q3 q4) (eScope x mr) .none .none doc pm an (.ref cda) ct cc)
    (body := eBody x txt j p0 p1 p2 p3 p4 p5 p6 p7 p8 q1 q2 q3 q4) hr.depth (KX _ _ lk) rfl lim (PySem.W.codeRec_of KX hcd) rfl hb ?_ ?_ (fun h₁ hns hk₁ => ?_) rfl rfl rfl
  · intro y hy
    have hy' : y ∈ [(("self" : Str), NameKind.local), (x, .local), ("__class__", .free), ("super", .globalImplicit)] := hy
    simp only [List.mem_cons, List.not_mem_nil, or_false] at hy'
    rcases hy' with rfl | rfl | rfl | rfl <;> (intro z; cases z)
  · intro y hy
    have hy' : y ∈ [(("self" : Str), Value.ref a), (x, u1)] := hy
    simp only [List.mem_cons, List.not_mem_nil, or_false] at hy'
    rcases hy' with rfl | rfl
    · rfl
    · exact nx.loc mr
  have I : Inv (cxE P w K mg base x qual (eScope x mr) fI cc (.ref cda) A outer s H) [] [some (.ref a), some v] H { s with heap := h₁, toks := s.toks + 2 } := inv_err nx hr.hd e0 hcell rfl rfl ru1 hns hk₁
  have hdne : (("self" : Str) == ("__debug__" : Str)) = false := by decide
  have P1 : PE (cxE P w K mg base x qual (eScope x mr) fI cc (.ref cda) A outer s H) (.Name x p4) (tVar 1) := pe_var rfl (.inl (nx.loc mr)) nx.n4 nx.n5
  have P1' : PE (cxE P w K mg base x qual (eScope x mr) fI cc (.ref cda) A outer s H) (.Name x q3) (tVar 1) := pe_var rfl (.inl (nx.loc mr)) nx.n4 nx.n5
  have P0 : PE (cxE P w K mg base x qual (eScope x mr) fI cc (.ref cda) A outer s H) (.Name "self" q1) (tVar 0) := pe_var rfl (.inl rfl) hdne (by decide)
  have hr0 : Room 0 (cxE P w K mg base x qual (eScope x mr) fI cc (.ref cda) A outer s H).A := hr.deeper _
  have PJ1 : PE (cxE P w K mg base x qual (eScope x mr) fI cc (.ref cda) A outer s H) (.JoinedStr [.Constant (.str txt) j p3, .FormattedValue (.Name x p4) 114 none p5] p6) _ := pe_joined (.cons pe_str (.cons (pe_show hr0 P1) .nil))
  obtain ⟨pl, hev⟩ := hev (PySem.W.ksEnv qual (eScope x mr) s.heap.objs.size fI (.ref cda) cc)
  refine PySem.ks_wpAt_execs_cons (PySem.ks_wpAt_Expr_any (PySem.ks_wpAt_MethodCall (pl := pl) ?_ hev))
  have hs1 := hk₁ _ _ (KX _ _ lk)
  have zs : List.lookup ("super" : Str) [(("self" : Str), NameKind.local), (x, .local), ("__class__", .free), ("super", .globalImplicit)] = some .globalImplicit := by
    have z1 := bne_symm nx.n3
    have z2 : (("super" : Str) == ("self" : Str)) = false := by decide
    have z3 : (("super" : Str) == ("__class__" : Str)) = false := by decide
    simp only [List.lookup, z1, z2, z3, beq_self_eq_true]
  have zc : List.lookup ("__class__" : Str) [(("self" : Str), NameKind.local), (x, .local), ("__class__", .free), ("super", .globalImplicit)] = some .free := by
    have z1 := bne_symm nx.n2
    have z2 : (("__class__" : Str) == ("self" : Str)) = false := by decide
    simp only [List.lookup, z1, z2, beq_self_eq_true]
  have zn : List.lookup ("self" : Str) [(x, u1), (("self" : Str), Value.ref a)] = some (.ref a) := by
    have z1 := bne_symm nx.n1
    simp only [List.lookup, z1, beq_self_eq_true]
  obtain ⟨mb, hmb1, hmb2⟩ := I.mod.blt
  obtain ⟨oD, hoD1, hoD2⟩ : ∃ oD, h₁.get? C = some oD ∧ oD.data = .cls cdD := by
    unfold PySem.W.clsIn at hD
    split at hD
    · rename_i c d cd' sl ho
      cases hD
      exact ⟨_, hk₁ _ _ (KX _ _ ho), rfl⟩
    · cases hD
  obtain ⟨t1, hoa⟩ := exo_at I.hok ha
  refine PySem.ks_wpAt_super_base (env := PySem.W.ksEnv qual (eScope x mr) s.heap.objs.size fI (.ref cda) cc) zs zc (by decide) rfl hs1 rfl (ar := { arg := "self", annotation := none, pos := r1 }) rfl rfl (hk₁ _ _ (KX _ _ hcode)) rfl hvs hfile T.top ?_
  refine PySem.W.ks_loadName_global rfl zs (Calls.loadGlobal_builtin (env := PySem.W.ksEnv qual (eScope x mr) s.heap.objs.size fI (.ref cda) cc) (I.mod.glob.keeps I.bk) T.sup (hmb1.keeps I.bk) ((hmb2 _ (by decide)).trans PyProof.Rows.Boot.«super») ⟨rfl, ?_⟩)
  refine wpAny_loadName_free rfl zc rfl ⟨_, hk₁ _ _ (KX _ _ hcell), rfl⟩ ?_
  refine wpAny_loadName_local rfl rfl hns zn ?_
  refine PySem.ks_wpAny_isType_cls hoD1 hoD2 ⟨rfl, ?_⟩
  refine PySem.ks_wpAny_call_super hoD1 hoD2 hoa rfl (fun c z => by cases z) (PySem.W.looks_mroIn I.kIn T.subC) (fun h2 hso k2 => ?_)
  have I2 := I.kept (t' := s.toks + 2) k2
  have hIn : PySem.W.InstAt h2 a (PySem.HandSPX.excO C t1) C none := ⟨k2 _ _ hoa, rfl, rfl, trivial⟩
  have hup := T.up
  unfold PySem.W.ks_superIn at hup
  rw [hD] at hup
  refine PySem.W.kxs_getMethod PySem.W.kxs_ValueError hso (PySem.W.looks_opaque I2.kIn T.opq) (l₀ := cdD.mro) (fun A Q E s k q => wpAny_bind ((PySem.W.looks_clsIn I2.kIn hD) A _ E s k (wpAny_pure q))) rfl I2.kIn hup (hIn.type.andThen (PySem.W.looks_subIn I2.kIn T.subV)) (PySem.W.ks_ne I2.kIn hIn hD) (by decide) ?_
  have k3 : ∀ b o, h2.get? b = some o → (h2.push (PySem.W.kxs_mw "ValueError.__init__" a)).get? b = some o := fun b o e => Heap.get?_push_of_some _ e
  have I3 := I2.kept (t' := s.toks + 2 + 1) k3
  have hu : (h2.push (PySem.W.kxs_mw "ValueError.__init__" a)).get? h2.objs.size = some (PySem.W.kxs_mw "ValueError.__init__" a) := Heap.get?_push_size _ rfl
  have I4 := I3.pins_of (pins' := [(h2.objs.size, PySem.W.kxs_mw "ValueError.__init__" a)]) fun p hp => by
    obtain rfl := List.mem_singleton.mp hp
    refine ⟨hu, I2.hok.fresh (Nat.le_refl _), ?_, ?_, fun v z => by cases z⟩
    · exact Nat.ne_of_gt I2.lt
    · exact I2.nofs (Nat.le_refl _)
  show wpAny _ _ (callWith p7 (.ref h2.objs.size) [] [(false, eval (.JoinedStr [.Constant (.str txt) j p3, .FormattedValue (.Name x p4) 114 none p5] p6) (PySem.W.ksEnv qual (eScope x mr) s.heap.objs.size fI (.ref cda) cc))] []) _ _ _
  refine PySem.W.kxs_callWith (i := "ValueError.__init__") (x := a) (u := h2.objs.size) rfl (Calls.evalArgs_plain (Calls.spliced_cons (wpAny_mono (PJ1.run _ _ _ H (fun _ H' => H' = H) I4 ?_) (fun v5 s5 hh => ?_) fun _ _ z => z.elim)))
  · have line : (3600000 : Nat) ≤ sizeLine := by decide
    have le0 : Str.empty.length = 0 := rfl
    refine ⟨_, rfl, ?_, _, rfl, d, hv, hsm, fun m hm => ⟨_, rfl, ?_, rfl⟩⟩
    · rw [strLen_append, le0]; omega
    · rw [strLen_append, strLen_append, le0]; omega
  · obtain ⟨v6, H5, I5, r5, eH⟩ := hh
    rw [eH] at I5
    refine Calls.spliced_nil ?_
    have hu5 := (I5.pin (h2.objs.size, PySem.W.kxs_mw "ValueError.__init__" a) (by simp)).1
    refine ⟨hu5, call_wrap T.o I5 hu5 ha ?_ fun s6 I6 => ?_⟩
    · show ([v5] : List Value).length ≤ sizeLine
      rw [sizeLine_eq]; show 1 ≤ 16777216; decide
    · have PS1 : PSs (cxE P w K mg base x qual (eScope x mr) fI cc (.ref cda) A outer s H) [.Assign [.Attribute (.Name "self" q1) x q2] (.Name x q3) q4] _ := pss_one (ps_ost P0 P1')
      have I7 : Inv (cxE P w K mg base x qual (eScope x mr) fI cc (.ref cda) A outer s H) [] [some (.ref a), some v] H s6 := I6.pins_of fun p hp => nomatch hp
      refine wpAt_of_wpAny (wpAny_mono (PS1.run [] s6 _ H { nx := fun _ H' => Q .non H', rt := Q } I7 ?_) (fun fl s8 hs => ?_) fun _ _ z => z.elim)
      · refine ⟨_, rfl, _, rfl, a, C, rfl, T.o, T.noX, .inl ⟨ha, fun dx hdx hne => ?_⟩⟩
        exact kk dx hdx hne
      · have fin : ∀ {σ' : St} {H' : Hp} {v : V} {u : Value}, Inv (cxE P w K mg base x qual (eScope x mr) fI cc (.ref cda) A outer s H) [] σ' H' s8 → RelV v u → Q v H' → CE outer P w H s Q u s8 :=
          fun J rv q => ⟨_, _, J.os, J.bare, J.base, J.hok, rv, q⟩
        cases fl with
        | ret u =>
          obtain ⟨v', σ', H', J, rv, q⟩ := hs
          exact fin J rv q
        | next =>
          obtain ⟨σ', H', J, q⟩ := hs
          exact fin (v := V.non) (u := Value.none) J rfl q
        | brk =>
          obtain ⟨_, _, _, q⟩ := hs
          exact False.elim q
        | cont =>
          obtain ⟨_, _, _, q⟩ := hs
          exact False.elim q
end
/-! ### any small object -/
def obB : Nat → Nat
  | 0 => 0
  | m + 1 => 3 * obB m + 60
/-- _law_object at 3 - m: data of depth at most m -/
def spObj (K : PySem.W.Frag) (m : Nat) : Sp := fun vs H Q _ => ∃ (p q : Addr) (n : Nat) (l : List Addr), vs = [.ref p, .int (3 - (m : Int))] ∧ 0 < m ∧ m ≤ 3 ∧ PoolAt H p q n ∧ p ∈ l ∧ q ∈ l ∧ Alive l H ∧ n + obB m < 900000 ∧
  ∀ (v : V) (d : PyData) (n' : Nat) (H' : Hp), Dp K (mask l H') v d → sm m d → n ≤ n' → n' ≤ n + obB m → PoolAt H' p q n' → Keeps p q H H' → Q v H'
theorem Keeps.maskL {p q : Addr} {l : List Addr} {H H' : Hp} (hp : p ∈ l) (hq : q ∈ l) (k : Keeps p q H H') : Same (Qp.mask l H) (Qp.mask l H') := fun a o e => by
  by_cases h : a ∈ l
  · rw [mask_in h] at e; cases e
  · rw [mask_out h] at e ⊢
    exact k a o (fun z => h (by rw [z]; exact hp)) (fun z => h (by rw [z]; exact hq)) e
theorem Keeps.alive {p q : Addr} {n : Nat} {l : List Addr} {H H' : Hp} (al : Alive l H) (k : Keeps p q H H') (P : PoolAt H' p q n) : Alive l H' := fun a m => by
  obtain ⟨o, e⟩ := al a m
  by_cases h1 : a = p
  · rw [h1]; exact P.p_some
  · by_cases h2 : a = q
    · rw [h2]; exact P.q_some
    · exact ⟨o, k a o h1 h2 e⟩
/-- short texts -/
def Sht (k : Nat) (x : Str) : Prop := x.length ≤ k ∧ ∀ c ∈ x.cps.toList, c < 1000
theorem Sht.app {k l : Nat} {x y : Str} (a : Sht k x) (b : Sht l y) : Sht (k + l) (x ++ y) := by
  refine ⟨by rw [strLen_append]; have := a.1; have := b.1; omega, fun c h => ?_⟩
  rcases PyProof.Rows.mem_cps_append.mp h with h | h
  · exact a.2 c h
  · exact b.2 c h
theorem IsWord.sht {x : Str} (h : IsWord x) : Sht 8 x := ⟨h.2.1, fun c hc => by have := (h.2.2 c hc).2; omega⟩
theorem Sht.cut {k : Nat} {x : Str} (h : Sht k x) (lo hi : Option Int) : Sht k (cutS x lo hi) := by
  refine ⟨Nat.le_trans (cutS_length x lo hi) h.1, fun c hc => h.2 c ?_⟩
  have e : (cutS x lo hi).cps.toList = (x.cps.toList.drop (HT.sIx x.length 0 lo)).take (HT.sIx x.length x.length hi - HT.sIx x.length 0 lo) := rfl
  rw [e] at hc
  exact List.mem_of_mem_drop (List.mem_of_mem_take hc)
theorem Sht.sm {k m : Nat} {x : Str} (h : Sht k x) (hk : k ≤ 100) : Qp.sm (m + 1) (.str x) := by
  simp only [Qp.sm]
  exact ⟨Nat.le_trans h.1 hk, h.2⟩
theorem sht_empty : Sht 0 "" := by
  refine ⟨by decide +kernel, fun c h => ?_⟩
  have : ("" : Str).cps.toList = [] := by decide +kernel
  rw [this] at h; cases h
theorem sht_of {k : Nat} {x : Str} (h : (decide (x.length ≤ k) && x.cps.toList.all fun c => decide (c < 1000)) = true) : Sht k x := by
  obtain ⟨h1, h2⟩ := Bool.and_eq_true_iff.mp h
  exact ⟨of_decide_eq_true h1, fun c hc => of_decide_eq_true (List.all_eq_true.mp h2 c hc)⟩
theorem odd_at (d : Int) (h0 : 0 ≤ d) (h1 : d < 8) : ∃ s, atI [V.str "A", .str "_", .str "0", .str "\n", .str "-", .str "/", .str ",", .str "~"] d = some (.str s) ∧ Sht 1 s := by
  obtain rfl | rfl | rfl | rfl | rfl | rfl | rfl | rfl : d = 0 ∨ d = 1 ∨ d = 2 ∨ d = 3 ∨ d = 4 ∨ d = 5 ∨ d = 6 ∨ d = 7 := by omega
  · exact ⟨"A", atI_nat (j := 0) rfl, sht_of (by decide +kernel)⟩
  · exact ⟨"_", atI_nat (j := 1) rfl, sht_of (by decide +kernel)⟩
  · exact ⟨"0", atI_nat (j := 2) rfl, sht_of (by decide +kernel)⟩
  · exact ⟨"\n", atI_nat (j := 3) rfl, sht_of (by decide +kernel)⟩
  · exact ⟨"-", atI_nat (j := 4) rfl, sht_of (by decide +kernel)⟩
  · exact ⟨"/", atI_nat (j := 5) rfl, sht_of (by decide +kernel)⟩
  · exact ⟨",", atI_nat (j := 6) rfl, sht_of (by decide +kernel)⟩
  · exact ⟨"~", atI_nat (j := 7) rfl, sht_of (by decide +kernel)⟩
theorem verb_at (d : Int) (h0 : 0 ≤ d) (h1 : d < 5) : ∃ s, atI [V.str "take", .str "get", .str "look", .str "probe", .str "say"] d = some (.str s) ∧ Sht 5 s := by
  obtain rfl | rfl | rfl | rfl | rfl : d = 0 ∨ d = 1 ∨ d = 2 ∨ d = 3 ∨ d = 4 := by omega
  · exact ⟨"take", atI_nat (j := 0) rfl, sht_of (by decide +kernel)⟩
  · exact ⟨"get", atI_nat (j := 1) rfl, sht_of (by decide +kernel)⟩
  · exact ⟨"look", atI_nat (j := 2) rfl, sht_of (by decide +kernel)⟩
  · exact ⟨"probe", atI_nat (j := 3) rfl, sht_of (by decide +kernel)⟩
  · exact ⟨"say", atI_nat (j := 4) rfl, sht_of (by decide +kernel)⟩
section
variable {P : Program} {w : World} {K : PySem.W.Frag} {mg : Str → Option Value} {base : Heap}
theorem fn_neverK {f : Addr} {fd : FuncData} {ps : List Str} {k : Nat} : FnOk P w K mg base CX0 k f fd ps (fun _ _ _ _ => False) :=
  ⟨fun _ _ _ _ h => h.elim, fun _ _ _ _ _ _ _ _ _ _ _ _ _ h => h.elim⟩
theorem scO : FnScope ["pool", "depth", "pick", "word", "odd", "at", "parts", "k"] ["pool", "depth"] (defScope sObj) := ⟨rfl, rfl, rfl, by decide +kernel, rfl, by decide +kernel, by decide +kernel⟩
theorem ok_obj {f fD fW : Addr} {fd fdD fdW : FuncData} (F : Fun K "_law_object" "_law_object" sObj f fd) (mO : mg "_law_object" = some (.ref f)) (bO : Binds K fd ["pool", "depth"] [])
    (GD : FnOk P w K mg base CX0 1 fD fdD ["pool", "many"] spDraw) (mD : mg "_law_draw" = some (.ref fD)) (kD : PySem.W.keepIn K (.ref fD) = true) (bD : Binds K fdD ["pool", "many"] [])
    (GW : FnOk P w K mg base CX0 2 fW fdW ["pool"] spWord) (mW : mg "_law_word" = some (.ref fW)) (kW : PySem.W.keepIn K (.ref fW) = true) (bW : Binds K fdW ["pool"] [])
    (B : Bts mg) : ∀ m : Nat, FnOk P w K mg base CX0 (m + 2) f fd ["pool", "depth"] (spObj K m)
  | 0 => fn_neverK.imp fun vs H Q E h => by
    obtain ⟨p, q, n, l, _, h, _⟩ := h
    omega
  | m + 1 => by
    have IH := ok_obj F mO bO GD mD kD bD GW mW kW bW B m
    refine F.ok scO (fun vs H Q E h => ?_) (fun cdv A outer s H vs Q E hr h => ?_)
    · obtain ⟨p, q, n, l, rfl, _⟩ := h
      rfl
    · obtain ⟨p, q, n, l, rfl, _, hm3, hP, lp, lq, al, hn, kk⟩ := h
      have hr1 : Room 1 _ := hr.mono (by omega)
      have hr2 : Room 2 _ := hr.mono (by omega)
      have op39 : ((10 : Int) ^ (39 : Int).toNat) = 1000000000000000000000000000000000000000 := by decide
      refine ⟨_,
        C8.pss_cut (ps_set (i := 2) scO.nd rfl (.inl rfl) (pe_call GD hr1 (by rfl) mD kD bD .nil pass0 (pa_cons (pv 0) (pa_cons (pe_ifExp (pt_cmpR op_lt (pv 1) pe_int (nomark _)) pe_int pe_int) pa_nil))))
        (pss_cons (ps_if (pt_cmpR op_lt (pv 2) pe_int (nomark _)) (pss_one (ps_ret (pe_ix ix_list (pe_lst (pa_cons pe_non (pa_cons pe_bl (pa_cons pe_bl pa_nil)))) (pv 2) (fun _ _ => rfl)))) pss_nil)
        (pss_cons (ps_if (pt_cmpR op_lt (pv 2) pe_int (nomark _)) (pss_one (ps_ret (pe_ix ix_list (pe_lst (pa_cons (pe_call GD hr1 (by rfl) mD kD bD .nil pass0 (pa_cons (pv 0) (pa_cons pe_int pa_nil)))
            (pa_cons (pe_op op_sub (pe_un un_neg pe_int) (pe_call GD hr1 (by rfl) mD kD bD .nil pass0 (pa_cons (pv 0) (pa_cons pe_int pa_nil))))
            (pa_cons (pe_call GD hr1 (by rfl) mD kD bD .nil pass0 (pa_cons (pv 0) (pa_cons (pe_op op_pow pe_int pe_int) pa_nil))) pa_nil)))) (pe_op op_sub (pv 2) pe_int) (fun _ _ => rfl)))) pss_nil)
        (pss_cons (ps_if (pt_cmpR op_lt (pv 2) pe_int (nomark _)) (pss_one (ps_ret (pe_ix ix_list (pe_lst (pa_cons pe_str
            (pa_cons (pe_op op_add_str (pe_op op_add_str (pe_call GW hr2 (by rfl) mW kW bW .nil pass0 (pa_cons (pv 0) pa_nil)) pe_str) (pe_call GW hr2 (by rfl) mW kW bW .nil pass0 (pa_cons (pv 0) pa_nil)))
            (pa_cons (pe_op op_add_str (pe_call GW hr2 (by rfl) mW kW bW .nil pass0 (pa_cons (pv 0) pa_nil)) pe_str) pa_nil)))) (pe_op op_sub (pv 2) pe_int) (fun _ _ => rfl)))) pss_nil)
        (pss_cons (ps_if (pt_cmpR op_lt (pv 2) pe_int (nomark _))
            (pss_cons (ps_set (i := 3) scO.nd rfl (.inl rfl) (pe_call GW hr2 (by rfl) mW kW bW .nil pass0 (pa_cons (pv 0) pa_nil)))
            (pss_cons (ps_set (i := 4) scO.nd rfl (.inl rfl) (pe_ix ix_list (pe_lst (pa_cons pe_str (pa_cons pe_str (pa_cons pe_str (pa_cons pe_str (pa_cons pe_str (pa_cons pe_str (pa_cons pe_str (pa_cons pe_str pa_nil)))))))))
                (pe_call GD hr1 (by rfl) mD kD bD .nil pass0 (pa_cons (pv 0) (pa_cons pe_int pa_nil))) (fun _ _ => rfl)))
            (pss_cons (ps_set (i := 5) scO.nd rfl (.inl rfl) (pe_call GD hr1 (by rfl) mD kD bD .nil pass0 (pa_cons (pv 0) (pa_cons (pe_op op_add (pe_callB call_len_str (by rfl) B.len PySem.boot_len (pa_cons (pv 3) pa_nil)) pe_int) pa_nil))))
            (pss_one (ps_ret (pe_op op_add_str (pe_op op_add_str (pe_slice sl_str (pv 3) po_none (po_some (pv 5))) (pv 4)) (pe_slice sl_str (pv 3) (po_some (pv 5)) po_none)))))))
            pss_nil)
        (pss_cons (ps_setLc (i := 6) (own := [("k", 7)]) (g := gName 7) (tt := tYes) rfl scO.nd rfl rfl rfl
            (pi_range1 (by rfl) B.range (pa_cons (pe_call GD hr1 (by rfl) mD kD bD .nil pass0 (pa_cons (pv 0) (pa_cons pe_int pa_nil))) pa_nil))
            (blkOk_by (N := ["pool", "depth", "pick", "word", "odd", "at", "parts", "k"]) (sc := defScope sObj) (by decide +kernel))
            (fun _ _ _ _ _ => pg_name (i := 7) scO.nd rfl (.inl rfl)) (fun _ _ _ _ _ => pts_nil)
            (fun _ _ _ _ _ => pe_call IH hr (by rfl) mO F.kp bO .nil pass0 (pa_cons (pv 0) (pa_cons (pe_op op_add (pv 1) pe_int) pa_nil))))
        (pss_cons (ps_if (pt_cmpR op_eq (pv 2) pe_int (nomark _)) (pss_one (ps_ret (pv 6))) pss_nil)
        (pss_cons (ps_if (pt_cmpR op_eq (pv 2) pe_int (nomark _)) (pss_one (ps_ret (pe_callTy call_tuple_of (by rfl) B.tuple (by decide +kernel) (pa_cons (pv 6) pa_nil)))) pss_nil)
        (pss_one (ps_ret (pe_op op_catT (pe_tup (pa_cons (pe_ix ix_list (pe_lst (pa_cons pe_str (pa_cons pe_str (pa_cons pe_str (pa_cons pe_str (pa_cons pe_str pa_nil))))))
            (pe_call GD hr1 (by rfl) mD kD bD .nil pass0 (pa_cons (pv 0) (pa_cons pe_int pa_nil))) (fun _ _ => rfl)) pa_nil))
            (pe_callTy call_tuple_of (by rfl) B.tuple (by decide +kernel) (pa_cons (pv 6) pa_nil)))))))))))), ?_⟩
      -- pick
      refine ⟨fun σ H1 => ∃ d : Int, σ = [some (.ref p), some (.int (3 - ((m + 1 : Nat) : Int))), some (.int d), none, none, none, none, none] ∧ 0 ≤ d ∧ (0 < m ∨ d < 13) ∧ d < 16 ∧ PoolAt H1 p q (n + 1) ∧ Keeps p q H H1, ?_, ?_⟩
      · refine ⟨_, rfl, _, rfl, _, _, rfl, rfl, _, rfl, ite2 (fun hz => ?_) (fun hz => ?_)⟩
        · have hz' : 3 - ((m + 1 : Nat) : Int) < 2 := of_decide_eq_true hz
          exact ⟨p, q, n, 16, rfl, hP, by omega, by decide, by decide, fun d H1 a b P1 K1 => ⟨d, rfl, a, .inl (by omega), b, P1, K1⟩⟩
        · exact ⟨p, q, n, 13, rfl, hP, by omega, by decide, by decide, fun d H1 a b P1 K1 => ⟨d, rfl, a, .inr b, by omega, P1, K1⟩⟩
      rintro σ H1 ⟨d, rfl, d0, dm, d16, P1, K1⟩
      have eB : obB (m + 1) = 3 * obB m + 60 := rfl
      -- pick < 3
      refine ⟨_, rfl, _, _, rfl, rfl, _, rfl, ite2 (fun hz => ?_) (fun hz => ?_)⟩
      · have hz' : d < 3 := of_decide_eq_true hz
        refine ⟨by show 3 ≤ sizeLine; decide, fun r nr => ⟨_, rfl, ?_⟩⟩
        have P2 := P1.new (o := .lst [.non, .bl true, .bl false]) nr
        have K2 := K1.trans (Keeps.upd_new (o := .lst [.non, .bl true, .bl false]) nr)
        obtain rfl | rfl | rfl : d = 0 ∨ d = 1 ∨ d = 2 := by omega
        · exact ⟨r, _, _, _, rfl, rfl, SqL.of upd_same, atI_nat (j := 0) rfl, kk _ .none (n + 1) _ .non (by simp [sm]) (by omega) (by omega) P2 K2⟩
        · exact ⟨r, _, _, _, rfl, rfl, SqL.of upd_same, atI_nat (j := 1) rfl, kk _ (.bool true) (n + 1) _ (.bl true) (by simp [sm]) (by omega) (by omega) P2 K2⟩
        · exact ⟨r, _, _, _, rfl, rfl, SqL.of upd_same, atI_nat (j := 2) rfl, kk _ (.bool false) (n + 1) _ (.bl false) (by simp [sm]) (by omega) (by omega) P2 K2⟩
      have z3 : ¬ d < 3 := fun e => hz (decide_eq_true e)
      clear hz
      -- pick < 6
      refine ⟨_, rfl, _, _, rfl, rfl, _, rfl, ite2 (fun hz => ?_) (fun hz => ?_)⟩
      · have hz' : d < 6 := of_decide_eq_true hz
        refine ⟨_, rfl, p, q, n + 1, 4, rfl, P1, by omega, by decide, by decide, fun a1 H2 a10 a11 P2 K2 => ?_⟩
        refine ⟨_, rfl, _, rfl, p, q, n + 1 + 1, 9, rfl, P2, by omega, by decide, by decide, fun a2 H3 a20 a21 P3 K3 => ?_⟩
        refine ⟨_, _, rfl, rfl, _, rfl, _, _, rfl, rfl, ⟨by decide, by decide, by decide⟩, p, q, n + 1 + 1 + 1, _, rfl, P3, by omega, by decide, by decide, fun a3 H4 a30 a31 P4 K4 => ?_⟩
        rw [op39] at a31
        refine ⟨by show 3 ≤ sizeLine; decide, fun r nr => ⟨_, rfl, _, _, rfl, rfl, ?_⟩⟩
        have P5 := P4.new (o := .lst [.int a1, .int (-1 - a2), .int a3]) nr
        have K5 := (((K1.trans K2).trans K3).trans K4).trans (Keeps.upd_new (o := .lst [.int a1, .int (-1 - a2), .int a3]) nr)
        obtain rfl | rfl | rfl : d = 3 ∨ d = 4 ∨ d = 5 := by omega
        · exact ⟨r, _, _, _, rfl, rfl, SqL.of upd_same, atI_nat (j := 0) rfl, kk _ (.int a1) (n + 4) _ (.int a1) (by simp only [sm]; omega) (by omega) (by omega) P5 K5⟩
        · exact ⟨r, _, _, _, rfl, rfl, SqL.of upd_same, atI_nat (j := 1) rfl, kk _ (.int (-1 - a2)) (n + 4) _ (.int _) (by simp only [sm]; omega) (by omega) (by omega) P5 K5⟩
        · exact ⟨r, _, _, _, rfl, rfl, SqL.of upd_same, atI_nat (j := 2) rfl, kk _ (.int a3) (n + 4) _ (.int a3) (by simp only [sm]; omega) (by omega) (by omega) P5 K5⟩
      have z6 : ¬ d < 6 := fun e => hz (decide_eq_true e)
      clear hz
      -- pick < 9
      refine ⟨_, rfl, _, _, rfl, rfl, _, rfl, ite2 (fun hz => ?_) (fun hz => ?_)⟩
      · have hz' : d < 9 := of_decide_eq_true hz
        have line : (100 : Nat) ≤ sizeLine := by decide
        have sp1 : Sht 1 " " := sht_of (by decide +kernel)
        have sp8 : Sht 8 "abcdefgh" := sht_of (by decide +kernel)
        refine ⟨_, rfl, p, q, n + 1, rfl, P1, by omega, fun w1 n2 H2 hw1 a2 b2 P2 K2 => ?_⟩
        have l1 := hw1.sht.app sp1
        refine ⟨_, _, rfl, rfl, Nat.le_trans (by rw [← strLen_append]; exact l1.1) (Nat.le_trans (by decide) line), _, rfl, p, q, n2, rfl, P2, by omega, fun w2 n3 H3 hw2 a3 b3 P3 K3 => ?_⟩
        have l2 := l1.app hw2.sht
        refine ⟨_, _, rfl, rfl, Nat.le_trans (by rw [← strLen_append]; exact l2.1) (Nat.le_trans (by decide) line), _, rfl, p, q, n3, rfl, P3, by omega, fun w3 n4 H4 hw3 a4 b4 P4 K4 => ?_⟩
        have l3 := hw3.sht.app sp8
        refine ⟨_, _, rfl, rfl, Nat.le_trans (by rw [← strLen_append]; exact l3.1) (Nat.le_trans (by decide) line), by show 3 ≤ sizeLine; decide, fun r nr => ⟨_, rfl, _, _, rfl, rfl, ?_⟩⟩
        have P5 := P4.new (o := .lst [.str "", .str (w1 ++ " " ++ w2), .str (w3 ++ "abcdefgh")]) nr
        have K5 := (((K1.trans K2).trans K3).trans K4).trans (Keeps.upd_new (o := .lst [.str "", .str (w1 ++ " " ++ w2), .str (w3 ++ "abcdefgh")]) nr)
        obtain rfl | rfl | rfl : d = 6 ∨ d = 7 ∨ d = 8 := by omega
        · exact ⟨r, _, _, _, rfl, rfl, SqL.of upd_same, atI_nat (j := 0) rfl, kk _ (.str _) n4 _ (.str _) (sht_empty.sm (by decide)) (by omega) (by omega) P5 K5⟩
        · exact ⟨r, _, _, _, rfl, rfl, SqL.of upd_same, atI_nat (j := 1) rfl, kk _ (.str _) n4 _ (.str _) (l2.sm (by decide)) (by omega) (by omega) P5 K5⟩
        · exact ⟨r, _, _, _, rfl, rfl, SqL.of upd_same, atI_nat (j := 2) rfl, kk _ (.str _) n4 _ (.str _) (l3.sm (by decide)) (by omega) (by omega) P5 K5⟩
      have z9 : ¬ d < 9 := fun e => hz (decide_eq_true e)
      clear hz
      -- pick < 13
      refine ⟨_, rfl, _, _, rfl, rfl, _, rfl, ite2 (fun hz => ?_) (fun hz => ?_)⟩
      · have line : (100 : Nat) ≤ sizeLine := by decide
        have p40 : (100 : Int) ≤ 10 ^ 40 := by decide
        refine ⟨_, rfl, p, q, n + 1, rfl, P1, by omega, fun w1 n2 H2 hw1 a2 b2 P2 K2 => ?_⟩
        refine ⟨by show 8 ≤ sizeLine; decide, fun r nr => ?_⟩
        refine ⟨_, rfl, p, q, n2, 8, rfl, P2.new nr, by omega, by decide, by decide, fun a3 H3 a30 a31 P3 K3 => ?_⟩
        obtain ⟨op, ep⟩ := P2.p_some
        obtain ⟨oq, eq⟩ := P2.q_some
        obtain ⟨sx, ex, hx⟩ := odd_at a3 a30 a31
        refine ⟨r, _, _, _, rfl, rfl, SqL.of (K3 r _ (ne_of_none ep nr).symm (ne_of_none eq nr).symm upd_same), ex, ?_⟩
        have lw := hw1.2.1
        refine ⟨_, rfl, _, rfl, w1, rfl, by omega, _, _, rfl, rfl, p, q, n2 + 1, _, rfl, P3, by omega, by omega, Int.le_trans (by omega) p40, fun a4 H4 a40 a41 P4 K4 => ?_⟩
        have c1 := hw1.sht.cut none (some a4)
        have c2 := hw1.sht.cut (some a4) none
        have l1 := c1.app hx
        have l2 := l1.app c2
        refine ⟨_, rfl, _, rfl, a4, rfl, w1, rfl, by omega, _, rfl, _, _, rfl, rfl, Nat.le_trans (by rw [← strLen_append]; exact l1.1) (Nat.le_trans (by decide) line), ?_⟩
        refine ⟨_, rfl, _, rfl, a4, rfl, w1, rfl, by omega, _, _, rfl, rfl, Nat.le_trans (by rw [← strLen_append]; exact l2.1) (Nat.le_trans (by decide) line), ?_⟩
        exact kk _ (.str _) (n2 + 1 + 1) _ (.str _) (l2.sm (by decide)) (by omega) (by omega) P4 ((((K1.trans K2).trans (.upd_new nr)).trans K3).trans K4)
      have z13 : ¬ d < 13 := fun e => hz (decide_eq_true e)
      clear hz
      have m0 : 0 < m := by rcases dm with h | h <;> omega
      -- parts
      refine ⟨_, rfl, p, q, n + 1, 4, rfl, P1, by omega, by decide, by decide, fun c H2 c0 c1 P2 K2 => ?_⟩
      refine ⟨c, rfl, by omega, by omega, fun D nD => ?_⟩
      obtain ⟨op, ep⟩ := P2.p_some
      obtain ⟨oq, eq⟩ := P2.q_some
      have nDp : D ≠ p := (ne_of_none ep nD).symm
      have nDq : D ≠ q := (ne_of_none eq nD).symm
      have K02 := K1.trans K2
      have nDl : D ∉ l := (Keeps.alive al K02 P2).not nD
      refine lc_range (lo := 0) (n := c.toNat) (fun i H3 => ∃ (vs : List V) (ds : List PyData) (n3 : Nat), H3 D = some (.lst vs) ∧ vs.length = i ∧ DpAll K (mask (D :: l) H3) vs ds ∧ (∀ x ∈ ds, sm m x) ∧ n + 2 ≤ n3 ∧ n3 ≤ n + 2 + i * obB m ∧ PoolAt H3 p q n3 ∧ Keeps p q H H3)
        ⟨[], [], n + 2, upd_same, rfl, .nil, fun x hx => (by cases hx), by omega, by omega, P2.new nD, K02.trans (.upd_new nD)⟩ (fun i H3 hi hI => ?_) (fun H3 hI => ?_)
      · obtain ⟨vs, ds, n3, eD, el, hds, hsm, hn1, hn2, P3, K3⟩ := hI
        have hB : n3 + obB m ≤ n + 2 + (i + 1) * obB m := by rw [Nat.succ_mul]; omega
        have hB3 : (i + 1) * obB m ≤ 3 * obB m := Nat.mul_le_mul_right _ (by omega)
        refine ⟨rfl, ?_⟩
        refine ⟨_, rfl, _, rfl, _, _, rfl, rfl, p, q, n3, D :: l, by show [V.ref p, V.int (3 - ((m + 1 : Nat) : Int) + 1)] = _; rw [show (3 - ((m + 1 : Nat) : Int) + 1) = 3 - (m : Int) by omega], m0, by omega, P3, List.mem_cons_of_mem _ lp, List.mem_cons_of_mem _ lq, ?_, by omega, fun v d4 n4 H4 hv hd4 a4 b4 P4 K4 => ?_⟩
        · intro a ha
          rcases List.mem_cons.mp ha with rfl | ha
          · exact ⟨_, eD⟩
          · exact Keeps.alive al K3 P3 a ha
        · have eD4 : H4 D = some (.lst vs) := K4 D _ nDp nDq eD
          have lds := dpAll_len hds
          refine ⟨vs, eD4, small1000 (by omega), vs ++ [v], ds ++ [d4], n4, upd_same, by rw [List.length_append, el]; rfl, ?_, fun x hx => ?_, by omega, by omega, ?_, ?_⟩
          · refine dpAll_app (dpAll_same ((Keeps.maskL (List.mem_cons_of_mem _ lp) (List.mem_cons_of_mem _ lq) K4).trans (mask_at List.mem_cons_self)) _ _ hds) (.cons (dp_same (mask_at List.mem_cons_self) _ _ hv) .nil)
          · rcases List.mem_append.mp hx with hx | hx
            · exact hsm x hx
            · rw [List.mem_singleton.mp hx]; exact hd4
          · obtain ⟨npq, cs, b, c0, e1, e2, r⟩ := P4
            exact ⟨npq, cs, b, c0, by rw [upd_ne nDp.symm]; exact e1, by rw [upd_ne nDq.symm]; exact e2, r⟩
          · intro x o hx1 hx2 nH
            have ex := K4 x o hx1 hx2 (K3 x o hx1 hx2 nH)
            by_cases hxD : x = D
            · subst hxD
              rw [K02.free nD nDp nDq] at nH
              cases nH
            · rw [upd_ne hxD]; exact ex
      · obtain ⟨vs, ds, n3, eD, el, hds, hsm, hn1, hn2, P3, K3⟩ := hI
        have lds := dpAll_len hds
        have hB3 : c.toNat * obB m ≤ 3 * obB m := Nat.mul_le_mul_right _ (by omega)
        have hds' := dpAll_same (mask_less (l := l) (D := D)) _ _ hds
        have al3 := Keeps.alive al K3 P3
        have lsm : ds.length ≤ 12 := by omega
        -- pick == 13
        refine ⟨_, rfl, rfl, _, rfl, ite2 (fun hz => ?_) (fun hz => ?_)⟩
        · refine ⟨_, rfl, ?_⟩
          exact kk (.ref D) (.list ds) n3 H3 (.lst (SqL.of (by rw [mask_out nDl]; exact eD)) hds') (by simp only [sm]; exact ⟨lsm, hsm⟩) (by omega) (by omega) P3 K3
        clear hz
        -- pick == 14
        refine ⟨_, rfl, rfl, _, rfl, ite2 (fun hz => ?_) (fun hz => ?_)⟩
        · refine ⟨_, rfl, D, vs, rfl, .inl ⟨SqL.of eD, fun t nt => ?_⟩⟩
          exact kk (.ref t) (.tuple ds) n3 _ (.tup (SqT.of (mask_upd (al3.not nt))) (dpAll_same (mask_same (same_new nt)) _ _ hds')) (by simp only [sm]; exact ⟨lsm, hsm⟩) (by omega) (by omega) (P3.new nt) (K3.trans (.upd_new nt))
        clear hz
        refine ⟨by show 5 ≤ sizeLine; decide, fun r nr => ?_⟩
        refine ⟨_, rfl, p, q, n3, 5, rfl, P3.new nr, by omega, by decide, by decide, fun a4 H4 a40 a41 P4 K4 => ?_⟩
        obtain ⟨op, ep⟩ := P3.p_some
        obtain ⟨oq, eq⟩ := P3.q_some
        obtain ⟨sx, ex, hx⟩ := verb_at a4 a40 a41
        have K34 : Keeps p q H3 H4 := (Keeps.upd_new nr).trans K4
        refine ⟨r, _, _, _, rfl, rfl, SqL.of (K4 r _ (ne_of_none ep nr).symm (ne_of_none eq nr).symm upd_same), ex, ?_⟩
        refine ⟨by show 1 ≤ sizeLine; decide, fun t nt => ?_⟩
        have eD5 : (upd H4 t (.tup [.str sx])) D = some (.lst vs) := same_new nt _ _ (K34 D _ nDp nDq eD)
        have al4 : Alive l H4 := Keeps.alive al3 K34 P4
        refine ⟨_, rfl, D, vs, rfl, .inl ⟨SqL.of eD5, fun u nu => ?_⟩⟩
        have et : (upd (upd H4 t (.tup [.str sx])) u (.tup vs)) t = some (.tup [.str sx]) := same_new nu _ _ upd_same
        have s5 : Same H4 (upd (upd H4 t (.tup [.str sx])) u (.tup vs)) := (same_new nt).trans (same_new nu)
        have K5 : Keeps p q H (upd (upd H4 t (.tup [.str sx])) u (.tup vs)) := (K3.trans K34).trans (Keeps.of_same s5)
        have P5 := P4.same s5
        have hds5 := dpAll_same ((Keeps.maskL lp lq K34).trans (mask_same s5)) _ _ hds'
        refine ⟨t, u, [.str sx], vs, rfl, rfl, SqT.of et, SqT.of upd_same, by simp, by show 1 + vs.length ≤ sizeLine; exact len1000 (by omega), fun e0 => ?_, fun _ y ny => ?_⟩
        · subst e0
          obtain rfl : ds = [] := List.eq_nil_of_length_eq_zero lds.symm
          exact kk (.ref t) (.tuple [.str sx]) (n3 + 1) _ (.tup (SqT.of (by rw [mask_out (al4.not nt)]; exact et)) (.cons (.str sx) .nil)) (by simp only [sm]; exact ⟨Nat.le_of_ble_eq_true rfl, fun x hx' => by
            rw [List.mem_singleton.mp hx']
            obtain ⟨m', rfl⟩ : ∃ m', m = m' + 1 := ⟨m - 1, by omega⟩
            exact hx.sm (by decide)⟩) (by omega) (by omega) P5 K5
        · exact kk (.ref y) (.tuple (.str sx :: ds)) (n3 + 1) _ (.tup (SqT.of (mask_upd ((al4.same s5).not ny))) (.cons (.str sx) (dpAll_same (mask_same (same_new ny)) _ _ hds5))) (by
            simp only [sm]
            refine ⟨by simp only [List.length_cons]; omega, fun x hx' => ?_⟩
            rcases List.mem_cons.mp hx' with rfl | hx'
            · obtain ⟨m', rfl⟩ : ∃ m', m = m' + 1 := ⟨m - 1, by omega⟩
              exact hx.sm (by decide)
            · exact hsm x hx') (by omega) (by omega) (P5.new ny) (K5.trans (.upd_new ny))
end
/-! ### errors as values: made, their attribute read, isinstance -/
/-- C(e, ..) as a value -/
def tOex (C : Addr) (sp : Sp) (ta : TA) : TE := fun σ H Q => ta σ H fun vs H1 => vs.length ≤ 1000 ∧ ∀ a, H1 a = none → sp (.ref a :: vs) (upd H1 a (exo a C none)) (fun v H2 => v = .non ∧ Q (.ref a) H2) (fun _ _ _ => False)
section
variable {X : Cx} {CX : CXT} {x : Str} {C fI : Addr} {k : Nat} {fd : FuncData} {ps : List Str} {sp : Sp} {e : Expr} {es : List Expr} {ta : TA} {p pos : Pos}
theorem run_oex (T : OexC X.K C) (iC : PySem.W.findIn X.K (.ref C) "__init__" = some (some (.ref fI))) (tI : PySem.W.typeIn X.K (.ref fI) = some (.type "function"))
    (F1 : FnOk X.prog X.w X.K X.mg X.base CX k fI fd ps sp) (hr : Room (k + 1) X.A) (hb : Binds X.K fd ps []) (hx : Passes CX X (fun _ _ _ => False)) {pins : List (Addr × Obj)} {σ : St} {H1 : Hp} {s1 : Shared} {Q : VK} {us : List Value} {vs : List V} (I1 : Inv X pins σ H1 s1) (r1 : Vals vs us)
    (q1 : ∀ a, H1 a = none → sp (.ref a :: vs) (upd H1 a (exo a C none)) (fun v H2 => v = .non ∧ Q (.ref a) H2) (fun _ _ _ => False)) (hz : vs.length ≤ 1000) : wpAny (model X.prog X.w) X.A (call (.ref C) us) (EP X pins σ Q) X.xe s1 := by
  obtain ⟨nm, q, N, bs, bm, sn, sub, ab, col, dd, k0, k1, k2, k3, k5, hC, hbm⟩ := T.cls
  obtain ⟨hp, g, dr, tk, os⟩ := s1
  have hsz : hp.objs.size ≤ hp.objs.size + 1 := Nat.le_succ _
  have hn : H1 (hp.objs.size + 1) = none := I1.hok.fresh hsz
  have hq := q1 (hp.objs.size + 1) hn
  have kk : ∀ b o, hp.get? b = some o → ((hp.push (PySem.W.kdv_tup us)).push (PySem.HandSPX.excO C hp.objs.size)).get? b = some o := fun b o e => Heap.get?_push_of_some _ (Heap.get?_push_of_some _ e)
  have hget : ((hp.push (PySem.W.kdv_tup us)).push (PySem.HandSPX.excO C hp.objs.size)).get? (hp.objs.size + 1) = some (PySem.HandSPX.excO C hp.objs.size) := by heap_get
  have I2 : Inv X pins σ (upd H1 (hp.objs.size + 1) (exo (hp.objs.size + 1) C none)) ⟨(hp.push (PySem.W.kdv_tup us)).push (PySem.HandSPX.excO C hp.objs.size), g, dr, tk, os⟩ :=
    I1.laid (t' := tk) (a := hp.objs.size + 1) (o := exo (hp.objs.size + 1) C none) (h' := (hp.push (PySem.W.kdv_tup us)).push (PySem.HandSPX.excO C hp.objs.size)) kk hsz (exo_ok hget)
  have r2 : Vals (V.ref (hp.objs.size + 1) :: vs) (Value.ref (hp.objs.size + 1) :: us) := .cons rfl r1
  have hl : (Value.ref (hp.objs.size + 1) :: us).length = ps.length := by
    have e := r2.length
    rw [F1.len _ _ _ _ hq] at e
    exact e.symm
  have hus : us.length ≤ sizeLine := by
    rw [← Paired.length r1, sizeLine_eq]
    omega
  refine wpAny_call (PySem.HandSPX.call_own F.excBase_ValueError (fun Y => PySem.HandSPX.refsVE_contains Y bm hbm) (I1.kIn _ _ hC) (PySem.W.looks_findIn I1.kIn iC) (fun self => PySem.W.bind_fn I1.kIn self tI) hus
    (codeAny_mono (F1.run _ X.stack _ _ ⟨Value.ref (hp.objs.size + 1) :: us, []⟩ (Value.ref (hp.objs.size + 1) :: us) _ _ (fun _ _ _ => False) (hr.make C us []) (I2.env0.make C us []) (by
      have := hb _ (Value.ref (hp.objs.size + 1) :: us) I2.kIn (by rw [List.append_nil]; exact hl)
      rw [List.append_nil] at this
      exact this) r2 hq) fun r s' hq' => ?_))
  cases r with
  | error er => exact hx pins σ _ _ er s' I2 hq'
  | ok fl =>
    cases fl with
    | ret u =>
      obtain ⟨v, H2, os2, bare2, un2, hok2, rv, ev, q2⟩ := hq'
      subst ev
      refine ⟨rv, V.ref (hp.objs.size + 1), H2, I2.call' (ch := []) os2 un2 hok2 bare2 (fun b z => absurd z (by simp)), rfl, q2⟩
    | next => exact False.elim hq'
    | brk => exact False.elim hq'
    | cont => exact False.elim hq'
theorem pe_oex (T : OexC X.K C) (iC : PySem.W.findIn X.K (.ref C) "__init__" = some (some (.ref fI))) (tI : PySem.W.typeIn X.K (.ref fI) = some (.type "function"))
    (F1 : FnOk X.prog X.w X.K X.mg X.base CX k fI fd ps sp) (hr : Room (k + 1) X.A) (hb : Binds X.K fd ps []) (hx : Passes CX X (fun _ _ _ => False)) (hg : Gl X x) (hm : X.mg x = some (.ref C)) (ha : PA X (e :: es) ta)
    (hdb : (x == ("__debug__" : Str)) = false := by decide) (he : starEach (e :: es) X.env = (false, eval e X.env) :: starEach es X.env := by rfl) (hpl : (backTo pos (starEach es X.env)).any (·.1) = false := by rfl) :
    PE X (.Call (.Name x p) (e :: es) [] pos) (tOex C sp ta) := by
  refine ⟨fun pins s σ H Q I h => ?_⟩
  refine wpAny_Call_Name_kw (ld_glob I hg hm ?_ hdb)
  refine PySem.W.callWith_K (h₀ := X.base) I.ok.mod.kin T.kC (thn (ha.run pos pins s σ H _ I h) fun us s1 ⟨vs, H1, I1, r1, hz, q1⟩ => ⟨I1.kIn, ?_⟩) he hpl
  exact run_oex T iC tI F1 hr hb hx I1 r1 q1 hz
theorem pe_oex0 (T : OexC X.K C) (iC : PySem.W.findIn X.K (.ref C) "__init__" = some (some (.ref fI))) (tI : PySem.W.typeIn X.K (.ref fI) = some (.type "function"))
    (F1 : FnOk X.prog X.w X.K X.mg X.base CX k fI fd ps sp) (hr : Room (k + 1) X.A) (hb : Binds X.K fd ps []) (hx : Passes CX X (fun _ _ _ => False)) (hg : Gl X x) (hm : X.mg x = some (.ref C))
    (hdb : (x == ("__debug__" : Str)) = false := by decide) : PE X (.Call (.Name x p) [] [] pos) (tOex C sp tNil) := by
  refine ⟨fun pins s σ H Q I h => ?_⟩
  refine wpAny_Call_Name_kw (ld_glob I hg hm ?_ hdb)
  have h : ([] : List V).length ≤ 1000 ∧ ∀ a, H a = none → sp (.ref a :: []) (upd H a (exo a C none)) (fun v H2 => v = .non ∧ Q (.ref a) H2) (fun _ _ _ => False) := h
  exact PySem.W.callWith_K0 I.kIn T.kC (run_oex (us := []) T iC tI F1 hr hb hx I .nil h.2 h.1)
/-- e.f, e an error as a value -/
def tExf (C : Addr) (f : Str) (te : TE) : TE := fun σ H Q => te σ H fun x H1 => ∃ (a dx : Addr) (fs : List (Str × V)) (v : V), x = .ref a ∧ H1 a = some (exo a C (some dx)) ∧ H1 dx = some (exd dx fs) ∧ fs.lookup f = some v ∧ Q v H1
theorem pe_exf {n : Str} {te : TE} (T : XfC X.K C) (hno : PySem.W.findIn X.K (.ref C) n = some none) (he : PE X e te) (hb : attributeBase e n X.env (eval e X.env) = eval e X.env := by rfl) : PE X (.Attribute e n pos) (tExf C n te) := by
  refine ⟨fun pins s σ H Q I h => ?_⟩
  refine attr_of hb (thn (he.run pins s σ H _ I h) fun u s1 hh => ?_)
  obtain ⟨y, H1, I1, rx, a, dx, fs, v, rfl, ea, ed, l, q⟩ := hh
  obtain rfl : u = Value.ref a := rx
  obtain ⟨t1, ho⟩ := exo_at I1.hok ea
  obtain ⟨mA, hns, hr⟩ := exd_at I1.hok ed
  obtain ⟨od, hod, hl⟩ := lookIn_ns hns
  obtain ⟨u, hu, ru⟩ := RelO.some_of (v := v) (o := mA n) (by rw [← l]; exact hr n)
  have J : PySem.W.InstAt s1.heap a { cls := .ref C, dict := some dx, data := .fields #[.ref t1, .none, .none, .none, .bool false, .none] } C (some od) := ⟨ho, rfl, rfl, hod⟩
  exact HandSPX.exc_get I1.kIn J T.ga T.gg T.exC (PySem.W.findObj_own T.hdC hno rfl (by rw [hl, hu])) (handed_of ru) ⟨v, H1, I1.tok _, ru, q⟩
end
/-- what isinstance asks of an error's class -/
structure IsC (K : PySem.W.Frag) (C : Addr) : Prop where
  cl : (PySem.W.clsIn K C).isSome = true
  ga : PySem.W.findIn K (.ref C) "__getattribute__" = some (some (.builtin "BaseException.__getattribute__"))
  gg : PySem.W.findIn K (.ref C) "__getattr__" = some none
  exC : PySem.W.subIn K (.ref C) (.type "BaseException") = some true
  ha : PySem.W.findIn K (.ref C) "__class__" = some (some (.builtin "object.__class__"))
  hn : PySem.W.specialIn K (.builtin "object.__class__") "__get__" = some (some (.builtin "getset_descriptor.__get__"))
  htk : PySem.W.takesIn K (.builtin "object.__class__") = some true
  hm : PySem.W.mroIn K C (.type "object") = some true
/-- isinstance(x, c), x an error as a value -/
def rIsEx (K : PySem.W.Frag) : List V → Hp → VK → Prop := fun xs H Q => ∃ (a C : Addr) (d : Option Addr) (c : V) (u : Value) (b : Bool), xs = [.ref a, c] ∧ H a = some (exo a C d) ∧ (∀ dx, d = some dx → ∃ fs, H dx = some (exd dx fs)) ∧ IsC K C ∧ ClsV c u ∧ PySem.W.kitOne K (.ref C) u = some b ∧ Q (.bl b) H
theorem call_isEx {X : Cx} : CallR X (.builtin "isinstance") (rIsEx X.K) := by
  intro pins s σ H xs us Q I r h
  obtain ⟨a, C, d, c, u, b, rfl, ea, hd, T, k, e, q⟩ := h
  obtain ⟨u1, u2, rfl, r1, r2⟩ := vals2 r
  obtain rfl : u1 = Value.ref a := r1
  have e2 := k.eq r2
  subst e2
  obtain ⟨t1, ho⟩ := exo_at I.hok ea
  have J : ∃ od, PySem.W.InstAt s.heap a { cls := .ref C, dict := d, data := .fields #[.ref t1, .none, .none, .none, .bool false, .none] } C od := by
    cases d with
    | none => exact ⟨none, ho, rfl, rfl, trivial⟩
    | some dx =>
      obtain ⟨fs, ed⟩ := hd dx rfl
      obtain ⟨mA, hns, _⟩ := exd_at I.hok ed
      obtain ⟨od, hod, _⟩ := lookIn_ns hns
      exact ⟨some od, ho, rfl, rfl, hod⟩
  obtain ⟨od, J⟩ := J
  exact PySem.W.kia_one (PySem.W.kitx_exc (od := od) T.cl T.ga T.gg T.exC T.ha T.hn T.htk T.hm) I.kIn J e (fun z => nomatch z) fun tk => ⟨.bl b, H, I.tok tk, rfl, q⟩
/-! ### the errors without arguments: super().__init__("..") -/
def eArgs0 (p1 : Pos) : Arguments := { posonlyargs := [], args := [{ arg := "self", annotation := none, pos := p1 }], vararg := none, kwonlyargs := [], kw_defaults := [], kwarg := none, defaults := [] }
def eSup0 (txt : Str) (j : Nat) (p0 p1 p2 p3 p7 : Pos) : Expr := .Call (.Attribute (.Call (.Name "super" p0) [] [] p1) "__init__" p2) [.Constant (.str txt) j p3] [] p7
def eBody0 (txt : Str) (j : Nat) (p0 p1 p2 p3 p7 p8 : Pos) : List Stmt := [.Expr (eSup0 txt j p0 p1 p2 p3 p7) p8]
def eScope0 (mr : List (Str × Const)) : Scope := { kind := .function, names := [("self", .local), ("__class__", .free), ("super", .globalImplicit)], isGenerator := false, isCoroutine := false, more := mr }
def SupEv0 (txt : Str) (j : Nat) (p0 p1 p2 p3 p7 : Pos) : Prop := ∀ env : Env, ∃ pl : Sem Bool, eval (eSup0 txt j p0 p1 p2 p3 p7) env = (do
  let ov ← attributeBase (.Call (.Name "super" p0) [] [] p1) "__init__" env (eval (.Call (.Name "super" p0) [] [] p1) env)
  standAt p2.atName
  let (f, first) ← holding [ov] (getMethod ov "__init__" pl)
  callWith p7 f first (backTo p7 (starEach [.Constant (.str txt) j p3] env)) [])
/-- what the written part says of such a class at C, its __init__ at fI, the cell of __class__ at cc -/
structure ErrIn0 (P : Program) (K : PySem.W.Frag) (mg : Str → Option Value) (name : Str) (C fI cc : Addr) (fd : FuncData) : Prop where
  gC : mg name = some (.ref C)
  o : OexC K C
  iC : PySem.W.findIn K (.ref C) "__init__" = some (some (.ref fI))
  tI : PySem.W.typeIn K (.ref fI) = some (.type "function")
  fn : ∃ (oc : Value) (od : Option Addr) (qual txt : Str) (j : Nat) (mr : List (Str × Const)) (doc pm : Value) (an : Option Addr) (cda : Addr) (ct : Value) (osl : Array (Option Value)) (r1 p0 p1 p2 p3 p7 p8 : Pos),
    fd = PySem.W.ksFn "__init__" qual (eArgs0 r1) (eBody0 txt j p0 p1 p2 p3 p7 p8) (eScope0 mr) .none .none doc pm an (.ref cda) ct cc ∧
    K.lookup fI = some ⟨oc, od, .func fd, osl⟩ ∧ PySem.W.codeIn K (.ref cda) qual = true ∧ SupEv0 txt j p0 p1 p2 p3 p7 ∧
    ∃ (ccl : Value) (cdd : Option Addr) (vs : Array Value) (ccs : Array (Option Value)) (file : Str) (tf : Tok), K.lookup cda = some ⟨ccl, cdd, .fields vs, ccs⟩ ∧ vs[2]? = some (.str file tf) ∧ ((P.main.file : Str) == file) = true
  cell : ∃ (cl : Value) (cld : Option Addr) (csl : Array (Option Value)), K.lookup cc = some ⟨cl, cld, .cell (some (.ref C)), csl⟩
  cls : ∃ cd, PySem.W.clsIn K C = some cd
  subC : PySem.W.mroIn K C (.ref C) = some true
  sup : mg "super" = none
  top : (P.main.scope.names.lookup ("super" : Str)).isSome = false
  opq : PySem.W.nsIn K cStatics "thirdparty.any" = some none
  up : PySem.W.ks_superIn K C C "__init__" = some (some (.builtin "ValueError.__init__"))
  subV : PySem.W.subIn K (.ref C) (.type "ValueError") = some true
/-- C() -/
def spErr0 (C : Addr) : Sp := fun vs H Q _ => ∃ a : Addr, vs = [.ref a] ∧ H a = some (exo a C none) ∧ Q .non H
section
variable {P : Program} {w : World} {K : PySem.W.Frag} {mg : Str → Option Value} {base : Heap}
def cxE0 (P : Program) (w : World) (K : PySem.W.Frag) (mg : Str → Option Value) (base : Heap) (qual : Str) (sc : Scope) (f cc : Addr) (cd : Value) (A : Around) (outer : List Env) (s : Shared) (H : Hp) : Cx where
  prog := P
  w := w
  K := K
  mg := mg
  base := base
  A := A.deeper (PySem.W.ksEnv qual sc s.heap.objs.size f cd cc)
  N := ["self"]
  s_0 := s
  H_0 := H
  env := PySem.W.ksEnv qual sc s.heap.objs.size f cd cc
  outer := outer
  stack := PySem.W.ksEnv qual sc s.heap.objs.size f cd cc :: outer
  ex := []
  calm := true
  fn := fun _ => false
  pn := []
  xe := fun _ _ => False
theorem inv_err0 {qual : Str} {mr : List (Str × Const)} {f cc : Addr} {cd : Value} {A : Around} {outer : List Env} {s : Shared} {H : Hp} {h1 : Heap} {tk : Nat} {u0 : Value} {v0 : V} {oc : Obj} {cv : Value} (hd : A.handled = none) (e0 : Env0 P w K mg base A outer s H)
    (hc : K.lookup cc = some oc) (hcc : oc.data = .cell (some cv)) (r0 : RelV v0 u0) (hns : h1.Ns s.heap.objs.size (fun y => [(("self" : Str), u0)].reverse.lookup y)) (hk : ∀ b o, s.heap.get? b = some o → h1.get? b = some o) :
    Inv (cxE0 P w K mg base qual (eScope0 mr) f cc cd A outer s H) [] [some v0] H { s with heap := h1, toks := tk } := by
  have hb : base.get? cc = some oc := e0.mod.kin _ _ hc
  obtain ⟨hs, hH⟩ := e0.bs _ _ hb
  have one : ∀ y c, List.lookup y [(("__class__" : Str), cc)] = some c → y = "__class__" ∧ c = cc := fun y c h => by
    cases q : (y == ("__class__" : Str)) with
    | true =>
      simp only [List.lookup, q] at h
      exact ⟨beq_iff_eq.mp q, (Option.some.inj h).symm⟩
    | false => simp [List.lookup, q] at h
  have noA : ∀ b : Addr, b ∉ (cxE0 P w K mg base qual (eScope0 mr) f cc cd A outer s H).ex := fun b z => absurd (show b ∈ ([] : List Addr) from z) (by simp)
  refine ⟨⟨e0.mod, rfl, rfl, rfl, Nat.le_refl _, fun y z c h1 h2 => ?_, fun y hy => ?_, fun y c h => (by cases h), fun _ => hd, Around.frames_deeper e0.frames, .inr ⟨rfl, rfl⟩, fun b z => absurd z (noA b), e0.bs, e0.bsz, fun b _ _ => noA b, fun b z => absurd z (noA b), e0.funs, e0.frf⟩,
    rfl, e0.bare, Un.kept hk, ⟨_, hns, fun i y v h1 h2 h3 => ?_⟩, fun y c h => ?_, e0.hok.fresh (Nat.le_refl _), fun y c h => ?_, fun p hp => absurd (show p ∈ ([] : List (Addr × Obj)) from hp) (by simp), e0.hok.kept hk, rfl⟩
  · rw [(one _ _ h1).1, (one _ _ h2).1]
  · have hy : (eScope0 mr).names.lookup y = some .cell ∨ (eScope0 mr).names.lookup y = some .free := hy
    have : y = "__class__" := by
      have e : (eScope0 mr).names.lookup y = List.lookup y [(("self" : Str), NameKind.local), ("__class__", .free), ("super", .globalImplicit)] := rfl
      rw [e] at hy
      cases a1 : (y == ("self" : Str)) with
      | true => simp [List.lookup, a1] at hy
      | false =>
        cases a3 : (y == ("__class__" : Str)) with
        | true => exact beq_iff_eq.mp a3
        | false =>
          cases a4 : (y == ("super" : Str)) with
          | true => simp [List.lookup, a1, a3, a4] at hy
          | false => simp [List.lookup, a1, a3, a4] at hy
    subst this
    exact ⟨cc, rfl⟩
  · have hy : [("self" : Str)][i]? = some y := h1
    cases i with
    | zero =>
      obtain rfl := Option.some.inj hy
      obtain rfl : v0 = v := Option.some.inj (Option.some.inj h2)
      refine ⟨u0, r0, .inl ⟨rfl, ?_⟩⟩
      show List.lookup ("self" : Str) [(("self" : Str), u0)] = some u0
      simp only [List.lookup, beq_self_eq_true]
    | succ i => simp at hy
  · obtain ⟨_, rfl⟩ := one _ _ h
    exact ⟨_, oc, hk _ _ hs, hcc⟩
  · obtain ⟨_, rfl⟩ := one _ _ h
    exact hH
theorem ok_err0 {name : Str} {C fI cc : Addr} {fd : FuncData} (T : ErrIn0 P K mg name C fI cc fd) : FnOk P w K mg base CX0 1 fI fd ["self"] (spErr0 C) := by
  refine ⟨fun vs H Q E h => ?_, fun A outer s H args us vs Q E hr e0 hb r hsp => ?_⟩
  · obtain ⟨a, rfl, _⟩ := h
    rfl
  obtain ⟨oc, od, qual, txt, j, mr, doc, pm, an, cda, ct, osl, r1, p0, p1, p2, p3, p7, p8, rfl, lk, hcd, hev, ccl, cdd, fvs, ccs, file, tf, hcode, hvs, hfile⟩ := T.fn
  obtain ⟨cl, cld, csl, hcell⟩ := T.cell
  obtain ⟨cdD, hD⟩ := T.cls
  obtain ⟨a, rfl, ha, kk⟩ := hsp
  obtain ⟨u0, rfl, ru0⟩ := vals1 r
  obtain rfl : u0 = Value.ref a := ru0
  have KX : K.In s.heap := e0.mod.kin.keeps fun b o e => (e0.bs b o e).1
  have lim : s.heap.NoLimit := e0.mod.nolimit.keeps fun b o e => (e0.bs b o e).1
  refine PySem.ks_codeAny_call_defAt (fd := PySem.W.ksFn "__init__" qual (eArgs0 r1) (eBody0 txt j p0 p1 p2 p3 p7 p8) (eScope0 mr) .none .none doc pm an (.ref cda) ct cc)
    (body := eBody0 txt j p0 p1 p2 p3 p7 p8) hr.depth (KX _ _ lk) rfl lim (PySem.W.codeRec_of KX hcd) rfl hb ?_ ?_ (fun h₁ hns hk₁ => ?_) rfl rfl rfl
  · intro y hy
    have hy' : y ∈ [(("self" : Str), NameKind.local), ("__class__", .free), ("super", .globalImplicit)] := hy
    simp only [List.mem_cons, List.not_mem_nil, or_false] at hy'
    rcases hy' with rfl | rfl | rfl <;> (intro z; cases z)
  · intro y hy
    have hy' : y ∈ [(("self" : Str), Value.ref a)] := hy
    simp only [List.mem_cons, List.not_mem_nil, or_false] at hy'
    subst hy'
    rfl
  have I : Inv (cxE0 P w K mg base qual (eScope0 mr) fI cc (.ref cda) A outer s H) [] [some (.ref a)] H { s with heap := h₁, toks := s.toks + 1 } := inv_err0 hr.hd e0 hcell rfl rfl hns hk₁
  have PJ1 : PE (cxE0 P w K mg base qual (eScope0 mr) fI cc (.ref cda) A outer s H) (.Constant (.str txt) j p3) (tC (.str txt)) := pe_str
  obtain ⟨pl, hev⟩ := hev (PySem.W.ksEnv qual (eScope0 mr) s.heap.objs.size fI (.ref cda) cc)
  refine PySem.ks_wpAt_execs_cons (PySem.ks_wpAt_Expr_any (PySem.ks_wpAt_MethodCall (pl := pl) ?_ hev))
  have hs1 := hk₁ _ _ (KX _ _ lk)
  have zs : List.lookup ("super" : Str) [(("self" : Str), NameKind.local), ("__class__", .free), ("super", .globalImplicit)] = some .globalImplicit := by decide
  have zc : List.lookup ("__class__" : Str) [(("self" : Str), NameKind.local), ("__class__", .free), ("super", .globalImplicit)] = some .free := by decide
  have zn : List.lookup ("self" : Str) [(("self" : Str), Value.ref a)] = some (.ref a) := by simp only [List.lookup, beq_self_eq_true]
  obtain ⟨mb, hmb1, hmb2⟩ := I.mod.blt
  obtain ⟨oD, hoD1, hoD2⟩ : ∃ oD, h₁.get? C = some oD ∧ oD.data = .cls cdD := by
    unfold PySem.W.clsIn at hD
    split at hD
    · rename_i c d cd' sl ho
      cases hD
      exact ⟨_, hk₁ _ _ (KX _ _ ho), rfl⟩
    · cases hD
  obtain ⟨t1, hoa⟩ := exo_at I.hok ha
  refine PySem.ks_wpAt_super_base (env := PySem.W.ksEnv qual (eScope0 mr) s.heap.objs.size fI (.ref cda) cc) zs zc (by decide) rfl hs1 rfl (ar := { arg := "self", annotation := none, pos := r1 }) rfl rfl (hk₁ _ _ (KX _ _ hcode)) rfl hvs hfile T.top ?_
  refine PySem.W.ks_loadName_global rfl zs (Calls.loadGlobal_builtin (env := PySem.W.ksEnv qual (eScope0 mr) s.heap.objs.size fI (.ref cda) cc) (I.mod.glob.keeps I.bk) T.sup (hmb1.keeps I.bk) ((hmb2 _ (by decide)).trans PyProof.Rows.Boot.«super») ⟨rfl, ?_⟩)
  refine wpAny_loadName_free rfl zc rfl ⟨_, hk₁ _ _ (KX _ _ hcell), rfl⟩ ?_
  refine wpAny_loadName_local rfl rfl hns zn ?_
  refine PySem.ks_wpAny_isType_cls hoD1 hoD2 ⟨rfl, ?_⟩
  refine PySem.ks_wpAny_call_super hoD1 hoD2 hoa rfl (fun c z => by cases z) (PySem.W.looks_mroIn I.kIn T.subC) (fun h2 hso k2 => ?_)
  have I2 := I.kept (t' := s.toks + 1) k2
  have hIn : PySem.W.InstAt h2 a (PySem.HandSPX.excO C t1) C none := ⟨k2 _ _ hoa, rfl, rfl, trivial⟩
  have hup := T.up
  unfold PySem.W.ks_superIn at hup
  rw [hD] at hup
  refine PySem.W.kxs_getMethod PySem.W.kxs_ValueError hso (PySem.W.looks_opaque I2.kIn T.opq) (l₀ := cdD.mro) (fun A Q E s k q => wpAny_bind ((PySem.W.looks_clsIn I2.kIn hD) A _ E s k (wpAny_pure q))) rfl I2.kIn hup (hIn.type.andThen (PySem.W.looks_subIn I2.kIn T.subV)) (PySem.W.ks_ne I2.kIn hIn hD) (by decide) ?_
  have k3 : ∀ b o, h2.get? b = some o → (h2.push (PySem.W.kxs_mw "ValueError.__init__" a)).get? b = some o := fun b o e => Heap.get?_push_of_some _ e
  have I3 := I2.kept (t' := s.toks + 1 + 1) k3
  have hu : (h2.push (PySem.W.kxs_mw "ValueError.__init__" a)).get? h2.objs.size = some (PySem.W.kxs_mw "ValueError.__init__" a) := Heap.get?_push_size _ rfl
  have I4 := I3.pins_of (pins' := [(h2.objs.size, PySem.W.kxs_mw "ValueError.__init__" a)]) fun p hp => by
    obtain rfl := List.mem_singleton.mp hp
    refine ⟨hu, I2.hok.fresh (Nat.le_refl _), ?_, ?_, fun v z => by cases z⟩
    · exact Nat.ne_of_gt I2.lt
    · exact I2.nofs (Nat.le_refl _)
  show wpAny _ _ (callWith p7 (.ref h2.objs.size) [] [(false, eval (.Constant (.str txt) j p3) (PySem.W.ksEnv qual (eScope0 mr) s.heap.objs.size fI (.ref cda) cc))] []) _ _ _
  refine PySem.W.kxs_callWith (i := "ValueError.__init__") (x := a) (u := h2.objs.size) rfl (Calls.evalArgs_plain (Calls.spliced_cons (wpAny_mono (PJ1.run _ _ _ H (fun _ H' => H' = H) I4 ?_) (fun v5 s5 hh => ?_) fun _ _ z => z.elim)))
  · rfl
  · obtain ⟨v6, H5, I5, r5, eH⟩ := hh
    rw [eH] at I5
    refine Calls.spliced_nil ?_
    have hu5 := (I5.pin (h2.objs.size, PySem.W.kxs_mw "ValueError.__init__" a) (by simp)).1
    refine ⟨hu5, call_wrap T.o I5 hu5 ha ?_ fun s6 I6 => ?_⟩
    · show ([v5] : List Value).length ≤ sizeLine
      rw [sizeLine_eq]; show 1 ≤ 16777216; decide
    · have I7 : Inv (cxE0 P w K mg base qual (eScope0 mr) fI cc (.ref cda) A outer s H) [] [some (.ref a)] H s6 := I6.pins_of fun p hp => nomatch hp
      have PS1 : PSs (cxE0 P w K mg base qual (eScope0 mr) fI cc (.ref cda) A outer s H) [] tNext := pss_nil
      refine wpAt_of_wpAny (wpAny_mono (PS1.run [] s6 _ H { nx := fun _ H' => Q .non H', rt := Q } I7 kk) (fun fl s8 hs => ?_) fun _ _ z => z.elim)
      have fin : ∀ {σ' : St} {H' : Hp} {v : V} {u : Value}, Inv (cxE0 P w K mg base qual (eScope0 mr) fI cc (.ref cda) A outer s H) [] σ' H' s8 → RelV v u → Q v H' → CE outer P w H s Q u s8 :=
        fun J rv q => ⟨_, _, J.os, J.bare, J.base, J.hok, rv, q⟩
      cases fl with
      | ret u =>
        obtain ⟨v', σ', H', J, rv, q⟩ := hs
        exact fin J rv q
      | next =>
        obtain ⟨σ', H', J, q⟩ := hs
        exact fin (v := V.non) (u := Value.none) J rfl q
      | brk =>
        obtain ⟨_, _, _, q⟩ := hs
        exact False.elim q
      | cont =>
        obtain ⟨_, _, _, q⟩ := hs
        exact False.elim q
end
/-! ### the classes of the errors -/
structure ErrC (K : PySem.W.Frag) (mg : Str → Option Value) (n : Str) (QE C : Addr) : Prop where
  is : IsC K C
  ty : PySem.W.typeIn K (.ref C) = some (.type "type")
  mro : ∃ cd, PySem.W.clsIn K C = some cd ∧ cd.name = n ∧ cd.mro = [.ref C, .ref QE, .type "ValueError", .type "Exception", .type "BaseException", .type "object"]
  m : mg n = some (.ref C)
  mQ : mg "QuietError" = some (.ref QE)
  q : ∃ cd, PySem.W.clsIn K QE = some cd ∧ cd.name = "QuietError"
  tyQ : PySem.W.typeIn K (.ref QE) = some (.type "type")
theorem ErrC.ne {K : PySem.W.Frag} {mg : Str → Option Value} {n n' : Str} {QE Q' C C' : Addr} (T : ErrC K mg n QE C) (T' : ErrC K mg n' Q' C') (h : n ≠ n') : C ≠ C' := fun e => by
  subst e
  obtain ⟨cd, h1, h2, _⟩ := T.mro
  obtain ⟨cd', h1', h2', _⟩ := T'.mro
  rw [h1] at h1'
  cases h1'
  exact h (h2.symm.trans h2')
theorem ErrC.neQ {K : PySem.W.Frag} {mg : Str → Option Value} {n : Str} {QE C : Addr} (T : ErrC K mg n QE C) (h : n ≠ "QuietError") : C ≠ QE := fun e => by
  subst e
  obtain ⟨cd, h1, h2, _⟩ := T.mro
  obtain ⟨cd', h1', h2'⟩ := T.q
  rw [h1] at h1'
  cases h1'
  exact h (h2.symm.trans h2')
theorem ErrC.oneQ {K : PySem.W.Frag} {mg : Str → Option Value} {n n' : Str} {QE Q' C C' : Addr} (T : ErrC K mg n QE C) (T' : ErrC K mg n' Q' C') : Q' = QE := by
  have := T.mQ.symm.trans T'.mQ
  exact (Value.ref.inj (Option.some.inj this)).symm
theorem ErrC.sub {K : PySem.W.Frag} {mg : Str → Option Value} {n0 : Str} {QE C : Addr} (T : ErrC K mg n0 QE C) (v : Value) : PySem.W.subIn K (.ref C) v = some ([.ref C, .ref QE, .type "ValueError", .type "Exception", .type "BaseException", .type "object"].contains v) := by
  obtain ⟨cd, h1, _, h2⟩ := T.mro
  show PySem.W.mroIn K C v = _
  unfold PySem.W.mroIn
  rw [h1, Option.bind_some, h2]
  rfl
theorem ref_ne {a b : Addr} (h : a ≠ b) : (Value.ref a == Value.ref b) = false := Bool.eq_false_iff.mpr fun q => h (Value.ref.inj (beq_iff_eq.mp q))
theorem kit_err {K : PySem.W.Frag} {mg : Str → Option Value} {n0 n1 : Str} {QE Q' C C' : Addr} (T : ErrC K mg n0 QE C) (T' : ErrC K mg n1 Q' C') (h : C' ≠ QE) : PySem.W.kitOne K (.ref C) (.ref C') = some (decide (C' = C)) := by
  unfold PySem.W.kitOne
  by_cases e : C' = C
  · subst e
    rw [if_pos (by simp), decide_eq_true rfl]
  · rw [ref_ne (Ne.symm e), if_neg Bool.false_ne_true, decide_eq_false e]
    unfold PySem.W.kitCls
    have hc : ((PySem.W.clsIn K C').isSome && PySem.W.typeIn K (.ref C') == some (.type "type")) = true := by rw [T'.is.cl, T'.ty]; simp
    simp only [hc, if_true]
    rw [T.sub]
    have h1 : (Value.ref C' == Value.ref C) = false := ref_ne e
    have h2 : (Value.ref C' == Value.ref QE) = false := ref_ne h
    have h3 : ∀ T : String, (Value.ref C' == Value.type T) = false := fun T => Bool.eq_false_iff.mpr fun q => nomatch beq_iff_eq.mp q
    simp only [List.contains, List.elem, h1, h2, h3]
theorem kit_base {K : PySem.W.Frag} {mg : Str → Option Value} {n0 : Str} {QE C : Addr} (T : ErrC K mg n0 QE C) (h : C ≠ QE) : PySem.W.kitOne K (.ref C) (.ref QE) = some true := by
  unfold PySem.W.kitOne
  rw [ref_ne h, if_neg Bool.false_ne_true]
  unfold PySem.W.kitCls
  have hc : ((PySem.W.clsIn K QE).isSome && PySem.W.typeIn K (.ref QE) == some (.type "type")) = true := by
    obtain ⟨cd, e, _⟩ := T.q
    rw [e, T.tyQ]; simp
  simp only [hc, if_true]
  rw [T.sub]
  have h1 : (Value.ref QE == Value.ref C) = false := ref_ne (Ne.symm h)
  simp [List.contains, List.elem, h1]
theorem kit_ty' {K : PySem.W.Frag} {mg : Str → Option Value} {n0 : Str} {QE C : Addr} (T : ErrC K mg n0 QE C) (n : String) (hk : PySem.W.kitMeta n = true) : PySem.W.kitOne K (.ref C) (.type n) = some ([Value.type "ValueError", .type "Exception", .type "BaseException", .type "object"].contains (.type n)) := by
  unfold PySem.W.kitOne
  have h0 : (Value.ref C == Value.type n) = false := Bool.eq_false_iff.mpr fun q => nomatch beq_iff_eq.mp q
  rw [h0, if_neg Bool.false_ne_true]
  unfold PySem.W.kitCls
  simp only [hk, if_true]
  rw [T.sub]
  have h1 : ∀ D : Addr, (Value.type n == Value.ref D) = false := fun D => Bool.eq_false_iff.mpr fun q => nomatch beq_iff_eq.mp q
  have e : ∀ l : List Value, (Value.ref C :: Value.ref QE :: l).contains (.type n) = l.contains (.type n) := fun l => by
    simp only [List.contains, List.elem, h1]
  rw [e]
/-! ### the 21 classes asked in turn -/
def tIss (K : PySem.W.Frag) (cs : List Addr) : TA := fun σ H Q => ∃ (a C : Addr) (d : Option Addr), σ[0]? = some (some (.ref a)) ∧ H a = some (exo a C d) ∧ (∀ dx, d = some dx → ∃ fs, H dx = some (exd dx fs)) ∧ IsC K C ∧ (∀ c ∈ cs, PySem.W.kitOne K (.ref C) (.ref c) = some (decide (c = C))) ∧ Q (cs.map fun c => .bl (decide (c = C))) H
section
variable {X : Cx} {es : List Expr} {cs : List Addr}
theorem iss_nil : PA X [] (tIss X.K []) := ⟨fun pos pins s σ H Q I h => by
  obtain ⟨_, _, _, _, _, _, _, _, q⟩ := h
  exact pa_nil.run pos pins s σ H Q I q⟩
theorem iss_cons {x0 n : Str} {c : Addr} {p1 p2 p3 p4 : Pos} (h0 : PE X (.Name x0 p2) (tVar 0)) (hg : Gl X "isinstance") (hm : X.mg "isinstance" = none) (hgn : Gl X n) (hmn : X.mg n = some (.ref c)) (hr : PA X es (tIss X.K cs)) (hdb : (n == ("__debug__" : Str)) = false := by decide) :
    PA X (.Call (.Name "isinstance" p1) [.Name x0 p2, .Name n p3] [] p4 :: es) (tIss X.K (c :: cs)) :=
  ⟨fun pos pins s σ H Q I h => by
    obtain ⟨a, C, d, e0, ea, hd, T, hk, q⟩ := h
    refine (pa_cons (pe_callB call_isEx hg hm (by decide +kernel) (pa_cons h0 (pa_cons (pe_glob (v := .ref c) hgn hmn rfl hdb) pa_nil))) hr).run pos pins s σ H Q I ?_
    exact ⟨.ref a, e0, a, C, d, .ref c, .ref c, _, rfl, ea, hd, T, .own c, hk c List.mem_cons_self, a, C, d, e0, ea, hd, T, fun c' hc => hk c' (List.mem_cons_of_mem _ hc), q⟩⟩
end
/-! ### errors[0].name, .. -/
def tAts (kd : List (Addr × Str)) (i0 : Nat) : TA := fun σ H Q => ∃ (r : Addr) (as : List Addr) (xs : List V), σ[0]? = some (some (.ref r)) ∧ H r = some (.lst (as.map V.ref)) ∧ xs.length = i0 + kd.length ∧
  (∀ j c, kd[j]? = some c → ∃ a dx v, as[i0 + j]? = some a ∧ xs[i0 + j]? = some v ∧ H a = some (exo a c.1 (some dx)) ∧ H dx = some (exd dx [(c.2, v)])) ∧ Q (xs.drop i0) H
section
variable {X : Cx} {es : List Expr} {kd : List (Addr × Str)}
theorem att_nil {i0 : Nat} : PA X [] (tAts [] i0) := ⟨fun pos pins s σ H Q I h => by
  obtain ⟨_, _, xs, _, _, hl, _, q⟩ := h
  rw [List.drop_of_length_le (by simp [hl])] at q
  exact pa_nil.run pos pins s σ H Q I q⟩
theorem att_cons {x0 f : Str} {C : Addr} {i0 : Nat} {i : Int} {j : Nat} {p1 p2 p3 p4 : Pos} (h0 : PE X (.Name x0 p1) (tVar 0)) (T : XfC X.K C) (hno : PySem.W.findIn X.K (.ref C) f = some none) (hi : i = (i0 : Int)) (hr : PA X es (tAts kd (i0 + 1))) :
    PA X (.Attribute (.Subscript (.Name x0 p1) (.Constant (.int i) j p2) p3) f p4 :: es) (tAts ((C, f) :: kd) i0) := by
  subst hi
  refine ⟨fun pos pins s σ H Q I h => ?_⟩
  obtain ⟨r, as, xs, e0, er, hl, ha, q⟩ := h
  obtain ⟨a, dx, v, h1, h2, h3, h4⟩ := ha 0 (C, f) rfl
  refine (pa_cons (pe_exf T hno (pe_ix ix_list h0 pe_int (fun _ _ => rfl)) rfl) hr).run pos pins s σ H Q I ?_
  refine ⟨.ref r, e0, r, _, _, _, rfl, rfl, SqL.of er, atI_nat (j := i0) (by rw [List.getElem?_map]; exact congrArg _ h1), a, dx, _, v, rfl, h3, h4, by simp [List.lookup], ?_⟩
  refine ⟨r, as, xs, e0, er, by rw [hl, List.length_cons]; omega, fun j c hc => ?_, ?_⟩
  · have := ha (j + 1) c hc
    rw [show i0 + (j + 1) = i0 + 1 + j by omega] at this
    exact this
  · have e : xs.drop i0 = v :: xs.drop (i0 + 1) := by
      have h2' : xs[i0]? = some v := h2
      obtain ⟨hlt, hv⟩ := List.getElem?_eq_some_iff.mp h2'
      rw [List.drop_eq_getElem_cons hlt, hv]
    rw [e] at q
    exact q
end
/-! ### [BadName(xs[0]), ..] -/
def ErrV (H : Hp) (c : Addr × Option Str) (ox : Option V) (a : Addr) : Prop := match c.2 with
  | some f => ∃ v dx, ox = some v ∧ H a = some (exo a c.1 (some dx)) ∧ H dx = some (exd dx [(f, v)])
  | none => H a = some (exo a c.1 none)
theorem ErrV.same {H H' : Hp} {c : Addr × Option Str} {ox : Option V} {a : Addr} (s : Same H H') (h : ErrV H c ox a) : ErrV H' c ox a := by
  obtain ⟨C, o⟩ := c
  cases o with
  | some f =>
    obtain ⟨v, dx, h1, h2, h3⟩ := h
    exact ⟨v, dx, h1, s _ _ h2, s _ _ h3⟩
  | none => exact s _ _ h
def tMks (K : PySem.W.Frag) (i : Nat) (kd : List (Addr × Option Str)) (i0 : Nat) : TA := fun σ H Q => ∃ (r : Addr) (xs : List V), σ[i]? = some (some (.ref r)) ∧ H r = some (.lst xs) ∧ (∀ v ∈ xs, ∃ d, Dp K H v d ∧ sm 3 d) ∧
  (∀ j c f, kd[j]? = some (c, some f) → ∃ v, xs[i0 + j]? = some v) ∧
  ∀ (as : List Addr) (H' : Hp), Same H H' → as.length = kd.length → (∀ j c a, kd[j]? = some c → as[j]? = some a → ErrV H' c xs[i0 + j]? a) → Q (as.map V.ref) H'
section
variable {X : Cx} {es : List Expr} {kd : List (Addr × Option Str)} {C fI cc : Addr} {fd : FuncData} {i : Nat}
theorem mks_nil {i0 : Nat} : PA X [] (tMks X.K i [] i0) := ⟨fun pos pins s σ H Q I h => by
  obtain ⟨_, xs, _, _, _, _, q⟩ := h
  exact pa_nil.run pos pins s σ H Q I (q [] H (Same.refl H) rfl fun j c a h => by simp at h)⟩
theorem mks_rest {K : PySem.W.Frag} {i0 : Nat} {c0 : Addr × Option Str} {a0 : Addr} {σ : St} {H H1 : Hp} {Q : List V → Hp → Prop} {r : Addr} {xs : List V} (s1 : Same H H1) (e0 : σ[i]? = some (some (.ref r))) (er : H r = some (.lst xs)) (hd : ∀ v ∈ xs, ∃ d, Dp K H v d ∧ sm 3 d)
    (hx : ∀ j c f, (c0 :: kd)[j]? = some (c, some f) → ∃ v, xs[i0 + j]? = some v) (hv : ErrV H1 c0 xs[i0]? a0)
    (q : ∀ (as : List Addr) (H' : Hp), Same H H' → as.length = (c0 :: kd).length → (∀ j c a, (c0 :: kd)[j]? = some c → as[j]? = some a → ErrV H' c xs[i0 + j]? a) → Q (as.map V.ref) H') : tMks K i kd (i0 + 1) σ H1 fun vs H2 => Q (.ref a0 :: vs) H2 := by
  refine ⟨r, xs, e0, s1 _ _ er, fun v hv => ?_, fun j c f hc => ?_, fun as H' s2 hl ha => ?_⟩
  · obtain ⟨d, h1, h2⟩ := hd v hv
    exact ⟨d, dp_same s1 _ _ h1, h2⟩
  · have := hx (j + 1) c f hc
    rw [show i0 + (j + 1) = i0 + 1 + j by omega] at this
    exact this
  · refine q (a0 :: as) H' (s1.trans s2) (by rw [List.length_cons, hl, List.length_cons]) fun j c a hc hja => ?_
    cases j with
    | zero =>
      obtain rfl := Option.some.inj hc
      obtain rfl := Option.some.inj hja
      exact hv.same s2
    | succ j =>
      have := ha j c a hc hja
      rw [show i0 + (j + 1) = i0 + 1 + j by omega]
      exact this
theorem mks_cons {x0 n f : Str} {i0 : Nat} {ii : Int} {j : Nat} {p1 p2 p3 p4 p5 : Pos} (h0 : PE X (.Name x0 p2) (tVar i)) (nx : NmOk f) (T : ErrIn X.prog X.K X.mg n f C fI cc fd) (hb : Binds X.K fd ["self", f] []) (hr : Room 2 X.A) (hx : Passes CX0 X (fun _ _ _ => False)) (hg : Gl X n)
    (hi : ii = (i0 : Int)) (hre : PA X es (tMks X.K i kd (i0 + 1))) (hdb : (n == ("__debug__" : Str)) = false := by decide) :
    PA X (.Call (.Name n p1) [.Subscript (.Name x0 p2) (.Constant (.int ii) j p3) p4] [] p5 :: es) (tMks X.K i ((C, some f) :: kd) i0) := by
  subst hi
  refine ⟨fun pos pins s σ H Q I h => ?_⟩
  obtain ⟨r, xs, e0, er, hd, hex, q⟩ := h
  obtain ⟨v, hv⟩ := hex 0 C f rfl
  have hv0 : xs[i0]? = some v := hv
  obtain ⟨d, hd1, hd2⟩ := hd v (List.mem_of_getElem? hv0)
  refine (pa_cons (pe_oex T.o T.iC T.tI (ok_err (base := X.base) (w := X.w) nx T) hr hb hx hg T.gC (pa_cons (pe_ix ix_list h0 pe_int (fun _ _ => rfl)) pa_nil) hdb) hre).run pos pins s σ H Q I ?_
  refine ⟨.ref r, e0, r, _, _, _, rfl, rfl, SqL.of er, atI_nat (j := i0) hv0, Nat.le_of_ble_eq_true rfl, fun a na => ?_⟩
  have s1 : Same H (upd H a (exo a C none)) := same_new na
  refine ⟨a, v, d, rfl, upd_same, dp_same s1 _ _ hd1, hd2, fun dx ndx hne => ⟨rfl, ?_⟩⟩
  have nHdx : H dx = none := by rw [upd_ne hne] at ndx; exact ndx
  have s2 : Same H (upd (upd (upd H a (exo a C none)) dx (exd dx [(f, v)])) a (exo a C (some dx))) := fun b o e => by
    have nb : b ≠ a := ne_of_none e na
    rw [upd_ne nb]
    exact (s1.trans (same_new ndx)) b o e
  refine mks_rest s2 e0 er hd hex ?_ q
  exact ⟨v, dx, hv0, upd_same, by rw [upd_ne hne, upd_same]⟩
theorem mks_cons0 {n : Str} {i0 : Nat} {p1 p5 : Pos} (T : ErrIn0 X.prog X.K X.mg n C fI cc fd) (hb : Binds X.K fd ["self"] []) (hr : Room 2 X.A) (hx : Passes CX0 X (fun _ _ _ => False)) (hg : Gl X n)
    (hre : PA X es (tMks X.K i kd (i0 + 1))) (hdb : (n == ("__debug__" : Str)) = false := by decide) : PA X (.Call (.Name n p1) [] [] p5 :: es) (tMks X.K i ((C, none) :: kd) i0) := by
  refine ⟨fun pos pins s σ H Q I h => ?_⟩
  obtain ⟨r, xs, e0, er, hd, hex, q⟩ := h
  refine (pa_cons (pe_oex0 T.o T.iC T.tI (ok_err0 (base := X.base) (w := X.w) T) hr hb hx hg T.gC hdb) hre).run pos pins s σ H Q I ?_
  refine ⟨by decide, fun a na => ?_⟩
  refine ⟨a, rfl, upd_same, rfl, mks_rest (same_new na) e0 er hd hex ?_ q⟩
  exact upd_same
end
/-! ### the 21 classes together -/
def kinds : List (Str × Option Str) := [("BadName", some "name"), ("BadDeed", some "deed"), ("BadRow", some "number"), ("BadPlace", some "place"), ("BadMode", some "mode"), ("BadContents", some "part"), ("BadTurn", some "turn"), ("BadPair", some "pair"), ("BadText", some "line"),
  ("BadCommand", some "command"), ("NoThing", some "name"), ("NoKey", some "key"), ("NoPart", some "name"), ("NoRow", some "number"), ("NoProbe", some "name"), ("NotNested", some "name"), ("Twice", some "name"), ("Unmatched", some "number"), ("TooMany", some "limit"), ("Watched", none), ("Over", none)]
structure Rec where
  (C fI cc QE : Addr)
  fd : FuncData
/-- one class -/
structure Er (P : Program) (K : PySem.W.Frag) (mg : Str → Option Value) (nk : Str × Option Str) (r : Rec) : Prop where
  c : ErrC K mg nk.1 r.QE r.C
  xf : XfC K r.C
  k : match nk.2 with
    | some x => NmOk x ∧ ErrIn P K mg nk.1 x r.C r.fI r.cc r.fd ∧ Binds K r.fd ["self", x] []
    | none => ErrIn0 P K mg nk.1 r.C r.fI r.cc r.fd ∧ Binds K r.fd ["self"] []
def kind (j : Nat) : Str × Option Str := kinds.getD j ("", none)
def ErAll (P : Program) (K : PySem.W.Frag) (mg : Str → Option Value) (g : Nat → Rec) : Prop := ∀ j, j < 21 → Er P K mg (kind j) (g j)
theorem kind_ne : ∀ i j, i < 21 → j < 21 → i ≠ j → (kind i).1 ≠ (kind j).1 := by
  have h : ∀ i j : Fin 21, i.val ≠ j.val → (kind i.val).1 ≠ (kind j.val).1 := by decide +kernel
  exact fun i j hi hj => h ⟨i, hi⟩ ⟨j, hj⟩
theorem kind_q : ∀ i, i < 21 → (kind i).1 ≠ "QuietError" := by
  have h : ∀ i : Fin 21, (kind i.val).1 ≠ "QuietError" := by decide +kernel
  exact fun i hi => h ⟨i, hi⟩
theorem ErAll.inj {P : Program} {K : PySem.W.Frag} {mg : Str → Option Value} {g : Nat → Rec} (h : ErAll P K mg g) {i j : Nat} (hi : i < 21) (hj : j < 21) (e : (g i).C = (g j).C) : i = j := by
  by_cases q : i = j
  · exact q
  · exact absurd e ((h i hi).c.ne (h j hj).c (kind_ne i j hi hj q))
theorem ErAll.kit {P : Program} {K : PySem.W.Frag} {mg : Str → Option Value} {g : Nat → Rec} (h : ErAll P K mg g) {i j : Nat} (hi : i < 21) (hj : j < 21) : PySem.W.kitOne K (.ref (g i).C) (.ref (g j).C) = some (decide (j = i)) := by
  have q := (h i hi).c.oneQ (h j hj).c
  rw [kit_err (h i hi).c (h j hj).c (by rw [← q]; exact (h j hj).c.neQ (kind_q j hj))]
  congr 1
  by_cases e : j = i
  · subst e; simp
  · rw [decide_eq_false e, decide_eq_false fun z => e (h.inj hj hi z)]
def spCls (g : Nat → Rec) : Sp := fun vs H Q _ => ∃ (i : Nat) (a : Addr) (d : Option Addr), vs = [.ref a] ∧ i < 21 ∧ H a = some (exo a (g i).C d) ∧ (∀ dx, d = some dx → ∃ fs, H dx = some (exd dx fs)) ∧
  ∀ y, H y = none → Q (.ref y) (upd H y (.lst ((List.range 21).map fun j => .bl (decide (j = i)))))
def spAts (g : Nat → Rec) : Sp := fun vs H Q _ => ∃ (r : Addr) (as : List Addr) (xs : List V), vs = [.ref r] ∧ H r = some (.lst (as.map V.ref)) ∧ xs.length = 19 ∧
  (∀ j, j < 19 → ∃ a, as[j]? = some a ∧ ErrV H ((g j).C, (kind j).2) xs[j]? a) ∧ ∀ y, H y = none → Q (.ref y) (upd H y (.lst xs))
section
variable {P : Program} {w : World} {K : PySem.W.Frag} {mg : Str → Option Value} {base : Heap}
theorem scC : FnScope ["error"] ["error"] (defScope sClasses) := ⟨rfl, rfl, rfl, by decide +kernel, rfl, by decide +kernel, by decide +kernel⟩
theorem ok_cls {f : Addr} {fd : FuncData} {k : Nat} {g : Nat → Rec} (F : Fun K "_law_classes" "_law_classes" sClasses f fd) (G : ErAll P K mg g) (mi : mg "isinstance" = none) : FnOk P w K mg base CX0 (k + 1) f fd ["error"] (spCls g) := by
  refine F.ok scC (fun vs H Q E h => ?_) (fun cdv A outer s H vs Q E hr h => ?_)
  · obtain ⟨i, a, d, rfl, _⟩ := h
    rfl
  · obtain ⟨i, a, d, rfl, hi, ha, hd, kk⟩ := h
    have c : ∀ j, j < 21 → mg (kind j).1 = some (.ref (g j).C) := fun j hj => (G j hj).c.m
    refine ⟨_, pss_one (ps_ret (pe_lst
      (iss_cons (pv 0) (by rfl) mi (by rfl) (c 0 (by decide)) (iss_cons (pv 0) (by rfl) mi (by rfl) (c 1 (by decide)) (iss_cons (pv 0) (by rfl) mi (by rfl) (c 2 (by decide)) (iss_cons (pv 0) (by rfl) mi (by rfl) (c 3 (by decide))
      (iss_cons (pv 0) (by rfl) mi (by rfl) (c 4 (by decide)) (iss_cons (pv 0) (by rfl) mi (by rfl) (c 5 (by decide)) (iss_cons (pv 0) (by rfl) mi (by rfl) (c 6 (by decide)) (iss_cons (pv 0) (by rfl) mi (by rfl) (c 7 (by decide))
      (iss_cons (pv 0) (by rfl) mi (by rfl) (c 8 (by decide)) (iss_cons (pv 0) (by rfl) mi (by rfl) (c 9 (by decide)) (iss_cons (pv 0) (by rfl) mi (by rfl) (c 10 (by decide)) (iss_cons (pv 0) (by rfl) mi (by rfl) (c 11 (by decide))
      (iss_cons (pv 0) (by rfl) mi (by rfl) (c 12 (by decide)) (iss_cons (pv 0) (by rfl) mi (by rfl) (c 13 (by decide)) (iss_cons (pv 0) (by rfl) mi (by rfl) (c 14 (by decide)) (iss_cons (pv 0) (by rfl) mi (by rfl) (c 15 (by decide))
      (iss_cons (pv 0) (by rfl) mi (by rfl) (c 16 (by decide)) (iss_cons (pv 0) (by rfl) mi (by rfl) (c 17 (by decide)) (iss_cons (pv 0) (by rfl) mi (by rfl) (c 18 (by decide)) (iss_cons (pv 0) (by rfl) mi (by rfl) (c 19 (by decide))
      (iss_cons (pv 0) (by rfl) mi (by rfl) (c 20 (by decide)) iss_nil))))))))))))))))))))))), ?_⟩
    have el : ∀ {β : Type} (f : Addr → β), [(g 0).C, (g 1).C, (g 2).C, (g 3).C, (g 4).C, (g 5).C, (g 6).C, (g 7).C, (g 8).C, (g 9).C, (g 10).C, (g 11).C, (g 12).C, (g 13).C, (g 14).C, (g 15).C, (g 16).C, (g 17).C, (g 18).C, (g 19).C, (g 20).C].map f = (List.range 21).map fun j => f (g j).C := fun f => rfl
    refine ⟨a, (g i).C, d, rfl, ha, hd, (G i hi).c.is, fun c hc => ?_, by show 21 ≤ sizeLine; decide, fun y ny => ?_⟩
    · have : c ∈ (List.range 21).map fun j => (g j).C := by rw [← el (fun c => c)]; simpa using hc
      obtain ⟨j, hj, rfl⟩ := List.mem_map.mp this
      have hj := List.mem_range.mp hj
      refine (G.kit hi hj).trans ?_
      congr 1
      by_cases e : j = i
      · subst e; simp
      · rw [decide_eq_false e, decide_eq_false fun z => e (G.inj hj hi z)]
    · rw [el]
      have := kk y ny
      have e2 : ((List.range 21).map fun j => V.bl (decide ((g j).C = (g i).C))) = (List.range 21).map fun j => V.bl (decide (j = i)) := by
        refine List.map_congr_left fun j hj => ?_
        have hj := List.mem_range.mp hj
        congr 1
        by_cases e : j = i
        · subst e; simp
        · rw [decide_eq_false e, decide_eq_false fun z => e (G.inj hj hi z)]
      rw [e2]
      exact this
theorem scA : FnScope ["errors"] ["errors"] (defScope sAttrs) := ⟨rfl, rfl, rfl, by decide +kernel, rfl, by decide +kernel, by decide +kernel⟩
theorem ok_ats {f : Addr} {fd : FuncData} {k : Nat} {g : Nat → Rec} (F : Fun K "_law_attributes" "_law_attributes" sAttrs f fd) (G : ErAll P K mg g) : FnOk P w K mg base CX0 (k + 1) f fd ["errors"] (spAts g) := by
  refine F.ok scA (fun vs H Q E h => ?_) (fun cdv A outer s H vs Q E hr h => ?_)
  · obtain ⟨r, as, xs, rfl, _⟩ := h
    rfl
  · obtain ⟨r, as, xs, rfl, er, hl, ha, kk⟩ := h
    have x : ∀ j, j < 19 → XfC K (g j).C := fun j hj => (G j (by omega)).xf
    have n : ∀ (j : Nat) (hj : j < 19) (c : Str × Option Str) (f : Str), kind j = c → c.2 = some f → PySem.W.findIn K (.ref (g j).C) f = some none := fun j hj c f e1 e2 => by
      have := (G j (by omega)).k
      rw [e1, e2] at this
      exact this.2.1.noX
    refine ⟨_, pss_one (ps_ret (pe_lst
      (att_cons (pv 0) (x 0 (by decide)) (n 0 (by decide) _ _ rfl rfl) rfl (att_cons (pv 0) (x 1 (by decide)) (n 1 (by decide) _ _ rfl rfl) rfl (att_cons (pv 0) (x 2 (by decide)) (n 2 (by decide) _ _ rfl rfl) rfl
      (att_cons (pv 0) (x 3 (by decide)) (n 3 (by decide) _ _ rfl rfl) rfl (att_cons (pv 0) (x 4 (by decide)) (n 4 (by decide) _ _ rfl rfl) rfl (att_cons (pv 0) (x 5 (by decide)) (n 5 (by decide) _ _ rfl rfl) rfl
      (att_cons (pv 0) (x 6 (by decide)) (n 6 (by decide) _ _ rfl rfl) rfl (att_cons (pv 0) (x 7 (by decide)) (n 7 (by decide) _ _ rfl rfl) rfl (att_cons (pv 0) (x 8 (by decide)) (n 8 (by decide) _ _ rfl rfl) rfl
      (att_cons (pv 0) (x 9 (by decide)) (n 9 (by decide) _ _ rfl rfl) rfl (att_cons (pv 0) (x 10 (by decide)) (n 10 (by decide) _ _ rfl rfl) rfl (att_cons (pv 0) (x 11 (by decide)) (n 11 (by decide) _ _ rfl rfl) rfl
      (att_cons (pv 0) (x 12 (by decide)) (n 12 (by decide) _ _ rfl rfl) rfl (att_cons (pv 0) (x 13 (by decide)) (n 13 (by decide) _ _ rfl rfl) rfl (att_cons (pv 0) (x 14 (by decide)) (n 14 (by decide) _ _ rfl rfl) rfl
      (att_cons (pv 0) (x 15 (by decide)) (n 15 (by decide) _ _ rfl rfl) rfl (att_cons (pv 0) (x 16 (by decide)) (n 16 (by decide) _ _ rfl rfl) rfl (att_cons (pv 0) (x 17 (by decide)) (n 17 (by decide) _ _ rfl rfl) rfl
      (att_cons (i0 := 18) (pv 0) (x 18 (by decide)) (n 18 (by decide) _ _ rfl rfl) rfl (att_nil (i0 := 19))))))))))))))))))))))), ?_⟩
    refine ⟨r, as, xs, rfl, er, hl, fun j c hc => ?_, by rw [List.drop_zero, hl]; decide, fun y ny => by rw [List.drop_zero]; exact kk y ny⟩
    have hj : j < 19 := (List.getElem?_eq_some_iff.mp hc).1
    have e : (List.range 19)[j]? = some j := by rw [List.getElem?_range hj]
    obtain ⟨a, h1, h2⟩ := ha j hj
    have hc' : ((List.range 19).map fun j => ((g j).C, ((kind j).2.getD "")))[j]? = some c := hc
    rw [List.getElem?_map, e] at hc'
    obtain rfl := Option.some.inj hc'
    rw [Nat.zero_add]
    have hk : ∃ f, (kind j).2 = some f := by
      have h : ∀ j : Fin 19, (kind j.val).2.isSome = true := by decide +kernel
      exact Option.isSome_iff_exists.mp (h ⟨j, hj⟩)
    obtain ⟨f, hf⟩ := hk
    rw [hf] at h2
    obtain ⟨v, dx, e1, e2, e3⟩ := h2
    exact ⟨a, dx, v, h1, e1, e2, by
      show H dx = some (exd dx [((kind j).2.getD "", v)])
      rw [hf]; exact e3⟩
end
/-! ### the law -/
theorem sm_dp : ∀ (m : Nat) (d : PyData), sm m d → dp m d
  | 0, _, h => by simp [sm] at h
  | m + 1, d, h => by
    cases d with
    | none => simp [dp]
    | bool b => simp [dp]
    | int i => simp [dp]
    | str s => simp [dp]
    | list xs =>
      simp only [sm] at h
      simp only [dp]
      exact ⟨by omega, fun x hx => sm_dp m x (h.2 x hx)⟩
    | tuple xs =>
      simp only [sm] at h
      simp only [dp]
      exact ⟨by omega, fun x hx => sm_dp m x (h.2 x hx)⟩
    | dict xs => simp [sm] at h
def blsD (n i : Nat) : List PyData := (List.range n).map fun j => .bool (decide (j = i))
def blsV (n i : Nat) : List V := (List.range n).map fun j => .bl (decide (j = i))
theorem bls_dp {K : PySem.W.Frag} {H : Hp} (i : Nat) : ∀ l : List Nat, DpAll K H (l.map fun j => V.bl (decide (j = i))) (l.map fun j => PyData.bool (decide (j = i)))
  | [] => .nil
  | _ :: r => .cons (.bl _) (bls_dp i r)
theorem bls_ok : ∀ i, i < 21 → SeqAt.shaped (.list (blsD 21 i)) = true ∧ PyData.eqv (.list (blsD 21 i)) (.list (blsD 21 i)) = true := by
  have h : ∀ i : Fin 21, SeqAt.shaped (.list (blsD 21 i.val)) = true ∧ PyData.eqv (.list (blsD 21 i.val)) (.list (blsD 21 i.val)) = true := by decide +kernel
  exact fun i hi => h ⟨i, hi⟩
theorem kind_some : ∀ j f, j < 21 → (kind j).2 = some f → j < 19 := by
  have h : ∀ j : Fin 21, (kind j.val).2.isSome = true → j.val < 19 := by decide +kernel
  exact fun j f hj e => h ⟨j, hj⟩ (by rw [e]; rfl)
def kdl (g : Nat → Rec) : List (Addr × Option Str) := (List.range 21).map fun j => ((g j).C, (kind j).2)
def spLaw (K : PySem.W.Frag) : Sp := fun vs H Q _ => ∃ (a : Addr) (ns : List Int), vs = [.ref a] ∧ SqL K H a (ns.map V.int) ∧ ns.length ≤ 63 ∧ ∀ H', Q (.bl true) H'
section
variable {P : Program} {w : World} {K : PySem.W.Frag} {mg : Str → Option Value} {base : Heap}
theorem scL : FnScope ["script", "pool", "k", "xs", "errors", "j"] ["script"] (defScope sLaw) := ⟨rfl, rfl, rfl, by decide +kernel, rfl, by decide +kernel, by decide +kernel⟩
/-- the defs that the law calls -/
structure Defs (P : Program) (w : World) (K : PySem.W.Frag) (mg : Str → Option Value) (base : Heap) (g : Nat → Rec) where
  (fP fO fS fC fA : Addr)
  (dP dO dS dC dA : FuncData)
  gP : FnOk P w K mg base CX0 1 fP dP ["script"] (spPool K)
  gO : FnOk P w K mg base CX0 5 fO dO ["pool", "depth"] (spObj K 3)
  gS : FnOk P w K mg base CX0 4 fS dS ["actual", "due"] (spSame K 4)
  gC : FnOk P w K mg base CX0 1 fC dC ["error"] (spCls g)
  gA : FnOk P w K mg base CX0 1 fA dA ["errors"] (spAts g)
  bP : Binds K dP ["script"] []
  bO : Binds K dO ["pool", "depth"] []
  bS : Binds K dS ["actual", "due"] []
  bC : Binds K dC ["error"] []
  bA : Binds K dA ["errors"] []
  mP : mg "_law_pool" = some (.ref fP)
  mO : mg "_law_object" = some (.ref fO)
  mS : mg "_law_same" = some (.ref fS)
  mC : mg "_law_classes" = some (.ref fC)
  mA : mg "_law_attributes" = some (.ref fA)
  kP : PySem.W.keepIn K (.ref fP) = true
  kO : PySem.W.keepIn K (.ref fO) = true
  kS : PySem.W.keepIn K (.ref fS) = true
  kC : PySem.W.keepIn K (.ref fC) = true
  kA : PySem.W.keepIn K (.ref fA) = true
theorem ok_law {f : Addr} {fd : FuncData} {g : Nat → Rec} (F : Fun K "law" "law" sLaw f fd) (G : Defs P w K mg base g) (R : ErAll P K mg g) (B : Bts mg) (mV : mg "ValueError" = none) (mL : mg "LookupError" = none) : FnOk P w K mg base CX0 6 f fd ["script"] (spLaw K) := by
  refine F.ok scL (fun vs H Q E h => ?_) (fun cdv A outer s H vs Q E hr h => ?_)
  · obtain ⟨a, ns, rfl, _⟩ := h
    rfl
  · obtain ⟨a, ns, rfl, hS, hlen, kk⟩ := h
    have hr1 : Room 1 _ := hr.mono (by decide)
    have hr2 : Room 2 _ := hr.mono (by decide)
    have hr4 : Room 4 _ := hr.mono (by decide)
    have q : ∀ (j : Nat) (hj : j < 21) (n x : Str), kind j = (n, some x) → NmOk x ∧ ErrIn P K mg n x (g j).C (g j).fI (g j).cc (g j).fd ∧ Binds K (g j).fd ["self", x] [] := fun j hj n x e => by
      have := (R j hj).k
      rw [e] at this
      exact this
    have q0 : ∀ (j : Nat) (hj : j < 21) (n : Str), kind j = (n, none) → ErrIn0 P K mg n (g j).C (g j).fI (g j).cc (g j).fd ∧ Binds K (g j).fd ["self"] [] := fun j hj n e => by
      have := (R j hj).k
      rw [e] at this
      exact this
    refine ⟨_, pss_cons (ps_set (i := 1) scL.nd rfl (.inr rfl) (pe_call G.gP hr1 (by rfl) G.mP G.kP G.bP .nil pass0 (pa_cons (pv 0) pa_nil)))
      (pss_cons (ps_setLc (i := 3) (own := [("k", 2)]) (g := gName 2) (tt := tYes) rfl scL.nd rfl rfl rfl (pi_range1 (by rfl) B.range (pa_cons pe_int pa_nil))
          (blkOk_by (N := ["script", "pool", "k", "xs", "errors", "j"]) (sc := defScope sLaw) (by decide +kernel)) (fun _ _ _ _ _ => pg_name (i := 2) scL.nd rfl (.inl rfl)) (fun _ _ _ _ _ => pts_nil)
          (fun _ _ _ _ _ => pe_call G.gO hr (by rfl) G.mO G.kO G.bO .nil pass0 (pa_cons (pv 1) (pa_cons pe_int pa_nil))))
      (pss_cons (ps_set (i := 4) scL.nd rfl (.inl rfl) (pe_lst
        (mks_cons (pv 3) (q 0 (by decide) _ _ rfl).1 (q 0 (by decide) _ _ rfl).2.1 (q 0 (by decide) _ _ rfl).2.2 hr2 pass0 (by rfl) rfl
        (mks_cons (pv 3) (q 1 (by decide) _ _ rfl).1 (q 1 (by decide) _ _ rfl).2.1 (q 1 (by decide) _ _ rfl).2.2 hr2 pass0 (by rfl) rfl
        (mks_cons (pv 3) (q 2 (by decide) _ _ rfl).1 (q 2 (by decide) _ _ rfl).2.1 (q 2 (by decide) _ _ rfl).2.2 hr2 pass0 (by rfl) rfl
        (mks_cons (pv 3) (q 3 (by decide) _ _ rfl).1 (q 3 (by decide) _ _ rfl).2.1 (q 3 (by decide) _ _ rfl).2.2 hr2 pass0 (by rfl) rfl
        (mks_cons (pv 3) (q 4 (by decide) _ _ rfl).1 (q 4 (by decide) _ _ rfl).2.1 (q 4 (by decide) _ _ rfl).2.2 hr2 pass0 (by rfl) rfl
        (mks_cons (pv 3) (q 5 (by decide) _ _ rfl).1 (q 5 (by decide) _ _ rfl).2.1 (q 5 (by decide) _ _ rfl).2.2 hr2 pass0 (by rfl) rfl
        (mks_cons (pv 3) (q 6 (by decide) _ _ rfl).1 (q 6 (by decide) _ _ rfl).2.1 (q 6 (by decide) _ _ rfl).2.2 hr2 pass0 (by rfl) rfl
        (mks_cons (pv 3) (q 7 (by decide) _ _ rfl).1 (q 7 (by decide) _ _ rfl).2.1 (q 7 (by decide) _ _ rfl).2.2 hr2 pass0 (by rfl) rfl
        (mks_cons (pv 3) (q 8 (by decide) _ _ rfl).1 (q 8 (by decide) _ _ rfl).2.1 (q 8 (by decide) _ _ rfl).2.2 hr2 pass0 (by rfl) rfl
        (mks_cons (pv 3) (q 9 (by decide) _ _ rfl).1 (q 9 (by decide) _ _ rfl).2.1 (q 9 (by decide) _ _ rfl).2.2 hr2 pass0 (by rfl) rfl
        (mks_cons (pv 3) (q 10 (by decide) _ _ rfl).1 (q 10 (by decide) _ _ rfl).2.1 (q 10 (by decide) _ _ rfl).2.2 hr2 pass0 (by rfl) rfl
        (mks_cons (pv 3) (q 11 (by decide) _ _ rfl).1 (q 11 (by decide) _ _ rfl).2.1 (q 11 (by decide) _ _ rfl).2.2 hr2 pass0 (by rfl) rfl
        (mks_cons (pv 3) (q 12 (by decide) _ _ rfl).1 (q 12 (by decide) _ _ rfl).2.1 (q 12 (by decide) _ _ rfl).2.2 hr2 pass0 (by rfl) rfl
        (mks_cons (pv 3) (q 13 (by decide) _ _ rfl).1 (q 13 (by decide) _ _ rfl).2.1 (q 13 (by decide) _ _ rfl).2.2 hr2 pass0 (by rfl) rfl
        (mks_cons (pv 3) (q 14 (by decide) _ _ rfl).1 (q 14 (by decide) _ _ rfl).2.1 (q 14 (by decide) _ _ rfl).2.2 hr2 pass0 (by rfl) rfl
        (mks_cons (pv 3) (q 15 (by decide) _ _ rfl).1 (q 15 (by decide) _ _ rfl).2.1 (q 15 (by decide) _ _ rfl).2.2 hr2 pass0 (by rfl) rfl
        (mks_cons (pv 3) (q 16 (by decide) _ _ rfl).1 (q 16 (by decide) _ _ rfl).2.1 (q 16 (by decide) _ _ rfl).2.2 hr2 pass0 (by rfl) rfl
        (mks_cons (pv 3) (q 17 (by decide) _ _ rfl).1 (q 17 (by decide) _ _ rfl).2.1 (q 17 (by decide) _ _ rfl).2.2 hr2 pass0 (by rfl) rfl
        (mks_cons (pv 3) (q 18 (by decide) _ _ rfl).1 (q 18 (by decide) _ _ rfl).2.1 (q 18 (by decide) _ _ rfl).2.2 hr2 pass0 (by rfl) rfl
        (mks_cons0 (q0 19 (by decide) _ rfl).1 (q0 19 (by decide) _ rfl).2 hr2 pass0 (by rfl)
        (mks_cons0 (i0 := 20) (q0 20 (by decide) _ rfl).1 (q0 20 (by decide) _ rfl).2 hr2 pass0 (by rfl) (mks_nil (i0 := 21)))))))))))))))))))))))))
      (pss_cons (ps_if (pt_not (pt_val (pe_call G.gS hr4 (by rfl) G.mS G.kS G.bS .nil pass0 (pa_cons (pe_call G.gA hr1 (by rfl) G.mA G.kA G.bA .nil pass0 (pa_cons (pv 4) pa_nil)) (pa_cons (pv 3) pa_nil))))) (pss_one (ps_ret pe_bl)) pss_nil)
      (pss_cons (ps_for PassesOwn.never rfl (pi_range1 rfl B.range (pa_cons pe_int pa_nil)) (pg_name (i := 2) scL.nd rfl (.inr rfl))
        (pss_cons (ps_if (pt_cmpR (op_neD hr.units) (pe_call G.gC hr1 (by rfl) G.mC G.kC G.bC .nil pass0 (pa_cons (pe_ix ix_list (pv 4) (pv 2) (fun _ _ => rfl)) pa_nil))
            (pe_lc (own := [("j", 5)]) (g := gName 5) (tt := tYes) rfl scL.nd (pi_range1 (by rfl) B.range (pa_cons pe_int pa_nil)) (blkOk_by (N := ["script", "pool", "k", "xs", "errors", "j"]) (sc := defScope sLaw) (by decide +kernel))
              (fun _ _ _ _ _ => pg_name (i := 5) scL.nd rfl (.inl rfl)) (fun _ _ _ _ _ => pts_nil) (fun _ _ _ _ _ => pe_cmpR op_eq (pv 5) (pv 2) (nomark _))) rfl) (pss_one (ps_ret pe_bl)) pss_nil)
        (pss_cons (ps_if (PW.pt (pw_or (pt_not (pt_val (pe_callB call_isEx (by rfl) B.isinstance (by decide +kernel) (pa_cons (pe_ix ix_list (pv 4) (pv 2) (fun _ _ => rfl)) (pa_cons (pe_glob (v := .ref (g 0).QE) rfl (R 0 (by decide)).c.mQ rfl) pa_nil)))))
              (pw_or1 (pt_not (pt_val (pe_callB call_isEx (by rfl) B.isinstance (by decide +kernel) (pa_cons (pe_ix ix_list (pv 4) (pv 2) (fun _ _ => rfl)) (pa_cons (pe_bltn (v := .ty "ValueError") (by rfl) mV (by decide +kernel) rfl) pa_nil)))))))) (pss_one (ps_ret pe_bl)) pss_nil)
        (pss_one (ps_if (PW.pt (pw_or (pt_val (pe_callB call_isEx (by rfl) B.isinstance (by decide +kernel) (pa_cons (pe_ix ix_list (pv 4) (pv 2) (fun _ _ => rfl)) (pa_cons (pe_bltn (v := .ty "LookupError") (by rfl) mL (by decide +kernel) rfl) pa_nil))))
              (pw_or1 (pt_val (pe_callB call_isEx (by rfl) B.isinstance (by decide +kernel) (pa_cons (pe_ix ix_list (pv 4) (pv 2) (fun _ _ => rfl)) (pa_cons (pe_bltn (v := .ty "str") (by rfl) B.str (by decide +kernel) rfl) pa_nil))))))) (pss_one (ps_ret pe_bl)) pss_nil)))))
      (pss_one (ps_ret pe_bl)))))), ?_⟩
    have eR : ∀ j, j < 21 → (kdl g)[j]? = some ((g j).C, (kind j).2) := fun j hj => by
      have e : (List.range 21)[j]? = some j := by rw [List.getElem?_range hj]
      unfold kdl
      rw [List.getElem?_map, e]; rfl
    have lR : ∀ j c, (kdl g)[j]? = some c → j < 21 := fun j c h => by
      have := (List.getElem?_eq_some_iff.mp h).1
      unfold kdl at this
      rw [List.length_map, List.length_range] at this
      exact this
    refine ⟨.ref a, rfl, a, ns, rfl, hS, hlen, fun p q H1 np nq P1 s1 => ?_⟩
    -- xs
    refine ⟨19, rfl, by decide, by decide, fun D nD => ?_⟩
    obtain ⟨op, ep⟩ := P1.p_some
    obtain ⟨oq, eq⟩ := P1.q_some
    have nDp : D ≠ p := (ne_of_none ep nD).symm
    have nDq : D ≠ q := (ne_of_none eq nD).symm
    refine lc_range (lo := 0) (n := 19) (fun i H2 => ∃ (vs : List V) (ds : List PyData) (n3 : Nat), H2 D = some (.lst vs) ∧ vs.length = i ∧ DpAll K (mask [D, p, q] H2) vs ds ∧ (∀ x ∈ ds, sm 3 x) ∧ n3 ≤ 1000 * i ∧ PoolAt H2 p q n3)
      ⟨[], [], 0, upd_same, rfl, .nil, fun x hx => (by cases hx), by omega, P1.new nD⟩ (fun i H2 hi hI => ?_) (fun H2 hI => ?_)
    · obtain ⟨vs, ds, n3, eD, el, hds, hsm, hn3, P2⟩ := hI
      refine ⟨rfl, ?_⟩
      have e780 : obB 3 = 780 := rfl
      refine ⟨_, rfl, p, q, n3, [D, p, q], rfl, by decide, by decide, P2, by simp, by simp, ?_, by omega, fun v d4 n4 H4 hv hd4 a4 b4 P4 K4 => ?_⟩
      · intro x hx
        rcases List.mem_cons.mp hx with rfl | hx
        · exact ⟨_, eD⟩
        · exact P2.alive x hx
      · have eD4 : H4 D = some (.lst vs) := K4 D _ nDp nDq eD
        refine ⟨vs, eD4, small1000 (by omega), vs ++ [v], ds ++ [d4], n4, upd_same, by rw [List.length_append, el]; rfl, ?_, fun x hx => ?_, by omega, ?_⟩
        · refine dpAll_app (dpAll_same ((Keeps.maskL (by simp) (by simp) K4).trans (mask_at List.mem_cons_self)) _ _ hds) (.cons (dp_same (mask_at List.mem_cons_self) _ _ hv) .nil)
        · rcases List.mem_append.mp hx with hx | hx
          · exact hsm x hx
          · rw [List.mem_singleton.mp hx]; exact hd4
        · obtain ⟨npq, cs, b, c0, e1, e2, r⟩ := P4
          exact ⟨npq, cs, b, c0, by rw [upd_ne nDp.symm]; exact e1, by rw [upd_ne nDq.symm]; exact e2, r⟩
    · obtain ⟨vs, ds, n3, eD, el, hds, hsm, hn3, P2⟩ := hI
      have hds2 : DpAll K H2 vs ds := dpAll_same (mask_sub _ _) _ _ hds
      have ls : ds.length = 19 := by rw [← dpAll_len hds, el]
      -- errors
      refine ⟨D, vs, rfl, eD, fun v hv => ?_, fun j c f hk => ?_, fun as H5 s5 la hev => ?_⟩
      · obtain ⟨j, hj⟩ := List.getElem?_of_mem hv
        obtain ⟨d, e1, e2⟩ := dpAll_at hds2 hj
        exact ⟨d, e2, hsm d (List.mem_of_getElem? e1)⟩
      · have hk : (kdl g)[j]? = some (c, some f) := hk
        have hj := lR j _ hk
        rw [eR j hj] at hk
        have h19 := kind_some j f hj (by
          have := Option.some.inj hk
          exact (Prod.mk.inj this).2)
        rw [Nat.zero_add]
        exact ⟨_, List.getElem?_eq_getElem (by omega)⟩
      · have la' : as.length = 21 := la
        refine ⟨by rw [List.length_map, la']; decide, fun r nr => ?_⟩
        have er : (upd H5 r (.lst (as.map V.ref))) r = some (.lst (as.map V.ref)) := upd_same
        have s6 : Same H2 (upd H5 r (.lst (as.map V.ref))) := s5.trans (same_new nr)
        have hev6 : ∀ j, j < 21 → ∃ a, as[j]? = some a ∧ ErrV (upd H5 r (.lst (as.map V.ref))) ((g j).C, (kind j).2) vs[j]? a := fun j hj => by
          refine ⟨as[j]'(by omega), List.getElem?_eq_getElem (by omega), ?_⟩
          have := hev j _ _ (eR j hj) (List.getElem?_eq_getElem (by omega))
          rw [Nat.zero_add] at this
          exact this.same (same_new nr)
        generalize upd H5 r (.lst (as.map V.ref)) = H6 at *
        -- the attributes
        refine ⟨_, rfl, r, as, vs, rfl, er, el, fun j hj => hev6 j (by omega), fun y ny => ?_⟩
        have s7 : Same H2 (upd H6 y (.lst vs)) := s6.trans (same_new ny)
        have hds7 := dpAll_same s7 _ _ hds2
        refine ⟨_, rfl, .ref y, .ref D, .list ds, rfl, .lst (SqL.of upd_same) hds7, .lst (SqL.of (s7 _ _ eD)) hds7, ?_, _, rfl, iteF ?_⟩
        · simp only [dp]
          exact ⟨by omega, fun x hx => sm_dp 3 x (hsm x hx)⟩
        have er7 : (upd H6 y (.lst vs)) r = some (.lst (as.map V.ref)) := same_new ny _ _ er
        have hev7 : ∀ j, j < 21 → ∃ a, as[j]? = some a ∧ ErrV (upd H6 y (.lst vs)) ((g j).C, (kind j).2) vs[j]? a := fun j hj => by
          obtain ⟨a, h1, h2⟩ := hev6 j hj
          exact ⟨a, h1, h2.same (same_new ny)⟩
        generalize upd H6 y (.lst vs) = H7 at *
        -- each in turn
        refine ⟨21, rfl, by decide, by decide, for_range (lo := 0) (n := 21) (fun i σ H => ∃ y2 y5 : Option V, σ = [some (.ref a), some (.ref p), y2, some (.ref D), some (.ref r), y5] ∧ Same H7 H) ⟨none, none, rfl, Same.refl _⟩ ?_ ?_⟩
        · rintro i σ H8 hi ⟨y2, y5, rfl, s8⟩
          obtain ⟨ai, h1, h2⟩ := hev7 i hi
          have ei : (0 : Int) + (i : Int) = ((i : Nat) : Int) := by omega
          have h1' : (as.map V.ref)[i]? = some (.ref ai) := by rw [List.getElem?_map, h1]; rfl
          obtain ⟨d, hx⟩ : ∃ d : Option Addr, ∀ H9, Same H7 H9 → H9 ai = some (exo ai (g i).C d) ∧ ∀ dx, d = some dx → ∃ fs, H9 dx = some (exd dx fs) := by
            unfold ErrV at h2
            cases hk : (kind i).2 with
            | some f =>
              rw [hk] at h2
              obtain ⟨v, dx, _, e2, e3⟩ := h2
              exact ⟨some dx, fun H9 s9 => ⟨s9 _ _ e2, fun dx' e => by
                obtain rfl := Option.some.inj e
                exact ⟨_, s9 _ _ e3⟩⟩⟩
            | none =>
              rw [hk] at h2
              exact ⟨none, fun H9 s9 => ⟨s9 _ _ h2, fun dx' e => (by cases e)⟩⟩
          rw [ei]
          have T := (R i hi).c
          have oneQ : (g 0).QE = (g i).QE := T.oneQ (R 0 (by decide)).c
          obtain ⟨x8, xd8⟩ := hx H8 s8
          refine ⟨_, rfl, _, rfl, r, _, _, _, rfl, rfl, SqL.of (s8 _ _ er7), atI_nat (j := i) h1', i, ai, d, rfl, hi, x8, xd8, fun z nz => ?_⟩
          refine ⟨21, rfl, by decide, by decide, fun D2 nD2 => ?_⟩
          refine lc_range (lo := 0) (n := 21) (fun m H => ∃ acc : List V, H D2 = some (.lst acc) ∧ acc.length = m ∧ acc = blsV m i ∧ Same (upd H8 z (.lst (blsV 21 i))) H)
            ⟨[], upd_same, rfl, rfl, same_new nD2⟩ (fun m H9 hm hI => ?_) (fun H9 hI => ?_)
          · obtain ⟨acc, eD2, el2, ea, s9⟩ := hI
            refine ⟨rfl, ?_⟩
            refine ⟨_, rfl, _, rfl, rfl, acc, eD2, small1000 (by omega), acc ++ [_], upd_same, by rw [List.length_append, el2]; rfl, ?_, fun b o e => ?_⟩
            · rw [ea]
              unfold blsV
              rw [List.range_succ, List.map_append]
              congr 2
              have : (V.int (0 + (m : Int)) = V.int (i : Int)) ↔ m = i := by
                constructor
                · intro e
                  have := V.int.inj e
                  omega
                · rintro rfl
                  rw [Int.zero_add]
              simp only [this]
            · have nb : b ≠ D2 := ne_of_none e nD2
              rw [upd_ne nb]
              exact s9 b o e
          · obtain ⟨acc, eD2, el2, rfl, s9⟩ := hI
            obtain ⟨sh, eqv⟩ := bls_ok i hi
            have ez : H9 z = some (.lst (blsV 21 i)) := s9 _ _ upd_same
            refine ⟨.list (blsD 21 i), .list (blsD 21 i), .lst (SqL.of ez) (bls_dp i _), .lst (SqL.of eD2) (bls_dp i _), sh, sh, _, rfl, ?_⟩
            rw [eqv]
            refine iteF ?_
            have s10 : Same H7 H9 := (s8.trans (same_new nz)).trans s9
            obtain ⟨x9, xd9⟩ := hx H9 s10
            have ixr := SqL.of (K := K) (s10 _ _ er7)
            have neQ : (g i).C ≠ (g i).QE := T.neQ (kind_q i hi)
            have kQ : PySem.W.kitOne K (.ref (g i).C) (.ref (g 0).QE) = some true := by rw [oneQ]; exact kit_base T neQ
            have kV : PySem.W.kitOne K (.ref (g i).C) (.type "ValueError") = some true := kit_ty' T "ValueError" (by decide +kernel)
            have kL : PySem.W.kitOne K (.ref (g i).C) (.type "LookupError") = some false := kit_ty' T "LookupError" (by decide +kernel)
            have kS : PySem.W.kitOne K (.ref (g i).C) (.type "str") = some false := kit_ty' T "str" (by decide +kernel)
            refine ⟨_, rfl, _, rfl, r, _, _, _, rfl, rfl, ixr, atI_nat (j := i) h1', ai, _, d, _, _, _, rfl, x9, xd9, T.is, .own _, kQ, _, rfl, iteF ?_⟩
            refine ⟨_, rfl, _, rfl, r, _, _, _, rfl, rfl, ixr, atI_nat (j := i) h1', ai, _, d, _, _, _, rfl, x9, xd9, T.is, .ty _, kV, _, rfl, iteF ?_⟩
            refine ⟨_, rfl, _, rfl, r, _, _, _, rfl, rfl, ixr, atI_nat (j := i) h1', ai, _, d, _, _, _, rfl, x9, xd9, T.is, .ty _, kL, _, rfl, iteF ?_⟩
            refine ⟨_, rfl, _, rfl, r, _, _, _, rfl, rfl, ixr, atI_nat (j := i) h1', ai, _, d, _, _, _, rfl, x9, xd9, T.is, .ty _, kS, _, rfl, iteF ?_⟩
            exact ⟨_, _, rfl, s10⟩
        · rintro σ H8 _
          exact kk H8
end
theorem er_one {P : Program} {K : PySem.W.Frag} {h : Heap} {mg : Str → Option Value} {n x nm q nmq qq qual txt : Str} {C QE N NQ fI cc cda : Addr} {bs bm bsq bmq : List Value} {sn snq : List Str} {sub subq : List Value} {ab abq : Bool} {col colq : Option Bool} {dd ddq : Option Addr} {k0 k1 k2 k3 k5 j0 j1 j2 j3 j5 : Option Value}
    {oc ct doc pm ccl cl : Value} {od an cdd cld : Option Addr} {osl csl ccs : Array (Option Value)} {vs : Array Value} {file : Str} {tf : Tok} {j : Nat} {mr : List (Str × Const)} {r1 r2 p0 p1 p2 p3 p4 p5 p6 p7 p8 q1 q2 q3 q4 : Pos} (X : K.In h) (G : h.Ns mainGlobals mg)
    (a1 : PySem.W.nsIn K mainGlobals n = some (some (.ref C))) (a2 : PySem.W.nsIn K mainGlobals "QuietError" = some (some (.ref QE))) (a3 : PySem.W.nsIn K mainGlobals "super" = some none)
    (l1 : K.lookup C = some (excClassObj nm q C N bs bm true sn sub ab col dd k0 k1 k2 k3 k5 "ValueError.__new__")) (l2 : K.lookup QE = some (excClassObj nmq qq QE NQ bsq bmq true snq subq abq colq ddq j0 j1 j2 j3 j5 "ValueError.__new__"))
    (b0 : bm = [.ref QE, .type "ValueError", .type "Exception", .type "BaseException", .type "object"]) (b1 : nm = n) (b2 : nmq = "QuietError")
    (iC : PySem.W.findIn K (.ref C) "__init__" = some (some (.ref fI)))
    (lf : K.lookup fI = some ⟨oc, od, .func (PySem.W.ksFn "__init__" qual (eArgs x r1 r2) (eBody x txt j p0 p1 p2 p3 p4 p5 p6 p7 p8 q1 q2 q3 q4) (eScope x mr) .none .none doc pm an (.ref cda) ct cc), osl⟩)
    (lc : K.lookup cda = some ⟨ccl, cdd, .fields vs, ccs⟩) (lcc : K.lookup cc = some ⟨cl, cld, .cell (some (.ref C)), csl⟩)
    (sa : PySem.W.findIn K (.ref C) "__setattr__" = some (some (.builtin "object.__setattr__"))) (exC : PySem.W.subIn K (.ref C) (.type "BaseException") = some true) (tyC : PySem.W.typeIn K (.ref C) = some (.type "type")) (kC : PySem.W.keepIn K (.ref C) = true)
    (noX : PySem.W.findIn K (.ref C) x = some none) (tI : PySem.W.typeIn K (.ref fI) = some (.type "function")) (cd : PySem.W.codeIn K (.ref cda) qual = true) (subC : PySem.W.mroIn K C (.ref C) = some true)
    (opq : PySem.W.nsIn K cStatics "thirdparty.any" = some none) (up : PySem.W.ks_superIn K C C "__init__" = some (some (.builtin "ValueError.__init__"))) (subV : PySem.W.subIn K (.ref C) (.type "ValueError") = some true)
    (ga : PySem.W.findIn K (.ref C) "__getattribute__" = some (some (.builtin "BaseException.__getattribute__"))) (gg : PySem.W.findIn K (.ref C) "__getattr__" = some none) (hdC : PySem.W.hasDictIn K C = true)
    (ha : PySem.W.findIn K (.ref C) "__class__" = some (some (.builtin "object.__class__"))) (hn : PySem.W.specialIn K (.builtin "object.__class__") "__get__" = some (some (.builtin "getset_descriptor.__get__"))) (htk : PySem.W.takesIn K (.builtin "object.__class__") = some true) (hm : PySem.W.mroIn K C (.type "object") = some true)
    (tyQ : PySem.W.typeIn K (.ref QE) = some (.type "type"))
    (v2 : vs[2]? = some (.str file tf)) (fl : ((P.main.file : Str) == file) = true) (tl : txt.length ≤ 1000) (ev : SupEv x txt j p0 p1 p2 p3 p4 p5 p6 p7) (top : (P.main.scope.names.lookup ("super" : Str)).isSome = false) (nx : NmOk x)
    (bd : ∀ us : List Value, us.length = 2 → bindArgs (PySem.W.ksFn "__init__" qual (eArgs x r1 r2) (eBody x txt j p0 p1 p2 p3 p4 p5 p6 p7 p8 q1 q2 q3 q4) (eScope x mr) .none .none doc pm an (.ref cda) ct cc) ⟨us, []⟩ = pure ([("self" : Str), x].zip us)) :
    ∃ r, Er P K mg (n, some x) r := by
  subst b0 b1 b2
  have hcl : PySem.W.clsIn K C = some { name := nm, bases := bs, mro := .ref C :: [.ref QE, .type "ValueError", .type "Exception", .type "BaseException", .type "object"], ns := N, qualname := q, hasDict := true, slotNames := sn, subclasses := sub, abstract := ab, collection := col, hasDel := false } := by unfold PySem.W.clsIn; rw [l1] <;> rfl
  have hclQ : PySem.W.clsIn K QE = some { name := "QuietError", bases := bsq, mro := .ref QE :: bmq, ns := NQ, qualname := qq, hasDict := true, slotNames := snq, subclasses := subq, abstract := abq, collection := colq, hasDel := false } := by unfold PySem.W.clsIn; rw [l2] <;> rfl
  have bdd : Binds K (PySem.W.ksFn "__init__" qual (eArgs x r1 r2) (eBody x txt j p0 p1 p2 p3 p4 p5 p6 p7 p8 q1 q2 q3 q4) (eScope x mr) .none .none doc pm an (.ref cda) ct cc) ["self", x] [] := .all bd
  have mC := PySem.W.mg_of X G a1
  refine ⟨⟨C, fI, cc, QE, _⟩, ⟨⟨by rw [hcl]; rfl, ga, gg, exC, ha, hn, htk, hm⟩, tyC, ⟨_, hcl, rfl, rfl⟩, mC, PySem.W.mg_of X G a2, ⟨_, hclQ, rfl⟩, tyQ⟩, ⟨ga, gg, exC, hdC⟩, nx, ?_, bdd⟩
  exact ⟨mC, ⟨⟨_, _, _, _, _, _, _, _, _, _, _, _, _, _, _, l1, by rfl⟩, sa, exC, tyC, kC⟩, noX, iC, tI, ⟨_, _, _, _, _, _, _, _, _, _, _, _, _, _, _, _, _, _, _, _, _, _, _, _, _, _, _, rfl, lf, cd, tl, ev, _, _, _, _, _, _, lc, v2, fl⟩, ⟨_, _, _, lcc⟩, ⟨_, hcl⟩, subC, PySem.W.mg_none_of X G a3, top, opq, up, subV⟩
theorem er_zero {P : Program} {K : PySem.W.Frag} {h : Heap} {mg : Str → Option Value} {n nm q nmq qq qual txt : Str} {C QE N NQ fI cc cda : Addr} {bs bm bsq bmq : List Value} {sn snq : List Str} {sub subq : List Value} {ab abq : Bool} {col colq : Option Bool} {dd ddq : Option Addr} {k0 k1 k2 k3 k5 j0 j1 j2 j3 j5 : Option Value}
    {oc ct doc pm ccl cl : Value} {od an cdd cld : Option Addr} {osl csl ccs : Array (Option Value)} {vs : Array Value} {file : Str} {tf : Tok} {j : Nat} {mr : List (Str × Const)} {r1 p0 p1 p2 p3 p7 p8 : Pos} (X : K.In h) (G : h.Ns mainGlobals mg)
    (a1 : PySem.W.nsIn K mainGlobals n = some (some (.ref C))) (a2 : PySem.W.nsIn K mainGlobals "QuietError" = some (some (.ref QE))) (a3 : PySem.W.nsIn K mainGlobals "super" = some none)
    (l1 : K.lookup C = some (excClassObj nm q C N bs bm true sn sub ab col dd k0 k1 k2 k3 k5 "ValueError.__new__")) (l2 : K.lookup QE = some (excClassObj nmq qq QE NQ bsq bmq true snq subq abq colq ddq j0 j1 j2 j3 j5 "ValueError.__new__"))
    (b0 : bm = [.ref QE, .type "ValueError", .type "Exception", .type "BaseException", .type "object"]) (b1 : nm = n) (b2 : nmq = "QuietError")
    (iC : PySem.W.findIn K (.ref C) "__init__" = some (some (.ref fI)))
    (lf : K.lookup fI = some ⟨oc, od, .func (PySem.W.ksFn "__init__" qual (eArgs0 r1) (eBody0 txt j p0 p1 p2 p3 p7 p8) (eScope0 mr) .none .none doc pm an (.ref cda) ct cc), osl⟩)
    (lc : K.lookup cda = some ⟨ccl, cdd, .fields vs, ccs⟩) (lcc : K.lookup cc = some ⟨cl, cld, .cell (some (.ref C)), csl⟩)
    (sa : PySem.W.findIn K (.ref C) "__setattr__" = some (some (.builtin "object.__setattr__"))) (exC : PySem.W.subIn K (.ref C) (.type "BaseException") = some true) (tyC : PySem.W.typeIn K (.ref C) = some (.type "type")) (kC : PySem.W.keepIn K (.ref C) = true)
    (tI : PySem.W.typeIn K (.ref fI) = some (.type "function")) (cd : PySem.W.codeIn K (.ref cda) qual = true) (subC : PySem.W.mroIn K C (.ref C) = some true)
    (opq : PySem.W.nsIn K cStatics "thirdparty.any" = some none) (up : PySem.W.ks_superIn K C C "__init__" = some (some (.builtin "ValueError.__init__"))) (subV : PySem.W.subIn K (.ref C) (.type "ValueError") = some true)
    (ga : PySem.W.findIn K (.ref C) "__getattribute__" = some (some (.builtin "BaseException.__getattribute__"))) (gg : PySem.W.findIn K (.ref C) "__getattr__" = some none) (hdC : PySem.W.hasDictIn K C = true)
    (ha : PySem.W.findIn K (.ref C) "__class__" = some (some (.builtin "object.__class__"))) (hn : PySem.W.specialIn K (.builtin "object.__class__") "__get__" = some (some (.builtin "getset_descriptor.__get__"))) (htk : PySem.W.takesIn K (.builtin "object.__class__") = some true) (hm : PySem.W.mroIn K C (.type "object") = some true)
    (tyQ : PySem.W.typeIn K (.ref QE) = some (.type "type"))
    (v2 : vs[2]? = some (.str file tf)) (fl : ((P.main.file : Str) == file) = true) (ev : SupEv0 txt j p0 p1 p2 p3 p7) (top : (P.main.scope.names.lookup ("super" : Str)).isSome = false)
    (bd : ∀ us : List Value, us.length = 1 → bindArgs (PySem.W.ksFn "__init__" qual (eArgs0 r1) (eBody0 txt j p0 p1 p2 p3 p7 p8) (eScope0 mr) .none .none doc pm an (.ref cda) ct cc) ⟨us, []⟩ = pure ([("self" : Str)].zip us)) :
    ∃ r, Er P K mg (n, none) r := by
  subst b0 b1 b2
  have hcl : PySem.W.clsIn K C = some { name := nm, bases := bs, mro := .ref C :: [.ref QE, .type "ValueError", .type "Exception", .type "BaseException", .type "object"], ns := N, qualname := q, hasDict := true, slotNames := sn, subclasses := sub, abstract := ab, collection := col, hasDel := false } := by unfold PySem.W.clsIn; rw [l1] <;> rfl
  have hclQ : PySem.W.clsIn K QE = some { name := "QuietError", bases := bsq, mro := .ref QE :: bmq, ns := NQ, qualname := qq, hasDict := true, slotNames := snq, subclasses := subq, abstract := abq, collection := colq, hasDel := false } := by unfold PySem.W.clsIn; rw [l2] <;> rfl
  have bdd : Binds K (PySem.W.ksFn "__init__" qual (eArgs0 r1) (eBody0 txt j p0 p1 p2 p3 p7 p8) (eScope0 mr) .none .none doc pm an (.ref cda) ct cc) ["self"] [] := .all bd
  have mC := PySem.W.mg_of X G a1
  refine ⟨⟨C, fI, cc, QE, _⟩, ⟨⟨by rw [hcl]; rfl, ga, gg, exC, ha, hn, htk, hm⟩, tyC, ⟨_, hcl, rfl, rfl⟩, mC, PySem.W.mg_of X G a2, ⟨_, hclQ, rfl⟩, tyQ⟩, ⟨ga, gg, exC, hdC⟩, ?_, bdd⟩
  exact ⟨mC, ⟨⟨_, _, _, _, _, _, _, _, _, _, _, _, _, _, _, l1, by rfl⟩, sa, exC, tyC, kC⟩, iC, tI, ⟨_, _, _, _, _, _, _, _, _, _, _, _, _, _, _, _, _, _, _, rfl, lf, cd, ev, _, _, _, _, _, _, lc, v2, fl⟩, ⟨_, _, _, lcc⟩, ⟨_, hcl⟩, subC, PySem.W.mg_none_of X G a3, top, opq, up, subV⟩
/-! ### what the top has written -/
structure FunIn (K : PySem.W.Frag) (mg : Str → Option Value) (x : Str) (st : Stmt) (f : Addr) (fd : FuncData) : Prop where
  F : Fun K x x st f fd
  m : mg x = some (.ref f)
theorem fun_in {K : PySem.W.Frag} {h : Heap} {mg : Str → Option Value} {x : Str} {st : Stmt} {f : Addr} {oc : Value} {od an : Option Addr} {osl : Array (Option Value)} {kV doc pm cdv ct : Value} (X : K.In h) (G : h.Ns mainGlobals mg)
    (a : PySem.W.nsIn K mainGlobals x = some (some (.ref f))) (l : K.lookup f = some ⟨oc, od, .func (PySem.W.fnOf x x (defArgs st) (defBody st) (defScope st) .none kV doc pm an cdv ct), osl⟩)
    (c : PySem.W.codeIn K cdv x = true) (k : PySem.W.keepIn K (.ref f) = true) : ∃ f fd, FunIn K mg x st f fd :=
  ⟨f, _, fun_mk l c k, PySem.W.mg_of X G a⟩
theorem bts_in {K : PySem.W.Frag} {h : Heap} {mg : Str → Option Value} (X : K.In h) (G : h.Ns mainGlobals mg) (z1 : PySem.W.nsIn K mainGlobals "isinstance" = some none) (z2 : PySem.W.nsIn K mainGlobals "bool" = some none) (z3 : PySem.W.nsIn K mainGlobals "str" = some none)
    (z4 : PySem.W.nsIn K mainGlobals "int" = some none) (z5 : PySem.W.nsIn K mainGlobals "list" = some none) (z6 : PySem.W.nsIn K mainGlobals "tuple" = some none) (z7 : PySem.W.nsIn K mainGlobals "len" = some none) (z8 : PySem.W.nsIn K mainGlobals "range" = some none) : Bts mg :=
  ⟨PySem.W.mg_none_of X G z1, PySem.W.mg_none_of X G z2, PySem.W.mg_none_of X G z3, PySem.W.mg_none_of X G z4, PySem.W.mg_none_of X G z5, PySem.W.mg_none_of X G z6, PySem.W.mg_none_of X G z7, PySem.W.mg_none_of X G z8⟩
end Qp
open PySem PySem.W PyProof.Rows
set_option maxRecDepth 100000 in
set_option maxHeartbeats 0 in
theorem PySem.Challenge.cw_quietprobes_k05_errors_and_their_attribu_holds : PySem.Challenge.rw_quietprobes_k05_errors_and_their_attribu.Holds := by
  w_on; o_law; k_head; (case hw => w_witness2)
  k_fill
  refine L2.walk_of (l := PySem.Challenge.rw_quietprobes_k05_errors_and_their_attribu) (n := 63) (k := 6) (x := "script") (CX := fun _ => L2.CX0) (sp := fun w => Qp.spLaw _) rfl (by decide) rfl ⟨rfl, by decide, by decide⟩ (fun w h Y => PySem.W.kIn_of Y) ?F (fun _ _ a ns hl _ hS => ⟨a, ns, rfl, hS, hl, fun _ => rfl⟩) (fun _ _ _ _ _ h => h)
  case F =>
    intro w mg fa h KX G hmg
    obtain ⟨f1, fd1, F1⟩ : ∃ f fd, Qp.FunIn _ mg "_law_pool" Qp.sPool f fd := by
      refine' Qp.fun_in KX G ?a ?l ?c ?k
      (case a => k_is); (case l => k_is); (case c => k_is); (case k => k_is)
    obtain ⟨f2, fd2, F2⟩ : ∃ f fd, Qp.FunIn _ mg "_law_draw" Qp.sDraw f fd := by
      refine' Qp.fun_in KX G ?a ?l ?c ?k
      (case a => k_is); (case l => k_is); (case c => k_is); (case k => k_is)
    obtain ⟨f3, fd3, F3⟩ : ∃ f fd, Qp.FunIn _ mg "_law_word" Qp.sWord f fd := by
      refine' Qp.fun_in KX G ?a ?l ?c ?k
      (case a => k_is); (case l => k_is); (case c => k_is); (case k => k_is)
    obtain ⟨f4, fd4, F4⟩ : ∃ f fd, Qp.FunIn _ mg "_law_object" Qp.sObj f fd := by
      refine' Qp.fun_in KX G ?a ?l ?c ?k
      (case a => k_is); (case l => k_is); (case c => k_is); (case k => k_is)
    obtain ⟨f5, fd5, F5⟩ : ∃ f fd, Qp.FunIn _ mg "_law_same" Qp.sSame f fd := by
      refine' Qp.fun_in KX G ?a ?l ?c ?k
      (case a => k_is); (case l => k_is); (case c => k_is); (case k => k_is)
    obtain ⟨f6, fd6, F6⟩ : ∃ f fd, Qp.FunIn _ mg "_law_classes" Qp.sClasses f fd := by
      refine' Qp.fun_in KX G ?a ?l ?c ?k
      (case a => k_is); (case l => k_is); (case c => k_is); (case k => k_is)
    obtain ⟨f7, fd7, F7⟩ : ∃ f fd, Qp.FunIn _ mg "_law_attributes" Qp.sAttrs f fd := by
      refine' Qp.fun_in KX G ?a ?l ?c ?k
      (case a => k_is); (case l => k_is); (case c => k_is); (case k => k_is)
    obtain ⟨f8, fd8, F8⟩ : ∃ f fd, Qp.FunIn _ mg "law" Qp.sLaw f fd := by
      refine' Qp.fun_in KX G ?a ?l ?c ?k
      (case a => k_is); (case l => k_is); (case c => k_is); (case k => k_is)

    have B : Qp.Bts mg := by
      refine' Qp.bts_in KX G ?z1 ?z2 ?z3 ?z4 ?z5 ?z6 ?z7 ?z8
      (case z1 => k_is); (case z2 => k_is); (case z3 => k_is); (case z4 => k_is); (case z5 => k_is); (case z6 => k_is); (case z7 => k_is); (case z8 => k_is)
    have mV : mg "ValueError" = none := by
      refine' PySem.W.mg_none_of KX G ?zV
      k_is
    have mL : mg "LookupError" = none := by
      refine' PySem.W.mg_none_of KX G ?zL
      k_is
    obtain ⟨r0, e0⟩ : ∃ r, Qp.Er PySem.Challenge.rw_quietprobes_k05_errors_and_their_attribu.prog _ mg ("BadName", some "name") r := by
      refine' Qp.er_one KX G ?a1 ?a2 ?a3 ?l1 ?l2 ?b0 ?b1 ?b2 ?iC ?lf ?lc ?lcc ?sa ?exC ?tyC ?kC ?noX ?tI ?cd ?subC ?opq ?up ?subV ?ga ?gg ?hdC ?ha ?hn ?htk ?hm ?tyQ ?v2 ?fl ?tl ?ev ?top ?nx ?bd
      (case a1 => k_is); (case a2 => k_is); (case a3 => k_is); (case l1 => k_is); (case l2 => k_is); (case b0 => exact rfl); (case b1 => exact rfl); (case b2 => exact rfl); (case iC => k_is); (case lf => k_is); (case lc => k_is); (case lcc => k_is)
      (case sa => k_is); (case exC => k_is); (case tyC => k_is); (case kC => k_is); (case noX => k_is); (case tI => k_is); (case cd => k_is); (case subC => k_is); (case opq => k_is); (case up => ks_is); (case subV => k_is); (case ga => k_is); (case gg => k_is); (case hdC => k_is); (case ha => k_is); (case hn => k_is); (case htk => k_is); (case hm => k_is); (case tyQ => k_is)
      (case v2 => exact rfl); (case fl => exact rfl); (case tl => decide +kernel); (case ev => exact fun env => ⟨_, rfl⟩); (case top => exact rfl); (case nx => exact ⟨by decide, by decide, by decide, by decide, by decide⟩); (case bd => exact fun us hl => match us, hl with | [_, _], _ => rfl)
    obtain ⟨r1, e1⟩ : ∃ r, Qp.Er PySem.Challenge.rw_quietprobes_k05_errors_and_their_attribu.prog _ mg ("BadDeed", some "deed") r := by
      refine' Qp.er_one KX G ?a1 ?a2 ?a3 ?l1 ?l2 ?b0 ?b1 ?b2 ?iC ?lf ?lc ?lcc ?sa ?exC ?tyC ?kC ?noX ?tI ?cd ?subC ?opq ?up ?subV ?ga ?gg ?hdC ?ha ?hn ?htk ?hm ?tyQ ?v2 ?fl ?tl ?ev ?top ?nx ?bd
      (case a1 => k_is); (case a2 => k_is); (case a3 => k_is); (case l1 => k_is); (case l2 => k_is); (case b0 => exact rfl); (case b1 => exact rfl); (case b2 => exact rfl); (case iC => k_is); (case lf => k_is); (case lc => k_is); (case lcc => k_is)
      (case sa => k_is); (case exC => k_is); (case tyC => k_is); (case kC => k_is); (case noX => k_is); (case tI => k_is); (case cd => k_is); (case subC => k_is); (case opq => k_is); (case up => ks_is); (case subV => k_is); (case ga => k_is); (case gg => k_is); (case hdC => k_is); (case ha => k_is); (case hn => k_is); (case htk => k_is); (case hm => k_is); (case tyQ => k_is)
      (case v2 => exact rfl); (case fl => exact rfl); (case tl => decide +kernel); (case ev => exact fun env => ⟨_, rfl⟩); (case top => exact rfl); (case nx => exact ⟨by decide, by decide, by decide, by decide, by decide⟩); (case bd => exact fun us hl => match us, hl with | [_, _], _ => rfl)
    obtain ⟨r2, e2⟩ : ∃ r, Qp.Er PySem.Challenge.rw_quietprobes_k05_errors_and_their_attribu.prog _ mg ("BadRow", some "number") r := by
      refine' Qp.er_one KX G ?a1 ?a2 ?a3 ?l1 ?l2 ?b0 ?b1 ?b2 ?iC ?lf ?lc ?lcc ?sa ?exC ?tyC ?kC ?noX ?tI ?cd ?subC ?opq ?up ?subV ?ga ?gg ?hdC ?ha ?hn ?htk ?hm ?tyQ ?v2 ?fl ?tl ?ev ?top ?nx ?bd
      (case a1 => k_is); (case a2 => k_is); (case a3 => k_is); (case l1 => k_is); (case l2 => k_is); (case b0 => exact rfl); (case b1 => exact rfl); (case b2 => exact rfl); (case iC => k_is); (case lf => k_is); (case lc => k_is); (case lcc => k_is)
      (case sa => k_is); (case exC => k_is); (case tyC => k_is); (case kC => k_is); (case noX => k_is); (case tI => k_is); (case cd => k_is); (case subC => k_is); (case opq => k_is); (case up => ks_is); (case subV => k_is); (case ga => k_is); (case gg => k_is); (case hdC => k_is); (case ha => k_is); (case hn => k_is); (case htk => k_is); (case hm => k_is); (case tyQ => k_is)
      (case v2 => exact rfl); (case fl => exact rfl); (case tl => decide +kernel); (case ev => exact fun env => ⟨_, rfl⟩); (case top => exact rfl); (case nx => exact ⟨by decide, by decide, by decide, by decide, by decide⟩); (case bd => exact fun us hl => match us, hl with | [_, _], _ => rfl)
    obtain ⟨r3, e3⟩ : ∃ r, Qp.Er PySem.Challenge.rw_quietprobes_k05_errors_and_their_attribu.prog _ mg ("BadPlace", some "place") r := by
      refine' Qp.er_one KX G ?a1 ?a2 ?a3 ?l1 ?l2 ?b0 ?b1 ?b2 ?iC ?lf ?lc ?lcc ?sa ?exC ?tyC ?kC ?noX ?tI ?cd ?subC ?opq ?up ?subV ?ga ?gg ?hdC ?ha ?hn ?htk ?hm ?tyQ ?v2 ?fl ?tl ?ev ?top ?nx ?bd
      (case a1 => k_is); (case a2 => k_is); (case a3 => k_is); (case l1 => k_is); (case l2 => k_is); (case b0 => exact rfl); (case b1 => exact rfl); (case b2 => exact rfl); (case iC => k_is); (case lf => k_is); (case lc => k_is); (case lcc => k_is)
      (case sa => k_is); (case exC => k_is); (case tyC => k_is); (case kC => k_is); (case noX => k_is); (case tI => k_is); (case cd => k_is); (case subC => k_is); (case opq => k_is); (case up => ks_is); (case subV => k_is); (case ga => k_is); (case gg => k_is); (case hdC => k_is); (case ha => k_is); (case hn => k_is); (case htk => k_is); (case hm => k_is); (case tyQ => k_is)
      (case v2 => exact rfl); (case fl => exact rfl); (case tl => decide +kernel); (case ev => exact fun env => ⟨_, rfl⟩); (case top => exact rfl); (case nx => exact ⟨by decide, by decide, by decide, by decide, by decide⟩); (case bd => exact fun us hl => match us, hl with | [_, _], _ => rfl)
    obtain ⟨r4, e4⟩ : ∃ r, Qp.Er PySem.Challenge.rw_quietprobes_k05_errors_and_their_attribu.prog _ mg ("BadMode", some "mode") r := by
      refine' Qp.er_one KX G ?a1 ?a2 ?a3 ?l1 ?l2 ?b0 ?b1 ?b2 ?iC ?lf ?lc ?lcc ?sa ?exC ?tyC ?kC ?noX ?tI ?cd ?subC ?opq ?up ?subV ?ga ?gg ?hdC ?ha ?hn ?htk ?hm ?tyQ ?v2 ?fl ?tl ?ev ?top ?nx ?bd
      (case a1 => k_is); (case a2 => k_is); (case a3 => k_is); (case l1 => k_is); (case l2 => k_is); (case b0 => exact rfl); (case b1 => exact rfl); (case b2 => exact rfl); (case iC => k_is); (case lf => k_is); (case lc => k_is); (case lcc => k_is)
      (case sa => k_is); (case exC => k_is); (case tyC => k_is); (case kC => k_is); (case noX => k_is); (case tI => k_is); (case cd => k_is); (case subC => k_is); (case opq => k_is); (case up => ks_is); (case subV => k_is); (case ga => k_is); (case gg => k_is); (case hdC => k_is); (case ha => k_is); (case hn => k_is); (case htk => k_is); (case hm => k_is); (case tyQ => k_is)
      (case v2 => exact rfl); (case fl => exact rfl); (case tl => decide +kernel); (case ev => exact fun env => ⟨_, rfl⟩); (case top => exact rfl); (case nx => exact ⟨by decide, by decide, by decide, by decide, by decide⟩); (case bd => exact fun us hl => match us, hl with | [_, _], _ => rfl)
    obtain ⟨r5, e5⟩ : ∃ r, Qp.Er PySem.Challenge.rw_quietprobes_k05_errors_and_their_attribu.prog _ mg ("BadContents", some "part") r := by
      refine' Qp.er_one KX G ?a1 ?a2 ?a3 ?l1 ?l2 ?b0 ?b1 ?b2 ?iC ?lf ?lc ?lcc ?sa ?exC ?tyC ?kC ?noX ?tI ?cd ?subC ?opq ?up ?subV ?ga ?gg ?hdC ?ha ?hn ?htk ?hm ?tyQ ?v2 ?fl ?tl ?ev ?top ?nx ?bd
      (case a1 => k_is); (case a2 => k_is); (case a3 => k_is); (case l1 => k_is); (case l2 => k_is); (case b0 => exact rfl); (case b1 => exact rfl); (case b2 => exact rfl); (case iC => k_is); (case lf => k_is); (case lc => k_is); (case lcc => k_is)
      (case sa => k_is); (case exC => k_is); (case tyC => k_is); (case kC => k_is); (case noX => k_is); (case tI => k_is); (case cd => k_is); (case subC => k_is); (case opq => k_is); (case up => ks_is); (case subV => k_is); (case ga => k_is); (case gg => k_is); (case hdC => k_is); (case ha => k_is); (case hn => k_is); (case htk => k_is); (case hm => k_is); (case tyQ => k_is)
      (case v2 => exact rfl); (case fl => exact rfl); (case tl => decide +kernel); (case ev => exact fun env => ⟨_, rfl⟩); (case top => exact rfl); (case nx => exact ⟨by decide, by decide, by decide, by decide, by decide⟩); (case bd => exact fun us hl => match us, hl with | [_, _], _ => rfl)
    obtain ⟨r6, e6⟩ : ∃ r, Qp.Er PySem.Challenge.rw_quietprobes_k05_errors_and_their_attribu.prog _ mg ("BadTurn", some "turn") r := by
      refine' Qp.er_one KX G ?a1 ?a2 ?a3 ?l1 ?l2 ?b0 ?b1 ?b2 ?iC ?lf ?lc ?lcc ?sa ?exC ?tyC ?kC ?noX ?tI ?cd ?subC ?opq ?up ?subV ?ga ?gg ?hdC ?ha ?hn ?htk ?hm ?tyQ ?v2 ?fl ?tl ?ev ?top ?nx ?bd
      (case a1 => k_is); (case a2 => k_is); (case a3 => k_is); (case l1 => k_is); (case l2 => k_is); (case b0 => exact rfl); (case b1 => exact rfl); (case b2 => exact rfl); (case iC => k_is); (case lf => k_is); (case lc => k_is); (case lcc => k_is)
      (case sa => k_is); (case exC => k_is); (case tyC => k_is); (case kC => k_is); (case noX => k_is); (case tI => k_is); (case cd => k_is); (case subC => k_is); (case opq => k_is); (case up => ks_is); (case subV => k_is); (case ga => k_is); (case gg => k_is); (case hdC => k_is); (case ha => k_is); (case hn => k_is); (case htk => k_is); (case hm => k_is); (case tyQ => k_is)
      (case v2 => exact rfl); (case fl => exact rfl); (case tl => decide +kernel); (case ev => exact fun env => ⟨_, rfl⟩); (case top => exact rfl); (case nx => exact ⟨by decide, by decide, by decide, by decide, by decide⟩); (case bd => exact fun us hl => match us, hl with | [_, _], _ => rfl)
    obtain ⟨r7, e7⟩ : ∃ r, Qp.Er PySem.Challenge.rw_quietprobes_k05_errors_and_their_attribu.prog _ mg ("BadPair", some "pair") r := by
      refine' Qp.er_one KX G ?a1 ?a2 ?a3 ?l1 ?l2 ?b0 ?b1 ?b2 ?iC ?lf ?lc ?lcc ?sa ?exC ?tyC ?kC ?noX ?tI ?cd ?subC ?opq ?up ?subV ?ga ?gg ?hdC ?ha ?hn ?htk ?hm ?tyQ ?v2 ?fl ?tl ?ev ?top ?nx ?bd
      (case a1 => k_is); (case a2 => k_is); (case a3 => k_is); (case l1 => k_is); (case l2 => k_is); (case b0 => exact rfl); (case b1 => exact rfl); (case b2 => exact rfl); (case iC => k_is); (case lf => k_is); (case lc => k_is); (case lcc => k_is)
      (case sa => k_is); (case exC => k_is); (case tyC => k_is); (case kC => k_is); (case noX => k_is); (case tI => k_is); (case cd => k_is); (case subC => k_is); (case opq => k_is); (case up => ks_is); (case subV => k_is); (case ga => k_is); (case gg => k_is); (case hdC => k_is); (case ha => k_is); (case hn => k_is); (case htk => k_is); (case hm => k_is); (case tyQ => k_is)
      (case v2 => exact rfl); (case fl => exact rfl); (case tl => decide +kernel); (case ev => exact fun env => ⟨_, rfl⟩); (case top => exact rfl); (case nx => exact ⟨by decide, by decide, by decide, by decide, by decide⟩); (case bd => exact fun us hl => match us, hl with | [_, _], _ => rfl)
    obtain ⟨r8, e8⟩ : ∃ r, Qp.Er PySem.Challenge.rw_quietprobes_k05_errors_and_their_attribu.prog _ mg ("BadText", some "line") r := by
      refine' Qp.er_one KX G ?a1 ?a2 ?a3 ?l1 ?l2 ?b0 ?b1 ?b2 ?iC ?lf ?lc ?lcc ?sa ?exC ?tyC ?kC ?noX ?tI ?cd ?subC ?opq ?up ?subV ?ga ?gg ?hdC ?ha ?hn ?htk ?hm ?tyQ ?v2 ?fl ?tl ?ev ?top ?nx ?bd
      (case a1 => k_is); (case a2 => k_is); (case a3 => k_is); (case l1 => k_is); (case l2 => k_is); (case b0 => exact rfl); (case b1 => exact rfl); (case b2 => exact rfl); (case iC => k_is); (case lf => k_is); (case lc => k_is); (case lcc => k_is)
      (case sa => k_is); (case exC => k_is); (case tyC => k_is); (case kC => k_is); (case noX => k_is); (case tI => k_is); (case cd => k_is); (case subC => k_is); (case opq => k_is); (case up => ks_is); (case subV => k_is); (case ga => k_is); (case gg => k_is); (case hdC => k_is); (case ha => k_is); (case hn => k_is); (case htk => k_is); (case hm => k_is); (case tyQ => k_is)
      (case v2 => exact rfl); (case fl => exact rfl); (case tl => decide +kernel); (case ev => exact fun env => ⟨_, rfl⟩); (case top => exact rfl); (case nx => exact ⟨by decide, by decide, by decide, by decide, by decide⟩); (case bd => exact fun us hl => match us, hl with | [_, _], _ => rfl)
    obtain ⟨r9, e9⟩ : ∃ r, Qp.Er PySem.Challenge.rw_quietprobes_k05_errors_and_their_attribu.prog _ mg ("BadCommand", some "command") r := by
      refine' Qp.er_one KX G ?a1 ?a2 ?a3 ?l1 ?l2 ?b0 ?b1 ?b2 ?iC ?lf ?lc ?lcc ?sa ?exC ?tyC ?kC ?noX ?tI ?cd ?subC ?opq ?up ?subV ?ga ?gg ?hdC ?ha ?hn ?htk ?hm ?tyQ ?v2 ?fl ?tl ?ev ?top ?nx ?bd
      (case a1 => k_is); (case a2 => k_is); (case a3 => k_is); (case l1 => k_is); (case l2 => k_is); (case b0 => exact rfl); (case b1 => exact rfl); (case b2 => exact rfl); (case iC => k_is); (case lf => k_is); (case lc => k_is); (case lcc => k_is)
      (case sa => k_is); (case exC => k_is); (case tyC => k_is); (case kC => k_is); (case noX => k_is); (case tI => k_is); (case cd => k_is); (case subC => k_is); (case opq => k_is); (case up => ks_is); (case subV => k_is); (case ga => k_is); (case gg => k_is); (case hdC => k_is); (case ha => k_is); (case hn => k_is); (case htk => k_is); (case hm => k_is); (case tyQ => k_is)
      (case v2 => exact rfl); (case fl => exact rfl); (case tl => decide +kernel); (case ev => exact fun env => ⟨_, rfl⟩); (case top => exact rfl); (case nx => exact ⟨by decide, by decide, by decide, by decide, by decide⟩); (case bd => exact fun us hl => match us, hl with | [_, _], _ => rfl)
    obtain ⟨r10, e10⟩ : ∃ r, Qp.Er PySem.Challenge.rw_quietprobes_k05_errors_and_their_attribu.prog _ mg ("NoThing", some "name") r := by
      refine' Qp.er_one KX G ?a1 ?a2 ?a3 ?l1 ?l2 ?b0 ?b1 ?b2 ?iC ?lf ?lc ?lcc ?sa ?exC ?tyC ?kC ?noX ?tI ?cd ?subC ?opq ?up ?subV ?ga ?gg ?hdC ?ha ?hn ?htk ?hm ?tyQ ?v2 ?fl ?tl ?ev ?top ?nx ?bd
      (case a1 => k_is); (case a2 => k_is); (case a3 => k_is); (case l1 => k_is); (case l2 => k_is); (case b0 => exact rfl); (case b1 => exact rfl); (case b2 => exact rfl); (case iC => k_is); (case lf => k_is); (case lc => k_is); (case lcc => k_is)
      (case sa => k_is); (case exC => k_is); (case tyC => k_is); (case kC => k_is); (case noX => k_is); (case tI => k_is); (case cd => k_is); (case subC => k_is); (case opq => k_is); (case up => ks_is); (case subV => k_is); (case ga => k_is); (case gg => k_is); (case hdC => k_is); (case ha => k_is); (case hn => k_is); (case htk => k_is); (case hm => k_is); (case tyQ => k_is)
      (case v2 => exact rfl); (case fl => exact rfl); (case tl => decide +kernel); (case ev => exact fun env => ⟨_, rfl⟩); (case top => exact rfl); (case nx => exact ⟨by decide, by decide, by decide, by decide, by decide⟩); (case bd => exact fun us hl => match us, hl with | [_, _], _ => rfl)
    obtain ⟨r11, e11⟩ : ∃ r, Qp.Er PySem.Challenge.rw_quietprobes_k05_errors_and_their_attribu.prog _ mg ("NoKey", some "key") r := by
      refine' Qp.er_one KX G ?a1 ?a2 ?a3 ?l1 ?l2 ?b0 ?b1 ?b2 ?iC ?lf ?lc ?lcc ?sa ?exC ?tyC ?kC ?noX ?tI ?cd ?subC ?opq ?up ?subV ?ga ?gg ?hdC ?ha ?hn ?htk ?hm ?tyQ ?v2 ?fl ?tl ?ev ?top ?nx ?bd
      (case a1 => k_is); (case a2 => k_is); (case a3 => k_is); (case l1 => k_is); (case l2 => k_is); (case b0 => exact rfl); (case b1 => exact rfl); (case b2 => exact rfl); (case iC => k_is); (case lf => k_is); (case lc => k_is); (case lcc => k_is)
      (case sa => k_is); (case exC => k_is); (case tyC => k_is); (case kC => k_is); (case noX => k_is); (case tI => k_is); (case cd => k_is); (case subC => k_is); (case opq => k_is); (case up => ks_is); (case subV => k_is); (case ga => k_is); (case gg => k_is); (case hdC => k_is); (case ha => k_is); (case hn => k_is); (case htk => k_is); (case hm => k_is); (case tyQ => k_is)
      (case v2 => exact rfl); (case fl => exact rfl); (case tl => decide +kernel); (case ev => exact fun env => ⟨_, rfl⟩); (case top => exact rfl); (case nx => exact ⟨by decide, by decide, by decide, by decide, by decide⟩); (case bd => exact fun us hl => match us, hl with | [_, _], _ => rfl)
    obtain ⟨r12, e12⟩ : ∃ r, Qp.Er PySem.Challenge.rw_quietprobes_k05_errors_and_their_attribu.prog _ mg ("NoPart", some "name") r := by
      refine' Qp.er_one KX G ?a1 ?a2 ?a3 ?l1 ?l2 ?b0 ?b1 ?b2 ?iC ?lf ?lc ?lcc ?sa ?exC ?tyC ?kC ?noX ?tI ?cd ?subC ?opq ?up ?subV ?ga ?gg ?hdC ?ha ?hn ?htk ?hm ?tyQ ?v2 ?fl ?tl ?ev ?top ?nx ?bd
      (case a1 => k_is); (case a2 => k_is); (case a3 => k_is); (case l1 => k_is); (case l2 => k_is); (case b0 => exact rfl); (case b1 => exact rfl); (case b2 => exact rfl); (case iC => k_is); (case lf => k_is); (case lc => k_is); (case lcc => k_is)
      (case sa => k_is); (case exC => k_is); (case tyC => k_is); (case kC => k_is); (case noX => k_is); (case tI => k_is); (case cd => k_is); (case subC => k_is); (case opq => k_is); (case up => ks_is); (case subV => k_is); (case ga => k_is); (case gg => k_is); (case hdC => k_is); (case ha => k_is); (case hn => k_is); (case htk => k_is); (case hm => k_is); (case tyQ => k_is)
      (case v2 => exact rfl); (case fl => exact rfl); (case tl => decide +kernel); (case ev => exact fun env => ⟨_, rfl⟩); (case top => exact rfl); (case nx => exact ⟨by decide, by decide, by decide, by decide, by decide⟩); (case bd => exact fun us hl => match us, hl with | [_, _], _ => rfl)
    obtain ⟨r13, e13⟩ : ∃ r, Qp.Er PySem.Challenge.rw_quietprobes_k05_errors_and_their_attribu.prog _ mg ("NoRow", some "number") r := by
      refine' Qp.er_one KX G ?a1 ?a2 ?a3 ?l1 ?l2 ?b0 ?b1 ?b2 ?iC ?lf ?lc ?lcc ?sa ?exC ?tyC ?kC ?noX ?tI ?cd ?subC ?opq ?up ?subV ?ga ?gg ?hdC ?ha ?hn ?htk ?hm ?tyQ ?v2 ?fl ?tl ?ev ?top ?nx ?bd
      (case a1 => k_is); (case a2 => k_is); (case a3 => k_is); (case l1 => k_is); (case l2 => k_is); (case b0 => exact rfl); (case b1 => exact rfl); (case b2 => exact rfl); (case iC => k_is); (case lf => k_is); (case lc => k_is); (case lcc => k_is)
      (case sa => k_is); (case exC => k_is); (case tyC => k_is); (case kC => k_is); (case noX => k_is); (case tI => k_is); (case cd => k_is); (case subC => k_is); (case opq => k_is); (case up => ks_is); (case subV => k_is); (case ga => k_is); (case gg => k_is); (case hdC => k_is); (case ha => k_is); (case hn => k_is); (case htk => k_is); (case hm => k_is); (case tyQ => k_is)
      (case v2 => exact rfl); (case fl => exact rfl); (case tl => decide +kernel); (case ev => exact fun env => ⟨_, rfl⟩); (case top => exact rfl); (case nx => exact ⟨by decide, by decide, by decide, by decide, by decide⟩); (case bd => exact fun us hl => match us, hl with | [_, _], _ => rfl)
    obtain ⟨r14, e14⟩ : ∃ r, Qp.Er PySem.Challenge.rw_quietprobes_k05_errors_and_their_attribu.prog _ mg ("NoProbe", some "name") r := by
      refine' Qp.er_one KX G ?a1 ?a2 ?a3 ?l1 ?l2 ?b0 ?b1 ?b2 ?iC ?lf ?lc ?lcc ?sa ?exC ?tyC ?kC ?noX ?tI ?cd ?subC ?opq ?up ?subV ?ga ?gg ?hdC ?ha ?hn ?htk ?hm ?tyQ ?v2 ?fl ?tl ?ev ?top ?nx ?bd
      (case a1 => k_is); (case a2 => k_is); (case a3 => k_is); (case l1 => k_is); (case l2 => k_is); (case b0 => exact rfl); (case b1 => exact rfl); (case b2 => exact rfl); (case iC => k_is); (case lf => k_is); (case lc => k_is); (case lcc => k_is)
      (case sa => k_is); (case exC => k_is); (case tyC => k_is); (case kC => k_is); (case noX => k_is); (case tI => k_is); (case cd => k_is); (case subC => k_is); (case opq => k_is); (case up => ks_is); (case subV => k_is); (case ga => k_is); (case gg => k_is); (case hdC => k_is); (case ha => k_is); (case hn => k_is); (case htk => k_is); (case hm => k_is); (case tyQ => k_is)
      (case v2 => exact rfl); (case fl => exact rfl); (case tl => decide +kernel); (case ev => exact fun env => ⟨_, rfl⟩); (case top => exact rfl); (case nx => exact ⟨by decide, by decide, by decide, by decide, by decide⟩); (case bd => exact fun us hl => match us, hl with | [_, _], _ => rfl)
    obtain ⟨r15, e15⟩ : ∃ r, Qp.Er PySem.Challenge.rw_quietprobes_k05_errors_and_their_attribu.prog _ mg ("NotNested", some "name") r := by
      refine' Qp.er_one KX G ?a1 ?a2 ?a3 ?l1 ?l2 ?b0 ?b1 ?b2 ?iC ?lf ?lc ?lcc ?sa ?exC ?tyC ?kC ?noX ?tI ?cd ?subC ?opq ?up ?subV ?ga ?gg ?hdC ?ha ?hn ?htk ?hm ?tyQ ?v2 ?fl ?tl ?ev ?top ?nx ?bd
      (case a1 => k_is); (case a2 => k_is); (case a3 => k_is); (case l1 => k_is); (case l2 => k_is); (case b0 => exact rfl); (case b1 => exact rfl); (case b2 => exact rfl); (case iC => k_is); (case lf => k_is); (case lc => k_is); (case lcc => k_is)
      (case sa => k_is); (case exC => k_is); (case tyC => k_is); (case kC => k_is); (case noX => k_is); (case tI => k_is); (case cd => k_is); (case subC => k_is); (case opq => k_is); (case up => ks_is); (case subV => k_is); (case ga => k_is); (case gg => k_is); (case hdC => k_is); (case ha => k_is); (case hn => k_is); (case htk => k_is); (case hm => k_is); (case tyQ => k_is)
      (case v2 => exact rfl); (case fl => exact rfl); (case tl => decide +kernel); (case ev => exact fun env => ⟨_, rfl⟩); (case top => exact rfl); (case nx => exact ⟨by decide, by decide, by decide, by decide, by decide⟩); (case bd => exact fun us hl => match us, hl with | [_, _], _ => rfl)
    obtain ⟨r16, e16⟩ : ∃ r, Qp.Er PySem.Challenge.rw_quietprobes_k05_errors_and_their_attribu.prog _ mg ("Twice", some "name") r := by
      refine' Qp.er_one KX G ?a1 ?a2 ?a3 ?l1 ?l2 ?b0 ?b1 ?b2 ?iC ?lf ?lc ?lcc ?sa ?exC ?tyC ?kC ?noX ?tI ?cd ?subC ?opq ?up ?subV ?ga ?gg ?hdC ?ha ?hn ?htk ?hm ?tyQ ?v2 ?fl ?tl ?ev ?top ?nx ?bd
      (case a1 => k_is); (case a2 => k_is); (case a3 => k_is); (case l1 => k_is); (case l2 => k_is); (case b0 => exact rfl); (case b1 => exact rfl); (case b2 => exact rfl); (case iC => k_is); (case lf => k_is); (case lc => k_is); (case lcc => k_is)
      (case sa => k_is); (case exC => k_is); (case tyC => k_is); (case kC => k_is); (case noX => k_is); (case tI => k_is); (case cd => k_is); (case subC => k_is); (case opq => k_is); (case up => ks_is); (case subV => k_is); (case ga => k_is); (case gg => k_is); (case hdC => k_is); (case ha => k_is); (case hn => k_is); (case htk => k_is); (case hm => k_is); (case tyQ => k_is)
      (case v2 => exact rfl); (case fl => exact rfl); (case tl => decide +kernel); (case ev => exact fun env => ⟨_, rfl⟩); (case top => exact rfl); (case nx => exact ⟨by decide, by decide, by decide, by decide, by decide⟩); (case bd => exact fun us hl => match us, hl with | [_, _], _ => rfl)
    obtain ⟨r17, e17⟩ : ∃ r, Qp.Er PySem.Challenge.rw_quietprobes_k05_errors_and_their_attribu.prog _ mg ("Unmatched", some "number") r := by
      refine' Qp.er_one KX G ?a1 ?a2 ?a3 ?l1 ?l2 ?b0 ?b1 ?b2 ?iC ?lf ?lc ?lcc ?sa ?exC ?tyC ?kC ?noX ?tI ?cd ?subC ?opq ?up ?subV ?ga ?gg ?hdC ?ha ?hn ?htk ?hm ?tyQ ?v2 ?fl ?tl ?ev ?top ?nx ?bd
      (case a1 => k_is); (case a2 => k_is); (case a3 => k_is); (case l1 => k_is); (case l2 => k_is); (case b0 => exact rfl); (case b1 => exact rfl); (case b2 => exact rfl); (case iC => k_is); (case lf => k_is); (case lc => k_is); (case lcc => k_is)
      (case sa => k_is); (case exC => k_is); (case tyC => k_is); (case kC => k_is); (case noX => k_is); (case tI => k_is); (case cd => k_is); (case subC => k_is); (case opq => k_is); (case up => ks_is); (case subV => k_is); (case ga => k_is); (case gg => k_is); (case hdC => k_is); (case ha => k_is); (case hn => k_is); (case htk => k_is); (case hm => k_is); (case tyQ => k_is)
      (case v2 => exact rfl); (case fl => exact rfl); (case tl => decide +kernel); (case ev => exact fun env => ⟨_, rfl⟩); (case top => exact rfl); (case nx => exact ⟨by decide, by decide, by decide, by decide, by decide⟩); (case bd => exact fun us hl => match us, hl with | [_, _], _ => rfl)
    obtain ⟨r18, e18⟩ : ∃ r, Qp.Er PySem.Challenge.rw_quietprobes_k05_errors_and_their_attribu.prog _ mg ("TooMany", some "limit") r := by
      refine' Qp.er_one KX G ?a1 ?a2 ?a3 ?l1 ?l2 ?b0 ?b1 ?b2 ?iC ?lf ?lc ?lcc ?sa ?exC ?tyC ?kC ?noX ?tI ?cd ?subC ?opq ?up ?subV ?ga ?gg ?hdC ?ha ?hn ?htk ?hm ?tyQ ?v2 ?fl ?tl ?ev ?top ?nx ?bd
      (case a1 => k_is); (case a2 => k_is); (case a3 => k_is); (case l1 => k_is); (case l2 => k_is); (case b0 => exact rfl); (case b1 => exact rfl); (case b2 => exact rfl); (case iC => k_is); (case lf => k_is); (case lc => k_is); (case lcc => k_is)
      (case sa => k_is); (case exC => k_is); (case tyC => k_is); (case kC => k_is); (case noX => k_is); (case tI => k_is); (case cd => k_is); (case subC => k_is); (case opq => k_is); (case up => ks_is); (case subV => k_is); (case ga => k_is); (case gg => k_is); (case hdC => k_is); (case ha => k_is); (case hn => k_is); (case htk => k_is); (case hm => k_is); (case tyQ => k_is)
      (case v2 => exact rfl); (case fl => exact rfl); (case tl => decide +kernel); (case ev => exact fun env => ⟨_, rfl⟩); (case top => exact rfl); (case nx => exact ⟨by decide, by decide, by decide, by decide, by decide⟩); (case bd => exact fun us hl => match us, hl with | [_, _], _ => rfl)
    obtain ⟨r19, e19⟩ : ∃ r, Qp.Er PySem.Challenge.rw_quietprobes_k05_errors_and_their_attribu.prog _ mg ("Watched", none) r := by
      refine' Qp.er_zero KX G ?a1 ?a2 ?a3 ?l1 ?l2 ?b0 ?b1 ?b2 ?iC ?lf ?lc ?lcc ?sa ?exC ?tyC ?kC ?tI ?cd ?subC ?opq ?up ?subV ?ga ?gg ?hdC ?ha ?hn ?htk ?hm ?tyQ ?v2 ?fl ?ev ?top ?bd
      (case a1 => k_is); (case a2 => k_is); (case a3 => k_is); (case l1 => k_is); (case l2 => k_is); (case b0 => exact rfl); (case b1 => exact rfl); (case b2 => exact rfl); (case iC => k_is); (case lf => k_is); (case lc => k_is); (case lcc => k_is)
      (case sa => k_is); (case exC => k_is); (case tyC => k_is); (case kC => k_is); (case tI => k_is); (case cd => k_is); (case subC => k_is); (case opq => k_is); (case up => ks_is); (case subV => k_is); (case ga => k_is); (case gg => k_is); (case hdC => k_is); (case ha => k_is); (case hn => k_is); (case htk => k_is); (case hm => k_is); (case tyQ => k_is)
      (case v2 => exact rfl); (case fl => exact rfl); (case ev => exact fun env => ⟨_, rfl⟩); (case top => exact rfl); (case bd => exact fun us hl => match us, hl with | [_], _ => rfl)
    obtain ⟨r20, e20⟩ : ∃ r, Qp.Er PySem.Challenge.rw_quietprobes_k05_errors_and_their_attribu.prog _ mg ("Over", none) r := by
      refine' Qp.er_zero KX G ?a1 ?a2 ?a3 ?l1 ?l2 ?b0 ?b1 ?b2 ?iC ?lf ?lc ?lcc ?sa ?exC ?tyC ?kC ?tI ?cd ?subC ?opq ?up ?subV ?ga ?gg ?hdC ?ha ?hn ?htk ?hm ?tyQ ?v2 ?fl ?ev ?top ?bd
      (case a1 => k_is); (case a2 => k_is); (case a3 => k_is); (case l1 => k_is); (case l2 => k_is); (case b0 => exact rfl); (case b1 => exact rfl); (case b2 => exact rfl); (case iC => k_is); (case lf => k_is); (case lc => k_is); (case lcc => k_is)
      (case sa => k_is); (case exC => k_is); (case tyC => k_is); (case kC => k_is); (case tI => k_is); (case cd => k_is); (case subC => k_is); (case opq => k_is); (case up => ks_is); (case subV => k_is); (case ga => k_is); (case gg => k_is); (case hdC => k_is); (case ha => k_is); (case hn => k_is); (case htk => k_is); (case hm => k_is); (case tyQ => k_is)
      (case v2 => exact rfl); (case fl => exact rfl); (case ev => exact fun env => ⟨_, rfl⟩); (case top => exact rfl); (case bd => exact fun us hl => match us, hl with | [_], _ => rfl)
    have R : Qp.ErAll PySem.Challenge.rw_quietprobes_k05_errors_and_their_attribu.prog _ mg (fun j => [r0, r1, r2, r3, r4, r5, r6, r7, r8, r9, r10, r11, r12, r13, r14, r15, r16, r17, r18, r19, r20].getD j r0) := fun j hj => by
      match j, hj with
      | 0, _ => exact e0
      | 1, _ => exact e1
      | 2, _ => exact e2
      | 3, _ => exact e3
      | 4, _ => exact e4
      | 5, _ => exact e5
      | 6, _ => exact e6
      | 7, _ => exact e7
      | 8, _ => exact e8
      | 9, _ => exact e9
      | 10, _ => exact e10
      | 11, _ => exact e11
      | 12, _ => exact e12
      | 13, _ => exact e13
      | 14, _ => exact e14
      | 15, _ => exact e15
      | 16, _ => exact e16
      | 17, _ => exact e17
      | 18, _ => exact e18
      | 19, _ => exact e19
      | 20, _ => exact e20
      | n + 21, h => exact absurd h (by omega)
    have bP := F1.F.binds (ps := ["script"]) fun _ _ _ _ _ _ us hl => match us, hl with | [_], _ => rfl
    have bD := F2.F.binds (ps := ["pool", "many"]) fun _ _ _ _ _ _ us hl => match us, hl with | [_, _], _ => rfl
    have bW := F3.F.binds (ps := ["pool"]) fun _ _ _ _ _ _ us hl => match us, hl with | [_], _ => rfl
    have bO := F4.F.binds (ps := ["pool", "depth"]) fun _ _ _ _ _ _ us hl => match us, hl with | [_, _], _ => rfl
    have bS := F5.F.binds (ps := ["actual", "due"]) fun _ _ _ _ _ _ us hl => match us, hl with | [_, _], _ => rfl
    have bC := F6.F.binds (ps := ["error"]) fun _ _ _ _ _ _ us hl => match us, hl with | [_], _ => rfl
    have bA := F7.F.binds (ps := ["errors"]) fun _ _ _ _ _ _ us hl => match us, hl with | [_], _ => rfl
    have e := hmg.symm.trans F8.m
    cases e
    obtain ⟨oc, od, kV, doc, pm, an, cdv, ct, osl, rfl, lk, hcd⟩ := F8.F.ex
    refine ⟨_, fun s v => .of_eq rfl, fun base _ _ => Qp.ok_law F8.F ?_ R B mV mL⟩
    have gD := Qp.ok_draw (P := PySem.Challenge.rw_quietprobes_k05_errors_and_their_attribu.prog) (w := w) (base := base) (k := 0) F2.F B.int
    have gW := Qp.ok_word F3.F gD F2.m F2.F.kp bD B.range
    exact ⟨f1, f4, f5, f6, f7, fd1, fd4, fd5, fd6, fd7, Qp.ok_pool F1.F B.list, Qp.ok_obj F4.F F4.m bO gD F2.m F2.F.kp bD gW F3.m F3.F.kp bW B 3, Qp.ok_same F5.F B F5.m bS 4, Qp.ok_cls F6.F R B.isinstance, Qp.ok_ats F7.F R,
      bP, bO, bS, bC, bA, F1.m, F4.m, F5.m, F6.m, F7.m, F1.F.kp, F4.F.kp, F5.F.kp, F6.F.kp, F7.F.kp⟩
